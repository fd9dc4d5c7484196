import PyProof.Rows.All
import Wide.All
import OpenK.AllK
import Wide.FinOn
import Lean
import PyProof.EqAt
import PyProof.EqKinds
import PyProof.TupleCall
import PySem.Challenge.RW_dialvault_k11_vaults_taken_and_refused
set_option compiler.extract_closed false
set_option compiler.reuse false
set_option compiler.small 0
set_option Elab.async false
set_option linter.all false
set_option maxRecDepth 100000
set_option maxHeartbeats 0
open PySem renaming wpAny_bind->Na,wpAny_pure->Nh,wpAny_field->NK,wpAny_callSpecial?_slot->N7,wpAny_holding->Ou,wpAny_mono->Ow,wpAny_newObj_type->Oz,wpAny_call_entry->OO,wpAny_Call_Name_kw->OR,wpAny_seqItems->OS,wpAny_setField_rec->OU,wpAny_passesOwn->OY,wpAny_truthy_bool->O0,mem_of_lookup->O6,wpAny_pyIter_tuple->Pb,wpAny_standAt->Pw,wpAny_execs_nil->PD,call_meets->PL,wpAny_pyIter_list->PZ,wpAny_loadPart->P6,wpAny_pyIter_enum->Qa,wpAny_setField->Qc,plainObj_wpAny_Assign_Attribute->Qi,wpAny_attempt->Qp,wpAny_updateSeq_pair->Qy,wpAny_loadPart'->QF,codeAny_mono->QU,wpAny_letOwnedTupleGo_enum->Q2,wpAny_call->Q3,wpAny_binaryOp_repeat_ref->Q8,wpAny_loadPart_at->Rb,wpAny_onRaise->Rh,noFill_tuple_add->Rl,typeIs_int->RA,wpAny_ite_false->RI,codeAny_handlers_test->RK,codeAny_call_builtin->RO,wpAny_handleBy_cons->RY,seq_tuple_add->RZ,wpAny_rule->R9,Within->Sl,wpAny_assign_Name->Sm,concat_meets->SA,wpAny_sequenceKey->SD,wpAny_typeOf->SE,seqIndex_neg->SG,slot_list_getitem->SH,seqSlot_of->S6,seqIndex_of->Tc,wpAny_letGo->Td,wpAny_Name->Tz
open PySem.W renaming Frag->Nb,kitOne->Ng,findIn->NO,keepIn->NS,kia_one->NW,fnOf->N6,emptyDict->Od,kitAny->Oi,codeIn->OG,instObj->OH,InstAt->OQ,clsIn->O4,any_some->O8,typeIn->Pf,looks_findIn->Pg,isFn->Pk,Looks->PB,takerIn->PF,callWith_K->PM,lookIn->P4,hasDictIn->P5,specialIn->P7,kitx_list->P8,kitx_dict->P9,exmOne->Qe,plainGet->Qk,excIn->Qs,takesIn->QB,findObj->QD,plainGet_of->QI,looks_clsIn->QJ,looks_mroIn->QK,methodObj->Q_,mroIn->Rf,cellsFrom_some->Rx,nsIn->RC,kia_tup->RH,findObj_own->RU,kitx_float->R6,kitx_tuple->R7,check_slot->R_,looks_find->Sa,isNs_of_in->Sd,tail_of_in->Se,plainOver->Sn,set_plain->So,kitx_none->Sv,kitx_bool->Sw,handedIn->SQ,kitx_int->SS,kitx_str->SW,kitx_own->SX,makesIn->Th,bind_fn->Ti,exm_one->Tq,mg_of->TR,KitX->TY
open PySem.Heap renaming get?_push_of_some->Nc,lt_size->Nk,get?_push_size->Nq,get?_update_other->N2,size_push->N4,get?_update_self->OE,get?_none_of_le->Pe,SameBut->PY
open List renaming getElem?_eq_getElem->Nd,replicate->Ni,mem_cons_of_mem->Nl,length_map->Nm,size_toArray->Nn,mem_cons_self->Nt,getD_eq_getElem?_getD->Nz,mem_cons->NB,range->ND,length_append->NG,map_cons->NJ,mem_append_right->NN,getElem?_map->NP,mem_range->NR,append_nil->NX,getElem?_eq_some_iff->NY,mem_singleton->N3,replicate_succ->N5,getElem?_append_right->N8,length_cons->N_,lookup_cons->Oa,all_eq_true->Ob,getElem?_set->Oe,length_range->Of,flatten_cons->OA,mem_map->OB,getElem?_append_left->OC,drop_eq_getElem_cons->OD,length_mapIdx->OV,mem_append->OX,length_set->OZ,mem_nil_iff->O9,set_cons_zero->Pc,lookup->Ph,not_mem_nil->Pn,length_pos_iff->Pu,of_mem_zip->PJ,getElem?_replicate->PN,length_eq_zero_iff->PU,drop_eq_nil_of_le->Qd,map_map->Qf,map_id'->Qh,length_replicate->Qj,length_take->Ql,ext_getElem->Qn,mem_append_left->Qu,getElem?_set_ne->Qw,nodup_cons->QC,filterMap_cons->QG,getElem_of_mem->QL,length_zipWith->QN,map_nil->QT,zipWith->QV,foldl->Q0,mem_or_eq_of_mem_set->Q9,append_assoc->Ra,length_drop->Rm,getElem_mem->Rp,getElem?_set_self->Rw,filter_eq_nil_iff->RG,find?_cons->RJ,mem_of_getElem?->RN,getElem?_mapIdx->RP,mem_filterMap->R3,mem_replicate->Sg,map_replicate->Sk,all_map->SK,zipIdx_cons->S4,length_tail->S7,map_zipWith->S9,mem_filter->Tg,nil_append->Tj,zipIdx_nil->To,forIn_cons->Tp,range_succ->Tr,length_zip->Tv,map_append->Tw,forIn_nil->TF,all_cons->TQ
open Option renaming map_eq_some_iff->Nf,bind_eq_some_iff->Oq,isSome_iff_exists->Px,getD_some->Ro,getD_none->S3,bind_some->S5
open PySem.Value renaming ref->Nj,none->NQ,type->Ov,bool->OP,builtin->Qq,int->Rj,str->Rk,float->RM,bytes->TZ
open Nat renaming le_refl->Np,lt_of_lt_of_le->Nr,ne_of_lt->Ny,zero_le->NT,le_trans->NZ,lt_succ_self->Om,lt_irrefl->OF,lcm->O1,ne_of_gt->O_,lt_of_le_of_lt->Pa,mul_le_mul_left->Pq,le_of_lt->PX,le_add_right->Qm,le_of_dvd->Qt,le_succ->Qx,pow_le_pow_right->Qz,mul_le_mul_right->QA,mul_comm->QS,le_of_eq->Ss,add_comm->SI,lt_or_ge->SN,dvd_lcm_right->SO,succ_ne_self->S8,log2_lt->Tf,mul_le_mul->TJ
open PySem.W.Fast renaming te4187177175401517315->Nu,te5923862056798008813->Nv,te14364793385576792824->NH,te10110043849684766642->Og
open Option.some renaming inj->Nx
open Int renaming toNat_natCast->NC,emod_lt_of_pos->Ol,eq_ofNat_of_zero_le->Ot,emod_nonneg->OJ,gcd->O7,fdiv_eq_ediv_of_nonneg->Pj,natAbs_mul->Qg,toNat_of_nonneg->QM,ofNat_dvd->Ri,dvd_mul_left->Rt,emod_eq_zero_of_dvd->Ru,mul_ediv_add_emod->RL,natAbs_neg->RQ,dvd_trans->R1,lt_of_le_of_lt->Si,natCast_nonneg->Sj,ofNat_le->SM,gcd_dvd_left->S_,ediv_nonneg->Tu,mul_nonneg->TH,natAbs_dvd->TL,mul_assoc->TU,toNat->TV
open PySem.Str renaming ofString->NF
open PySem.Builtin.SmallTypes renaming nextOf->NI,ownedTupleIsFree->Oh,ownedTupleHandOut->Pp
open Eq renaming trans->NL
open Bool renaming and_eq_true_iff->NU,false_ne_true->N1,and_eq_true->Oo,true_and->O5,eq_iff_iff->QE,false_and->QX,false_eq_true->Sh,not_eq_true'->SJ,and_false->TM,or_false->TN
open PyProof.Rows renaming slot_tuple_getitem->NV,callWith_type1->OM,subscriptTail_builtinR->Ry,entry_tuple_getitem->RV,args_tuple_getitem->R8
open Array renaming getElem?_eq_some_iff->N9,length_toList->QH,find?_toList->R4,toList->TX
open PySem.AutoSeq1 renaming wpAny_loadPart'->Oj,sub_tuple_tuple->PC,idx_int->Rq
open False renaming elim->Ox
open True renaming intro->OI
open Ne renaming symm->OL
open PySem.Obj renaming mapFields->ON,data_mapFields->OT,isFreed_of_fields->Pd,mapSeq->Rz
open PySem.Builtin.Slice renaming slicePlaces->OW,sliceAdjust->Po,sliceApplied->QY
open PySem.Builtin.Tuple renaming tupleExact->O3,tupleItemsOf->QZ,tupleTooMany->Q4
open PySem.F renaming args_tuple_add_2->Py,entry_tuple_add->PR,slot_tuple_add->P_,excBase_ValueError->Q5,attr_ValueError->Rn,plainAttrs_list->Rr
open PySem.Builtin.List renaming listTooLong->Pz
open PySem.PyData renaming depthAll->PK,canLay0->Q6,canLayAll0->Rc,depth->RD,eqv->Sf,list->T3,str->T5
open PySem.NameKind renaming free->Qo,cell->R0
open PySem.Builtin.Int renaming intBits->QO
open PySem.Calls renaming Name_function_global->QW,callWith_builtin->RB
open PySem.SeqAt renaming shaped->Q7
open Sum renaming inl->Rv,inr->RS
open Nat.succ renaming inj->RE
open PySem.Flow renaming next->RT
open PySem.Heap.SameBut renaming update->RW
open PySem.EntryCells renaming newEntry->RX
open PySem.W.Looks renaming here->R5
open PySem.Code renaming quiet_builtin->Sb,isFrame->Sy
open PySem.Within renaming cons->Sq
open PySem.Heap.Ns1 renaming of_empty->Su
open PySem.Around renaming under->Sx
open PyProof.Rows.IsTup renaming new->SY
open PySem.Shared renaming heap->Te
open ForInStep renaming yield->Tn
open PySem.W.Frag renaming In->Tt
open PySem.Heap.IsSliceOf renaming new->T4
set_option hygiene false
local macro_rules|`(⋯)=>`(by lia)
local macro_rules|`(↑$n:num)=>#[`(starEach (e::es) X.env=(false,eval e X.env)::starEach es X.env),`(X.fn x=true\/X.env.scope.names.lookup x=some .local),`((backTo pos (starEach es X.env)).any (·.1)=false),`(by first|exact .inl rfl|exact .inr (.inl rfl)),`(.cons rfl rfl (by walk_at "l") rfl rfl .nil),`(∀x,foldedSetIterable iter X.env x=pure x),`((x==("__classdict__" : Str))=false),`((x==("__debug__" : Str))=false),`(model X.prog X.w),`(by walk_at "l"),`(by kernel_rfl),`(model prog w),`(by decide),`(by simp)][n.getNat]!
noncomputable section
def aR(h:True:=by rfl):True:=h
def aD(h:True:=by decide):True:=h
def aI(h:True:=by intro _;rfl):True:=h
def aK(h:True:=by kernel_rfl):True:=h
def aF(h:True:=by first|exact .inl rfl|exact .inr rfl|assumption):True:=h
def aU(h:True:=by with_unfolding_all rfl):True:=h
def aN(h:True:=by decide +kernel):True:=h
def aG(h:True:=by first|exact .inl rfl|exact .inr rfl):True:=h
namespace L2
open PySem PySem.Spec PyProof.Rows
abbrev Key:=Sum Int Str
def BX:Key->Value->Bool
 | .inl k,v=>Value.isInt k v
 |.inr x,v=>Value.isStrOf x v
def HW(w:World):Key->Int
 | .inl k=>hashInt k
 |.inr x=>hashStr w x
def bR:∀{k:Key}{v:Value},BX k v=true->(∃i t,k=Rv i/\v=Rj i t)\/(∃x t,k=RS x/\v=Rk x t)
 | .inl i,v,h=>by
  obtain⟨t,e⟩:=Value.isInt_shape (k:=i) (v:=v) h;exact .inl ⟨i,t,rfl,e⟩
 | .inr x,v,h=>by
  obtain⟨t,e⟩:=Value.isStrOf_shape (x:=x) (v:=v) h;exact .inr ⟨x,t,rfl,e⟩
def Er(a b:Int):decide ((Rv a:Key)=Rv b)=(a==b):=by
 by_cases e:a=b
 .subst e;simp
 .have h:¬ (Rv a:Key)=Rv b:=λq=>e (Sum.inl.inj q);rw[decide_eq_false h];exact(beq_eq_false_iff_ne.mpr e).symm
def CJ(a b:Str):decide ((RS a:Key)=RS b)=decide (a=b):=by
 by_cases e:a=b
 .subst e;simp
 .have h:¬ (RS a:Key)=RS b:=λq=>e (Sum.inr.inj q);rw[decide_eq_false h,decide_eq_false e]
def DL(a:Int)(b:Str):decide ((Rv a:Key)=RS b)=false:=decide_eq_false (λq=>nomatch q)
def D_(a:Str)(b:Int):decide ((RS a:Key)=Rv b)=false:=decide_eq_false (λq=>nomatch q)
def qC(prog:Program)(w:World):PySem.KeyKind prog w Key where
 is:=BX
 hash:=HW w
 inj:=λv a b ha hb=>by
  rcases bR ha with ⟨i,t,rfl,rfl⟩|⟨x,t,rfl,rfl⟩
  .rcases bR hb with ⟨j,u,rfl,e⟩|⟨y,u,rfl,e⟩
   .injection e with e1 _;rw[e1]
   .exact nomatch e
  .rcases bR hb with ⟨j,u,rfl,e⟩|⟨y,u,rfl,e⟩
   .exact nomatch e
   .injection e with e1 _;rw[e1]
 byValue:=λk v h=>by
  rcases bR h with ⟨i,t,rfl,rfl⟩|⟨x,t,rfl,rfl⟩<;>rfl
 pyHash:=λhv h=>by
  rcases bR hv with ⟨i,t,rfl,rfl⟩|⟨x,t,rfl,rfl⟩
  .exact wpAny_pyHash_int h
  .exact wpAny_pyHash_str h
 eqBool:=λhu hv h=>by
  rcases bR hu with ⟨i,t,rfl,rfl⟩|⟨x,t,rfl,rfl⟩
  .rcases bR hv with ⟨j,u,rfl,rfl⟩|⟨y,u,rfl,rfl⟩
   .rw[Er] at h;exact wpAny_eqBool_int h
   .rw[DL] at h;exact SeqAt.EqAt.int_str i t y u _ _ _ _ h
  .rcases bR hv with ⟨j,u,rfl,rfl⟩|⟨y,u,rfl,rfl⟩
   .rw[D_] at h;exact SeqAt.EqAt.str_int x t j u _ _ _ _ h
   .rw[CJ] at h;exact wpAny_eqBool_str h
 «strs»:=λk x t v h=>by
  rcases bR h with ⟨i,u,rfl,e⟩|⟨y,u,rfl,e⟩
  .exact nomatch e
  .injection e with e1 _
   subst e1;cases v<;>rfl
inductive V where
 | aJ|bl (b:Bool)|int (i:Int)|str (x:Str)|byt (b:Array UInt8)|B1 (b:UInt64)|ref (a:Addr)|ty (n:String)
 deriving DecidableEq
def RelV:V->Value->Prop
 | .aJ,u=>u=NQ
 | .bl b,u=>u=OP b
 | .int i,u=>∃t,u=Rj i t
 | .str x,u=>∃t,u=Rk x t
 | .byt b,u=>∃t,u=TZ b t
 | .B1 b,u=>∃t,u=RM b t
 | .ref a,u=>u=Nj a
 |.ty n,u=>u=Ov n
abbrev Vals:List V->List Value->Prop:=Paired RelV
theorem Vals.length{xs:List V}{us:List Value}(r:Vals xs us):xs.length=us.length:=Paired.length r
theorem Vals.get:∀{xs:List V}{us:List Value}{i:Nat}{x:V},Vals xs us->xs[i]?=some x->∃u,us[i]?=some u/\RelV x u
 | _,_,_,_,.nil,e=>by simp at e
 | _,_,0,_,.cons r _,e=>by simp at e;subst e;exact⟨_,rfl,r⟩
 | _,_,i+1,x,.cons _ t,e=>by
  obtain⟨u,h1,h2⟩:=Vals.get (i:=i) (x:=x) t (by simpa using e);exact⟨u,by simpa using h1,h2⟩
theorem Vals.set{x:V}{u:Value}(r:RelV x u):∀{xs:List V}{us:List Value}(i:Nat),Vals xs us->Vals (xs.set i x) (us.set i u)
 | _,_,_,.nil=>.nil
 | _,_,0,.cons _ t=>.cons r t
 |_,_,i+1,.cons q t=>.cons q (Vals.set r i t)
theorem Vals.append:∀{xs ys:List V}{us ws:List Value},Vals xs us->Vals ys ws->Vals (xs++ys) (us++ws)
 | _,_,_,_,.nil,s=>s
 |_,_,_,_,.cons r t,s=>.cons r (Vals.append t s)
theorem Vals.take:∀{xs:List V}{us:List Value}(n:Nat),Vals xs us->Vals (xs.take n) (us.take n)
 | _,_,0,_=>.nil
 | _,_,_+1,.nil=>.nil
 |_,_,n+1,.cons r t=>.cons r (Vals.take n t)
theorem Vals.drop:∀{xs:List V}{us:List Value}(n:Nat),Vals xs us->Vals (xs.drop n) (us.drop n)
 | _,_,0,r=>r
 | _,_,_+1,.nil=>.nil
 |_,_,n+1,.cons _ t=>Vals.drop n t
def jD:Option V->Option Value->Prop
 | some v,some u=>RelV v u
 | none,none=>True
 |_,_=>False
def KV{κ:Type}:List (κ×V)->List (κ×Value)->Prop:=Paired λ(p:κ×V) (q:κ×Value)=>p.1=q.1/\RelV p.2 q.2
def kV:Key->V
 | .inl i=>.int i
 |.inr x=>.str x
inductive HO where
 | lst (xs:List V)
 | tup (xs:List V)
 | dK (Kj:List (Key×V))|dT (Kj:List (List Key×V))
 | set (S:Int->Bool) (n:Nat)
 | ins (C dx:Addr) (fs:List (Str×V))
 | own (x:Addr)
 | xd (fs:List (Str×V))
 | met (f x:Addr)
 | Ak (lo hi:Int)
 | k9 (o:Obj) (u:HO)
 | BS (ps:Array Value)
 |ext (φ:Heap->Prop)
abbrev Hp:=Addr->Option HO
def upd(H:Hp)(a:Addr)(o:HO):Hp:=λb=>if b=a then some o else H b
variable{a:Addr}{H:Hp}
def av{o:HO}:upd H a o a=some o:=by unfold upd;rw[if_pos rfl]
variable{b:Addr}
def aq{o:HO}(h:b≠a):upd H a o b=H b:=by unfold upd;rw[if_neg h]
def u_{o u:HO}:upd (upd H a o) a u=upd H a u:=by
 funext b;unfold upd;split<;>rfl
def bB{o:HO}(h:H a=some o)(h':H b=none):a≠b:=by
 intro e;subst e;rw[h] at h';cases h'
section
variable(P:Program)(w:World)
def bz(H:Hp)(h:Heap)(a:Addr):HO->Prop
 | .lst xs=>xs.length<=sizeLine/\∃(J2:List Value)(n:Nat),Vals xs J2/\h.get? a=some { cls:=.type "list",data:=.seq J2.toArray n }
 | .tup xs=>xs.length<=sizeLine/\∃J2:List Value,Vals xs J2/\IsTup h a J2.toArray
 | .dK Kj=>Kj.length<=sizeLine/\(a==sysModules)=false/\∃vs,KV Kj vs/\h.DictOf (qC P w) a vs
 | .dT Kj=>Kj.length<=sizeLine/\(a==sysModules)=false/\∃xs:List (List Key×Addr×Value),
   Paired (λ(p:List Key×V) (q:List Key×Addr×Value)=>p.1=q.1/\H q.2.1=some (.tup (p.1.map kV))/\RelV p.2 q.2.2) Kj xs ∧
   ∃o es ep,h.get? a=some o/\o.ExactDict/\o.data=.dict es ep/\es.toList=xs.map (entryOfKey (tupleKind (qC P w)))/\(xs.map (·.1)).Nodup
 | .set S n=>h.SetOf (intKind P w) a S n
 | .ins C dx fs=>H dx=some (.own a)/\fs.length<=1000/\dx≠a/\h.get? a=some (OH C dx) ∧
   ∃mA,h.Ns1 dx mA/\(∀f,jD (fs.lookup f) (mA f))/\Sl mA (fs.map (·.1))
 | .own _=>∃o,h.get? a=some o
 | .xd fs=>∃mA,h.Ns1 a mA/\∀f,jD (fs.lookup f) (mA f)
 | .Ak lo hi=>∃t u v,h.get? a=some { cls:=.type "range",data:=.fields #[.int lo t,.int hi u,.int 1 v] }
 | .k9 o u=>h.get? a=some o/\bz H h a u
 | .BS ps=>h.get? a=some { cls:=.none,data:=.fields ps }
 | .met f x=>h.get? a=some (Q_ (.ref f) (.ref x))
 |.ext φ=>φ h/\(∃o,h.get? a=some o)/\∀h1 h2:Heap,φ h1->(∀o,h1.get? a=some o->h2.get? a=some o)->φ h2
def j9(H:Hp)(h:Heap):Prop:=∀a o,H a=some o->bz P w H h a o
end
variable{h h':Heap}{H':Hp}{w:World}{P:Program}
section
variable{o:HO}
theorem bz.lt(x:bz P w H h a o):a<h.objs.size:=by
 cases o with
 | lst xs=>obtain⟨_,_,_,_,e⟩:=x;exact Nk e
 | tup xs=>obtain⟨_,_,_,p⟩:=x;exact p.lt
 | dK Kj=>obtain⟨_,_,_,_,o,_,_,e,_⟩:=x;exact Nk e
 | dT Kj=>obtain⟨_,_,_,_,o,_,_,e,_⟩:=x;exact Nk e
 | set S n=>obtain⟨o,_,_,_,e,_⟩:=x;exact Nk e
 | ins C dx fs=>obtain⟨_,_,_,e,_⟩:=x;exact Nk e
 | own y=>obtain⟨_,e⟩:=x;exact Nk e
 | xd fs=>obtain⟨_,⟨_,_,_,e,_⟩,_⟩:=x;exact Nk e
 | Ak lo hi=>obtain⟨_,_,_,e⟩:=x;exact Nk e
 | k9 ob u=>obtain⟨e,_⟩:=x;exact Nk e
 | BS ps=>exact Nk (show h.get? a=some _ from x)
 | met f y=>exact Nk (show h.get? a=some _ from x)
 |ext φ=>obtain⟨_,⟨_,e⟩,_⟩:=x;exact Nk e
theorem Paired.Fz{α β:Type}{F G:α->β->Prop}:∀{l₁:List α}{l₂:List β},Paired F l₁ l₂->(∀a b,F a b->G a b)->Paired G l₁ l₂
 | _,_,.nil,_=>.nil
 |_,_,.cons r t,f=>.cons (f _ _ r) (Paired.Fz t f)
def bz.jd(x:bz P w H h a o)(k:∀b u,(b=a\/H b=some (.own a))->h.get? b=some u->h'.get? b=some u)(ho:∀b,H b=some (.own a)->H' b=some (.own a))(ht:∀b xs,H b=some (.tup xs)->H' b=some (.tup xs)):bz P w H' h' a o:=by
 induction o with
 | lst xs=>obtain⟨z,J2,n,r,e⟩:=x;exact⟨z,J2,n,r,k _ _ (.inl rfl) e⟩
 | tup xs=>obtain⟨z,J2,r,ob,e,c⟩:=x;exact⟨z,J2,r,ob,k _ _ (.inl rfl) e,c⟩
 | dK Kj=>obtain⟨z,y,vs,r,ob,es,ep,e,c⟩:=x;exact⟨z,y,vs,r,ob,es,ep,k _ _ (.inl rfl) e,c⟩
 | dT Kj =>
  obtain⟨z,y,xs,r,ob,es,ep,e,c⟩:=x;exact⟨z,y,xs,Paired.Fz r λp q z=>⟨z.1,ht _ _ z.2.1,z.2.2⟩,ob,es,ep,k _ _ (.inl rfl) e,c⟩
 | set S n=>obtain⟨ob,es,ep,t,e,c⟩:=x;exact⟨ob,es,ep,t,k _ _ (.inl rfl) e,c⟩
 | ins C dx fs =>
  obtain⟨d,z,ne,e,mA,⟨od,es,ep,e2,c⟩,r⟩:=x;exact⟨ho _ d,z,ne,k _ _ (.inl rfl) e,mA,⟨od,es,ep,k _ _ (.inr d) e2,c⟩,r⟩
 | own y=>obtain⟨ob,e⟩:=x;exact⟨ob,k _ _ (.inl rfl) e⟩
 | xd fs=>obtain⟨mA,⟨od,es,ep,e,c⟩,r⟩:=x;exact⟨mA,⟨od,es,ep,k _ _ (.inl rfl) e,c⟩,r⟩
 | Ak lo hi=>obtain⟨t,u,v,e⟩:=x;exact⟨t,u,v,k _ _ (.inl rfl) e⟩
 | k9 ob u ih=>obtain⟨e,q⟩:=x;exact⟨k _ _ (.inl rfl) e,ih q⟩
 | BS ps =>
  have e:h.get? a=some { cls:=.none,data:=.fields ps }:=x;show h'.get? a=some { cls:=.none,data:=.fields ps };exact k a _ (.inl rfl) e
 | met f y =>
  have e:h.get? a=some (Q_ (.ref f) (.ref y)):=x;show h'.get? a=some (Q_ (.ref f) (.ref y));exact k a _ (.inl rfl) e
 |ext φ=>obtain⟨p,⟨o,e⟩,st⟩:=x;exact⟨st _ _ p λo q=>k _ _ (.inl rfl) q,⟨o,k _ _ (.inl rfl) e⟩,st⟩
theorem j9.lt(x:j9 P w H h)(e:H a=some o):a<h.objs.size:=(x a o e).lt
def j9.fresh(x:j9 P w H h)(e:h.objs.size<=a):H a=none:=by
 cases q:H a with
 | none=>rfl
 |some u=>exact absurd (Nr (x.lt q) e) (OF _)
def j9.kept(x:j9 P w H h)(k:∀b u,h.get? b=some u->h'.get? b=some u):j9 P w H h':=λa o e =>
 (x a o e).jd (λb u _ q=>k b u q) (λ_ q=>q) λ_ _ q=>q
def j9.laid(x:j9 P w H h)(k:∀b u,h.get? b=some u->h'.get? b=some u)(hp:h.objs.size<=a)(new:bz P w (upd H a o) h' a o):j9 P w (upd H a o) h':=λb u e=>by
 have hn:=x.fresh hp
 by_cases hb:b=a
 .subst hb;rw[av] at e;cases e;exact new
 .rw[aq hb] at e;exact(x b u e).jd (λc v _ q=>k c v q) (λc q=>by rwa[aq (bB q hn)]) λc xs q=>by rwa[aq (bB q hn)]
end
def Rd(H:Hp)(a:Addr)(u:HO):Prop:=H a=some u\/∃o,H a=some (.k9 o u)
def Rd.ok{u:HO}(r:Rd H a u)(x:j9 P w H h):bz P w H h a u:=by
 rcases r with r|⟨o,r⟩
 .exact x a u r
 .obtain⟨_,q⟩:=x a _ r;exact q
def GC:Option HO->Prop
 | some (.lst _)=>True
 | some (.dK _)=>True
 | some (.dT _)=>True
 | some (.set _ _)=>True
 | some (.ins _ _ _)=>True
 | some (.ext _)=>True
 |_=>False
section
variable{x e:Addr}{o':HO}
def j9.write(ok:j9 P w H h)(mu:GC (H x))(he:e=x\/H e=some (.own x))(k:∀b u,b≠e->h.get? b=some u->h'.get? b=some u)(MA:∃u,h'.get? e=some u)(new:bz P w (upd H x o') h' x o'):j9 P w (upd H x o') h':=λb u q=>by
 have M8:∀c y,H c=some (.own y)->c≠x:=λc y r z=>by subst z;rwa[r] at mu
 have ntup:∀c xs,H c=some (.tup xs)->c≠x:=λc xs r z=>by subst z;rwa[r] at mu
 by_cases hb:b=x
 .subst hb;rw[av] at q;cases q;exact new
 .rw[aq hb] at q
  by_cases LJ:b=e
  .have q':H b=some (.own x):=by
    rcases he with z|z
    .exact absurd (LJ.trans z) hb
    .rw[LJ];exact z
   rw[q] at q';cases q';obtain⟨v,hv⟩:=MA;exact⟨v,by rwa[LJ]⟩
  .refine(ok b u q).jd (λc v hc r=>k c v ?_ r) (λc r=>by rwa[aq (M8 c b r)]) λc xs r=>by rwa[aq (ntup c xs r)]
   rcases hc with rfl|hc
   .exact LJ
   .rintro rfl;rcases he with z|z
    .exact M8 c b hc z
    .rw[hc] at z;cases z;exact hb rfl
end
structure Un (fs ex:List Addr) (H H':Hp) (h h':Heap):Prop where
 keep:∀b o,h.get? b=some o->H b=none->b ∉ fs->b ∉ ex->h'.get? b=some o
 slot:∀b o,h.get? b=some o->H b=none->b∈fs->b ∉ ex->∃sl,h'.get? b=some { o with slots:=sl }
 free:∀b o,h.get? b=some o->H b=none->b ∉ ex->H' b=none
 there:∀b o,h.get? b=some o->b ∉ ex->∃o',h'.get? b=some o'
 lJ:∀b xs,H b=some (.tup xs)->H' b=some (.tup xs)
 iH:∀b o u,H b=some (.k9 o u)->H' b=some (.k9 o u)
 lF:∀b ps,H b=some (.BS ps)->∃more,H' b=some (.BS (ps++more))
section
variable{fs fs' ex ex':List Addr}{H1 H2:Hp}{h1 h2:Heap}{x e:Addr}{o:HO}
def Un.any(u:Un fs ex H H1 h h1){ob:Obj}(q:h.get? b=some ob)(n:H b=none)(hx:b ∉ ex):∃sl,h1.get? b=some { ob with slots:=sl }:=by
 by_cases hb:b∈fs
 .exact u.slot b ob q n hb hx
 .exact⟨ob.slots,u.keep b ob q n hb hx⟩
def Un.kept(k:∀b u,h.get? b=some u->h'.get? b=some u):Un fs ex H H h h' :=
 ⟨λb ob q _ _ _=>k b ob q,λb ob q _ _ _=>⟨ob.slots,k b ob q⟩,λ_ _ _ n _=>n,λb ob q _=>⟨ob,k b ob q⟩,λ_ _ q=>q,λ_ _ _ q=>q,λ_ ps q=>⟨#[],by rw[q];simp⟩⟩
def Un.refl:Un fs ex H H h h:=Un.kept λ_ _ q=>q
def Un.laid(k:∀b u,h.get? b=some u->h'.get? b=some u)(hp:h.objs.size<=a)(hn:H a=none):Un fs ex H (upd H a o) h h' where
 keep:=λb u q _ _ _=>k b u q
 slot:=λb u q _ _ _=>⟨u.slots,k b u q⟩
 free:=λb u q n _=>by rwa[aq (Ny (Nr (Nk q) hp))]
 there:=λb u q _=>⟨u,k b u q⟩
 lJ:=λb xs q=>by rwa[aq (bB q hn)]
 iH:=λb u xs q=>by rwa[aq (bB q hn)]
 lF:=λb ps q=>⟨#[],by rw[aq (bB q hn),q];simp⟩
def Un.write(mu:GC (H x))(he:e=x\/H e=some (.own x))(k:∀b u,b≠e->h.get? b=some u->h'.get? b=some u)(MA:∃u,h'.get? e=some u):Un fs ex H (upd H x o) h h':=by
 have hx:∀b,H b=none->b≠x:=λb n z=>by subst z;rwa[n] at mu
 have hb:∀b,H b=none->b≠e:=λb n z=>by
  subst z;rcases he with r|r
  .exact hx b n r
  .rw[n] at r;cases r
 have hm:∀b u,H b=some u->¬ GC (some u)->b≠x:=λb u q nm z=>by subst z;rw[q] at mu;exact nm mu
 refine⟨λb u q n _ _=>k b u (hb b n) q,λb u q n _ _=>⟨u.slots,k b u (hb b n) q⟩,λb u q n _=>by rwa[aq (hx b n)],λb u q _=>?_,
  λb xs q=>by rwa[aq (hm b _ q λz=>z)],λb u xs q=>by rwa[aq (hm b _ q λz=>z)],λb ps q=>⟨#[],by rw[aq (hm b _ q λz=>z),q];simp⟩⟩
 by_cases LJ:b=e
 .subst LJ;exact MA
 .exact⟨u,k b u LJ q⟩
end
def GF(h:Heap)(H:Hp):List Addr:=(ND h.objs.size).filter λa=>(H a).isSome
def pd(h:Heap)(H:Hp):Heap:=PySem.W.hideAll h (GF h H)
def vZ(h:Heap)(H:Hp):(pd h H).objs.size=h.objs.size:=PySem.W.hideAll_size _ _
variable{o:Obj}
def zv(e:h.get? b=some o)(n:H b=none):(pd h H).get? b=some o :=
 PySem.W.hideAll_get _ e λhm=>by
  have q:(H b).isSome=true:=(Tg.mp hm).2;rw[n] at q;simp at q
def AN(e:(pd h H).get? b=some o):h.get? b=some o/\H b=none:=by
 have e':h.get? b=some o:=PySem.W.of_hideAll (GF h H) e;refine⟨e',?_⟩;cases q:H b with
 | none=>rfl
 | some x =>
  have hm:b∈GF h H:=Tg.mpr ⟨NR.mpr (Nk e'),by simp[q]⟩;have z:(pd h H).get? b=none:=PySem.W.hideAll_none (GF h H) hm;rw[z] at e;cases e
def AK(g h:Heap)(L:Addr):List (Addr×Obj):=(ND h.objs.size).filterMap λa=>if a=L\/(g.get? a).isSome=true then none else (h.get? a).map λo=>(a,o)
def rest(g h:Heap)(L d:Addr):List (Addr×Obj):=(AK g h L).filter λp=>decide (p.1≠d)
structure Mod (K:Nb) (mg:Str->Option Value) (base:Heap):Prop where
 D0:K.In base
 glob:base.Ns mainGlobals mg
 blt:∃mb,base.Ns builtinsNs mb/\∀x:Str,x ≠ "__name__" -> mb x=bootBuiltins x
 nolimit:base.NoLimit
structure Cx where
 prog:Program
 w:World
 K:Nb
 mg:Str->Option Value
 base:Heap
 A:Around
 N:List Str
 s₀:Shared
 H₀:Hp
 env:Env
 outer:List Env
 stack:List Env
 ex:List Addr
 fn:Str->Bool
 calm:Bool
 pn:List (Addr×Obj)
 xe:Value->Shared->Prop
def sM(l:List Env):List Addr:=l.filterMap (·.frame)
abbrev Cx.fs(X:Cx):List Addr:=sM X.outer
def vI(sc:Scope)(x:Str):Prop:=sc.names.lookup x=some .local\/sc.names.lookup x=some .cell\/sc.names.lookup x=some .free
def Loc(sc:Scope)(x:Str):Prop:=sc.names.lookup x=some .local\/sc.names.lookup x=some .cell
def Look(env:Env)(h:Heap)(m:Str->Option Value)(x:Str)(u:Value):Prop :=
 (env.kindOf x=some .local/\m x=some u)\/((env.kindOf x=some .cell\/env.kindOf x=some .free)/\∃c,env.cells.lookup x=some c/\h.IsCell c (some u))
structure Cx.Ok (X:Cx):Prop where
 mod:Mod X.K X.mg X.base
 kind:X.env.scope.kind=.function
 glob:X.env.globals=mainGlobals
 blt:X.env.builtins=builtinsNs
 above:X.s₀.heap.objs.size<=X.env.locals
 inj:∀x y c,X.env.cells.lookup x=some c->X.env.cells.lookup y=some c->x=y
 has:∀x,(X.env.kindOf x=some .cell\/X.env.kindOf x=some .free)->∃c,X.env.cells.lookup x=some c
 Cb:∀x c,X.fn x=true->X.env.cells.lookup x=some c->X.s₀.heap.objs.size<=c
 hd:X.calm=true->X.A.handled=none
 frames:X.A.frames=some X.stack
 CI:X.stack=X.outer\/(X.stack=X.env::X.outer/\X.env.frame=some X.env.locals)
 EE:∀b∈X.ex,b≠X.env.locals/\∀x c,X.env.cells.lookup x=some c->c≠b
 bs:∀b o,X.base.get? b=some o->X.s₀.heap.get? b=some o/\X.H₀ b=none
 yM:X.base.objs.size<=X.s₀.heap.objs.size
 qE:∀b o,X.base.get? b=some o->b ∉ X.ex
 rM:∀b∈X.ex,b ∉ X.fs
 iQ:X.s₀.heap.FunFrames X.base X.outer
 zU:∀b∈X.fs,X.H₀ b=none
structure Inv (X:Cx) (JX:List (Addr×Obj)) (σ:List (Option V)) (H:Hp) (s:Shared):Prop where
 ok:X.Ok
 os:s.os=X.s₀.os
 bare:AllBare s.gens
 base:Un X.fs X.ex X.H₀ H X.s₀.heap s.heap
 loc:∃m,s.heap.Ns X.env.locals m/\∀(i:Nat)(x:Str)(v:V),X.N[i]?=some x->σ[i]?=some (some v)->vI X.env.scope x->∃u,RelV v u/\Look X.env s.heap m x u
 cell:∀x c,X.env.cells.lookup x=some c->∃v,s.heap.IsCell c v
 free:H X.env.locals=none
 eQ:∀x c,X.env.cells.lookup x=some c->H c=none
 pin:∀p∈X.pn++JX,s.heap.get? p.1=some p.2/\H p.1=none/\p.1≠X.env.locals/\p.1 ∉ X.fs/\∀v,p.2.data≠.cell v
 bo:j9 X.prog X.w H s.heap
 len:σ.length=X.N.length
variable{s:Shared}{JX:List (Addr×Obj)}{X:Cx}
variable{ch:List Addr}{d':Drawn}{t':Nat}{g':Array GenState}
variable{it:Addr}
variable{x:Str}{i:Nat}{N:List Str}
variable{u:Value}{v:V}{E:Value->Shared->Prop}{A:Around}
section
variable{σ:List (Option V)}
def Cx.Ok.Iz(ok:X.Ok)(e:X.base.get? b=some o):b ∉ X.fs:=λhb=>by
 have:=(ok.iQ.mem hb).1;rw[e] at this;cases this
theorem Inv.bs(I:Inv X JX σ H s):∀b o,X.base.get? b=some o->s.heap.get? b=some o/\H b=none:=λb o e =>
 ⟨I.base.keep b o (I.ok.bs b o e).1 (I.ok.bs b o e).2 (I.ok.Iz e) (I.ok.qE b o e),I.base.free b o (I.ok.bs b o e).1 (I.ok.bs b o e).2 (I.ok.qE b o e)⟩
def Inv.bk(I:Inv X JX σ H s):∀b o,X.base.get? b=some o->s.heap.get? b=some o:=λb o e=>(I.bs b o e).1
theorem Inv.mod(I:Inv X JX σ H s):Mod X.K X.mg X.base:=I.ok.mod
def Inv.gi(I:Inv X JX σ H s):X.K.In s.heap:=I.ok.mod.D0.keeps I.bk
theorem Inv.lt(I:Inv X JX σ H s):X.env.locals<s.heap.objs.size:=let ⟨_,hn,_⟩:=I.loc;hn.lt
def Inv.sz(I:Inv X JX σ H s):X.s₀.heap.objs.size<=s.heap.objs.size:=NZ I.ok.above (PX I.lt)
def Inv.IG(I:Inv X JX σ H s)(h:s.heap.objs.size<=a):a ∉ X.fs:=λhb=>by
 obtain⟨_,o,ho,_⟩:=I.ok.iQ.mem hb;exact absurd (Nr (Nk ho) (NZ I.sz h)) (OF _)
def Inv.yp(I:Inv X JX σ H s):∀x c,X.env.cells.lookup x=some c->c≠X.env.locals:=λx c e z=>by
 obtain⟨v,o,ho,hd⟩:=I.cell x c e;obtain⟨m,⟨o',es,ep,Lu,MP,_⟩,_⟩:=I.loc;rw[z,Lu] at ho;cases ho;rw[MP] at hd;cases hd
theorem Inv.iQ(I:Inv X JX σ H s):s.heap.FunFrames X.base X.outer:=by
 have all:∀(l:List Env),(∀b∈sM l,b∈X.fs)->X.s₀.heap.FunFrames X.base l->s.heap.FunFrames X.base l:=by
  intro l
  induction l with
  | nil=>intro _ _;trivial
  | cons env r ih =>
   intro hs hl;obtain⟨hk,⟨L,o,hf,hn,ho,hd⟩,hr⟩:=hl;have hL:L∈X.fs:=hs L (by unfold sM;rw[QG,hf];exact Nt);obtain⟨sl,e⟩:=I.base.slot L o ho (I.ok.zU L hL) hL λz=>I.ok.rM L z hL;exact⟨hk,⟨L,_,hf,hn,e,hd⟩,ih (λb hb=>hs b (by unfold sM;rw[QG,hf];exact Nl _ hb)) hr⟩
 exact all X.outer (λ_ hb=>hb) I.ok.iQ
theorem Inv.stack(I:Inv X JX σ H s):s.heap.FunFrames X.base X.stack:=by
 rcases I.ok.CI with e|⟨e,hf⟩
 .rw[e];exact I.iQ
 .rw[e];obtain⟨m,hn,_⟩:=I.loc;refine .cons (by rw[I.ok.kind];decide) hf hn ?_ I.iQ;exact Pe (NZ I.ok.yM I.ok.above)
def Inv.pj(I:Inv X JX σ H s):∀b∈sM X.stack,b∈X.env.locals::X.fs:=λb hb=>by
 rcases I.ok.CI with e|⟨e,hf⟩
 .rw[e] at hb;exact Nl _ hb
 .rw[e] at hb;unfold sM at hb;rwa[QG,hf] at hb
def Inv.p5(I:Inv X JX σ H s):∀b∈sM X.stack,H b=none:=λb hb=>by
 rcases NB.mp (I.pj b hb) with e|hb
 .rw[e];exact I.free
 .obtain⟨_,o,ho,_⟩:=I.ok.iQ.mem hb;exact I.base.free b o ho (I.ok.zU b hb) λz=>I.ok.rM b z hb
def Inv.step(I:Inv X JX σ H s)(Lh:∀b∈ch,(b∈X.ex\/X.s₀.heap.objs.size<=b)/\b≠X.env.locals/\(∀x c,X.env.cells.lookup x=some c->c≠b)/\∀p∈X.pn++JX,p.1≠b)(keep:∀b o,b≠X.env.locals->b ∉ X.fs->b ∉ ch->s.heap.get? b=some o->H b=none->h'.get? b=some o)(slot:∀b o,b≠X.env.locals->b∈X.fs->b ∉ ch->s.heap.get? b=some o->H b=none->∃sl,h'.get? b=some { o with slots:=sl })(free:∀b o,b ∉ ch->s.heap.get? b=some o->H b=none->H' b=none)(there:∀b o,b ∉ ch->s.heap.get? b=some o->∃o',h'.get? b=some o')(lJ:∀b xs,H b=some (.tup xs)->H' b=some (.tup xs))(iH:∀b o u,H b=some (.k9 o u)->H' b=some (.k9 o u))(lF:∀b ps,H b=some (.BS ps)->∃more,H' b=some (.BS (ps++more)))(ns:∀m,s.heap.Ns X.env.locals m->h'.Ns X.env.locals m)(bo:j9 X.prog X.w H' h')(hg:AllBare g'):Inv X JX σ H' { s with heap:=h',gens:=g',drawn:=d',toks:=t' }:=by
 have neL:∀b o,X.s₀.heap.get? b=some o->b≠X.env.locals:=λb o e=>Ny (Nr (Nk e) I.ok.above);have neC:∀b o,X.s₀.heap.get? b=some o->b ∉ X.ex->b ∉ ch:=λb o e hx hb=>by
  rcases(Lh b hb).1 with z|z
  .exact hx z
  .exact absurd (Nr (Nk e) z) (OF _)
 have cellK:∀x c,X.env.cells.lookup x=some c->∀v,s.heap.IsCell c v->h'.IsCell c v:=λx c e v ⟨o,ho,hd⟩=>by
  have M7:c ∉ ch:=λz=>(Lh c z).2.2.1 x c e rfl
  by_cases hc:c∈X.fs
  .obtain⟨sl,q⟩:=slot c o (I.yp x c e) hc M7 ho (I.eQ x c e);exact⟨_,q,hd⟩
  .exact⟨o,keep c o (I.yp x c e) hc M7 ho (I.eQ x c e),hd⟩
 refine⟨I.ok,I.os,hg,⟨λb o e n hb hx=>?_,λb o e n hb hx=>?_,λb o e n hx=>?_,λb o e hx=>?_,λb xs e=>lJ b xs (I.base.lJ b xs e),λb o xs e=>iH b o xs (I.base.iH b o xs e),λb ps e=>?_⟩,?_,λx c e=>?_,?_,λx c e=>?_,λp hp=>?_,bo,I.len⟩
 .exact keep b o (neL b o e) hb (neC b o e hx) (I.base.keep b o e n hb hx) (I.base.free b o e n hx)
 .obtain⟨sl,e1⟩:=I.base.slot b o e n hb hx;obtain⟨sl',e2⟩:=slot b _ (neL b o e) hb (neC b o e hx) e1 (I.base.free b o e n hx);exact⟨sl',e2⟩
 .obtain⟨o',e1⟩:=I.base.there b o e hx;exact free b o' (neC b o e hx) e1 (I.base.free b o e n hx)
 .obtain⟨o',e1⟩:=I.base.there b o e hx;exact there b o' (neC b o e hx) e1
 .obtain⟨m1,e1⟩:=I.base.lF b ps e;obtain⟨m2,e2⟩:=lF b _ e1;exact⟨m1++m2,by rw[e2,Array.append_assoc]⟩
 .obtain⟨m,hn,hl⟩:=I.loc;refine⟨m,ns m hn,λi x v e1 e2 e3=>?_⟩;obtain⟨u,r,l⟩:=hl i x v e1 e2 e3;refine⟨u,r,?_⟩;rcases l with l|⟨k,c,e,z⟩
  .exact .inl l
  .exact .inr ⟨k,c,e,cellK x c e _ z⟩
 .obtain⟨v,z⟩:=I.cell x c e;exact⟨v,cellK x c e v z⟩
 .obtain⟨m,⟨o,_,_,ho,_⟩,_⟩:=I.loc;exact free _ o (λz=>(Lh _ z).2.1 rfl) ho I.free
 .obtain⟨v,o,ho,hd⟩:=I.cell x c e;exact free c o (λz=>(Lh c z).2.2.1 x c e rfl) ho (I.eQ x c e)
 .obtain⟨e,n,ne,nf,d⟩:=I.pin p hp;have M7:p.1 ∉ ch:=λz=>(Lh p.1 z).2.2.2 p hp rfl;exact⟨keep p.1 p.2 ne nf M7 e n,free p.1 p.2 M7 e n,ne,nf,d⟩
def Inv.un(I:Inv X JX σ H s)(u:Un X.fs [] H H' s.heap h')(bo:j9 X.prog X.w H' h'):Inv X JX σ H' { s with heap:=h',toks:=t' }:=by
 obtain⟨m,⟨o,es,ep,ho,r⟩,_⟩:=id I.loc;obtain⟨sl,hL⟩:=u.any ho I.free ↑13;exact I.step (g':=s.gens) (d':=s.drawn) (ch:=[]) (λ_ z=>nomatch z) (λb o _ hb _ e n=>u.keep b o e n hb ↑13) (λb o _ hb _ e n=>u.slot b o e n hb ↑13) (λb o _ e n=>u.free b o e n ↑13) (λb o _ e=>u.there b o e ↑13) u.lJ u.iH u.lF (λm' hm=>by
  obtain⟨o',es',ep',Lu,r'⟩:=hm;rw[ho] at Lu;cases Lu;exact⟨_,es',ep',hL,r'⟩) bo I.bare
def Inv.call(I:Inv X JX σ H s)(u:Un (sM X.stack) ch H H' s.heap h')(bo:j9 X.prog X.w H' h')(hg:AllBare g')(Lh:∀b∈ch,(b∈X.ex\/X.s₀.heap.objs.size<=b)/\b≠X.env.locals/\(∀x c,X.env.cells.lookup x=some c->c≠b)/\∀p∈X.pn++JX,p.1≠b):Inv X JX σ H' { s with heap:=h',gens:=g',drawn:=d',toks:=t' }:=by
 obtain⟨m,⟨o,es,ep,ho,r⟩,_⟩:=id I.loc;obtain⟨sl,hL⟩:=u.any ho I.free λz=>(Lh _ z).2.1 rfl;exact I.step (ch:=ch) Lh (λb o hL hb hc e n=>u.keep b o e n (λz=>(NB.mp (I.pj b z)).elim hL hb) hc) (λb o _ _ hc e n=>u.any e n hc) (λb o hc e n=>u.free b o e n hc) (λb o hc e=>u.there b o e hc) u.lJ u.iH u.lF (λm' hm=>by
  obtain⟨o',es',ep',Lu,r'⟩:=hm;rw[ho] at Lu;cases Lu;exact⟨_,es',ep',hL,r'⟩) bo hg
def Inv.turned(I:Inv X JX σ H s)(k:∀b o,b≠it->s.heap.get? b=some o->h'.get? b=some o)(hn:H it=none)(hL:it≠X.env.locals)(h1:it∈X.ex\/X.s₀.heap.objs.size<=it)(h2:∀x c,X.env.cells.lookup x=some c->c≠it)(h3:∀p∈X.pn++JX,p.1≠it):Inv X JX σ H { s with heap:=h',toks:=t' }:=by
 have nit:∀b u,H b=some u->b≠it:=λb u e z=>by rw[z,hn] at e;cases e
 refine I.step (g':=s.gens) (d':=s.drawn) (ch:=[it]) (λb hb=>?_) (λb o _ _ hc e _=>k b o (λz=>hc (by simp[z])) e) (λb o _ _ hc e _=>⟨o.slots,k b o (λz=>hc (by simp[z])) e⟩) (λ_ _ _ _ n=>n)
  (λb o hc e=>⟨o,k b o (λz=>hc (by simp[z])) e⟩) (λ_ _ e=>e) (λ_ _ _ e=>e) (λb ps e=>⟨#[],by rw[e];simp⟩) (λm hm=>?_) (λb u e=>?_) I.bare
 .have e:b=it:=by simpa using hb
  subst e;exact⟨h1,hL,h2,h3⟩
 .obtain⟨o,es,ep,ho,r⟩:=hm;exact⟨o,es,ep,k _ o (OL hL) ho,r⟩
 .refine(I.bo b u e).jd (λc v hc q=>k c v ?_ q) (λ_ q=>q) λ_ _ q=>q;rcases hc with z|z
  .rw[z];exact nit b u e
  .exact nit c _ z
def Inv.tok(I:Inv X JX σ H s)(t:Nat):Inv X JX σ H { s with toks:=t }:=I.un (h':=s.heap) (t':=t) Un.refl I.bo
theorem Inv.kept{t':Nat}(I:Inv X JX σ H s)(k:∀b u,s.heap.get? b=some u->h'.get? b=some u):Inv X JX σ H { s with heap:=h',toks:=t' }:=I.un (Un.kept k) (I.bo.kept k)
theorem Inv.laid{a:Addr}{o:HO}{t':Nat}(I:Inv X JX σ H s)(k:∀b u,s.heap.get? b=some u->h'.get? b=some u)(hp:s.heap.objs.size<=a)(new:bz X.prog X.w (upd H a o) h' a o):Inv X JX σ (upd H a o) { s with heap:=h',toks:=t' }:=I.un (Un.laid k hp (I.bo.fresh hp)) (I.bo.laid k hp new)
theorem Inv.write{x e:Addr}{o:HO}{t':Nat}(I:Inv X JX σ H s)(mu:GC (H x))(he:e=x\/H e=some (.own x))(k:∀b u,b≠e->s.heap.get? b=some u->h'.get? b=some u)(MA:∃u,h'.get? e=some u)(new:bz X.prog X.w (upd H x o) h' x o):Inv X JX σ (upd H x o) { s with heap:=h',toks:=t' }:=I.un (Un.write mu he k MA) (I.bo.write mu he k MA new)
def Inv.uD{Lp:List (Addr×Obj)}(I:Inv X JX σ H s)(h:∀p∈Lp,s.heap.get? p.1=some p.2/\H p.1=none/\p.1≠X.env.locals/\p.1 ∉ X.fs/\∀v,p.2.data≠.cell v):Inv X Lp σ H s :=
 ⟨I.ok,I.os,I.bare,I.base,I.loc,I.cell,I.free,I.eQ,λp hp=>(OX.mp hp).elim (λz=>I.pin p (Qu _ z)) (h p),I.bo,I.len⟩
def mJ(hN:N.Nodup){j:Nat}(a:N[i]?=some x)(b:N[j]?=some x):i=j:=by
 obtain⟨h1,e1⟩:=NY.mp a;obtain⟨h2,e2⟩:=NY.mp b;exact(List.getElem_inj hN).mp (e1.trans e2.symm)
def oH{M:Model}{Q:Unit->Shared->Prop}(I:Inv X JX σ H s)(hN:X.N.Nodup)(hi:X.N[i]?=some x)(hx:Loc X.env.scope x)(r:RelV v u)(h:∀s',Inv X JX (σ.set i (some v)) H s'->(∃a,PY a s.heap s'.heap/\(a=X.env.locals\/X.env.cells.lookup x=some a))->Q () s')(hf:autoParam ↑1 aF._auto_1):wpAny M A (storeName X.env x u) Q E s:=by
 obtain⟨m,hn,hl⟩:=id I.loc;have hcls:(X.env.scope.kind==.class||(X.env.scope.kind==.module&&X.env.locals != X.env.globals))=false:=by rw[I.ok.kind];rfl
 have hiσ:i<σ.length:=by rw[I.len];exact(NY.mp hi).1
 have yp:=I.yp;have tracked:∀{a:Addr}{h':Heap},(∃o,s.heap.get? a=some o/\H a=none)->PY a s.heap h'->j9 X.prog X.w H h':=λ{a h'} ha hs b ob e=>by
  obtain⟨_,_,LH⟩:=ha;refine(I.bo b ob e).jd (λc w' hc q=>(hs.2 c ?_).trans q) (λ_ q=>q) λ_ _ q=>q;rintro rfl;rcases hc with rfl|hc
  .rw[LH] at e;cases e
  .rw[LH] at hc;cases hc
 rcases hx with hk|hk
 .refine wpAny_storeName_local hk hn (λh' MX hs=>?_) hcls;obtain⟨oL,_,_,hoL,_⟩:=id hn;refine h _ ⟨I.ok,I.os,I.bare,⟨λb o e n hb hx=>?_,λb o e n hb hx=>?_,I.base.free,λb o e hx=>?_,I.base.lJ,I.base.iH,I.base.lF⟩,⟨_,MX,λj y v' e1 e2 e3=>?_⟩,λy c e=>?_,I.free,I.eQ,λp hp=>?_,tracked ⟨oL,hoL,I.free⟩ hs,by simpa using I.len⟩ ⟨_,hs,.inl rfl⟩
  .exact(hs.2 b (Ny (Nr (Nk e) I.ok.above))).trans (I.base.keep b o e n hb hx)
  .obtain⟨sl,e1⟩:=I.base.slot b o e n hb hx;exact⟨sl,(hs.2 b (Ny (Nr (Nk e) I.ok.above))).trans e1⟩
  .obtain⟨o',e1⟩:=I.base.there b o e hx;exact⟨o',(hs.2 b (Ny (Nr (Nk e) I.ok.above))).trans e1⟩
  .by_cases hj:j=i
   .subst hj;rw[hi] at e1;cases e1;rw[Rw hiσ] at e2;cases e2;exact⟨u,r,.inl ⟨hk,by simp⟩⟩
   .rw[Qw (OL hj)] at e2;obtain⟨u',r',q⟩:=hl j y v' e1 e2 e3;refine⟨u',r',?_⟩;rcases q with ⟨k,e⟩|⟨k,c,e,z⟩
    .refine .inl ⟨k,?_⟩;have:y≠x:=λe=>hj (mJ hN e1 (e▸hi));simp[this,e]
    .exact .inr ⟨k,c,e,z.sameBut hs (yp y c e)⟩
  .obtain⟨w',z⟩:=I.cell y c e;exact⟨w',z.sameBut hs (yp y c e)⟩
  .obtain⟨e,n,ne,nf,d⟩:=I.pin p hp;exact⟨(hs.2 p.1 ne).trans e,n,ne,nf,d⟩
 .have hfn:X.fn x=true:=by
   rcases hf with z|z
   .exact z
   .rw[z] at hk;cases hk
  obtain⟨c,hc⟩:=I.ok.has x (.inl hk);obtain⟨w',z⟩:=I.cell x c hc;refine wpAny_storeName_cell I.ok.kind hk hc z (λh' Md hs=>?_);obtain⟨oc,hoc,hocd⟩:=id z;refine h { s with heap:=h' } ⟨I.ok,I.os,I.bare,⟨λb o e n hb hx=>?_,λb o e n hb hx=>?_,I.base.free,λb o e hx=>?_,I.base.lJ,I.base.iH,I.base.lF⟩,⟨m,hn.sameBut hs (OL (yp x c hc)),λj y v' e1 e2 e3=>?_⟩,λy c' e=>?_,I.free,I.eQ,λp hp=>?_,tracked ⟨oc,hoc,I.eQ x c hc⟩ hs,by simpa using I.len⟩ ⟨c,hs,.inr hc⟩
  .exact(hs.2 b (Ny (Nr (Nk e) (I.ok.Cb x c hfn hc)))).trans (I.base.keep b o e n hb hx)
  .obtain⟨sl,e1⟩:=I.base.slot b o e n hb hx;exact⟨sl,(hs.2 b (Ny (Nr (Nk e) (I.ok.Cb x c hfn hc)))).trans e1⟩
  .obtain⟨o',e1⟩:=I.base.there b o e hx;exact⟨o',(hs.2 b (Ny (Nr (Nk e) (I.ok.Cb x c hfn hc)))).trans e1⟩
  .by_cases hj:j=i
   .subst hj;rw[hi] at e1;cases e1;rw[Rw hiσ] at e2;cases e2;exact⟨u,r,.inr ⟨.inl hk,c,hc,Md⟩⟩
   .rw[Qw (OL hj)] at e2;obtain⟨u',r',q⟩:=hl j y v' e1 e2 e3;refine⟨u',r',?_⟩;rcases q with q|⟨k,c',e,z'⟩
    .exact .inl q
    .refine .inr ⟨k,c',e,z'.sameBut hs ?_⟩;rintro rfl;exact hj (mJ hN e1 (I.ok.inj _ _ _ e hc▸hi))
  .by_cases hcc:c'=c
   .subst hcc;exact⟨_,Md⟩
   .obtain⟨w2,z2⟩:=I.cell y c' e;exact⟨w2,z2.sameBut hs hcc⟩
  .obtain⟨e,n,ne,nf,d⟩:=I.pin p hp;refine⟨(hs.2 p.1 ?_).trans e,n,ne,nf,d⟩;intro q;rw[q,hoc] at e;have q':oc=p.2:=Nx e;exact d w' (by rwa[<- q'])
def m5{M:Model}{Q:Unit->Shared->Prop}(I:Inv X JX σ H s)(hN:X.N.Nodup)(hi:X.N[i]?=some x)(hx:Loc X.env.scope x)(r:RelV v u)(h:∀s',Inv X JX (σ.set i (some v)) H s'->Q () s')(hf:autoParam ↑1 aF._auto_1):wpAny M A (storeName X.env x u) Q E s :=
 oH I hN hi hx r (λs' I' _=>h s' I') hf
def Inv.xo{s':Shared}(I:Inv X JX σ H s)(ho:s'.os=s.os)(u:Un (sM X.stack) ch H H' s.heap s'.heap)(bo:j9 X.prog X.w H' s'.heap)(hg:AllBare s'.gens)(Lh:∀b∈ch,(b∈X.ex\/X.s₀.heap.objs.size<=b)/\b≠X.env.locals/\(∀x c,X.env.cells.lookup x=some c->c≠b)/\∀p∈X.pn++JX,p.1≠b):Inv X JX σ H' s':=by
 obtain⟨h',g',d',t',o'⟩:=s';have e:o'=s.os:=ho;subst e;exact I.call (g':=g') (t':=t') (d':=d') u bo hg Lh
end
abbrev XK:=Value->Option Addr->Hp->Prop
abbrev St:=List (Option V)
abbrev VK:=V->Hp->Prop
abbrev TE:=St->Hp->VK->Prop
abbrev TT:=St->Hp->(Bool->Hp->Prop)->Prop
abbrev TA:=St->Hp->(List V->Hp->Prop)->Prop
structure Ends where
 nx:St->Hp->Prop
 rt:VK
 bk:St->Hp->Prop:=λ_ _=>False
 ct:St->Hp->Prop:=λ_ _=>False
abbrev TS:=Ends->St->Hp->Prop
def EP(X:Cx)(JX:List (Addr×Obj))(σ:St)(Q:VK)(u:Value)(s':Shared):Prop:=∃v H',Inv X JX σ H' s'/\RelV v u/\Q v H'
def TP(X:Cx)(JX:List (Addr×Obj))(σ:St)(Q:Bool->Hp->Prop)(b:Bool)(s':Shared):Prop:=∃H',Inv X JX σ H' s'/\Q b H'
def AP(X:Cx)(JX:List (Addr×Obj))(σ:St)(Q:List V->Hp->Prop)(us:List Value)(s':Shared):Prop:=∃vs H',Inv X JX σ H' s'/\Vals vs us/\Q vs H'
def SP(X:Cx)(JX:List (Addr×Obj))(D:Ends)(f:Flow)(s':Shared):Prop :=
 match f with
 | .next=>∃σ' H',Inv X JX σ' H' s'/\D.nx σ' H'
 | .brk=>∃σ' H',Inv X JX σ' H' s'/\D.bk σ' H'
 | .cont=>∃σ' H',Inv X JX σ' H' s'/\D.ct σ' H'
 |.ret u=>∃v σ' H',Inv X JX σ' H' s'/\RelV v u/\D.rt v H'
def PE(X:Cx)(e:Expr)(t:TE):Prop :=
 ∀(JX:List (Addr×Obj))(s:Shared)(σ:St)(H:Hp)(Q:VK),Inv X JX σ H s->t σ H Q->wpAny ↑8 X.A (eval e X.env) (EP X JX σ Q) X.xe s
def PT(X:Cx)(e:Expr)(t:TT):Prop :=
 ∀(JX:List (Addr×Obj))(s:Shared)(σ:St)(H:Hp)(Q:Bool->Hp->Prop),Inv X JX σ H s->t σ H Q->wpAny ↑8 X.A (isTrue e X.env (eval e X.env)) (TP X JX σ Q) X.xe s
def PW(X:Cx)(e:Expr)(t:TT):Prop :=
 ∀(whole:Sem Value)(JX:List (Addr×Obj))(s:Shared)(σ:St)(H:Hp)(Q:Bool->Hp->Prop),Inv X JX σ H s->t σ H Q->wpAny ↑8 X.A (isTrue e X.env whole) (TP X JX σ Q) X.xe s
variable{e:Expr}
def PW.pt{t:TT}(h:PW X e t):PT X e t:=h _
def PA(X:Cx)(es:List Expr)(t:TA):Prop :=
 ∀(pos:Pos)(JX:List (Addr×Obj))(s:Shared)(σ:St)(H:Hp)(Q:List V->Hp->Prop),Inv X JX σ H s->t σ H Q->wpAny ↑8 X.A (spliced (backTo pos (starEach es X.env))) (AP X JX σ Q) X.xe s
def PS(X:Cx)(st:Stmt)(t:TS):Prop :=
 ∀(JX:List (Addr×Obj))(s:Shared)(σ:St)(H:Hp)(D:Ends),Inv X JX σ H s->t D σ H->wpAny ↑8 X.A (exec st X.env) (SP X JX D) X.xe s
def gP(X:Cx)(st:List Stmt)(t:TS):Prop :=
 ∀(JX:List (Addr×Obj))(s:Shared)(σ:St)(H:Hp)(D:Ends),Inv X JX σ H s->t D σ H->wpAny ↑8 X.A (execs st X.env) (SP X JX D) X.xe s
def cn{α:Type}{t:Sem α}{Q Q':α->Shared->Prop}{M:Model}(h:wpAny M A t Q E s)(hQ:∀a s,Q a s->Q' a s):wpAny M A t Q' E s:=Ow h hQ λ_ _ x=>x
variable{pos:Pos}
variable{Q:Value->Shared->Prop}{σ:St}
variable{ta:TE}
section
def DV(i:Nat):TE:=fun σ H Q=>∃v,σ[i]?=some (some v)/\Q v H
def tC(v:V):TE:=λ_ H Q=>Q v H
def fq(hN:X.N[i]?=some x)(hv:vI X.env.scope x)(hd:autoParam ↑7 aD._auto_1)(Ko:autoParam ↑6 aD._auto_1):PE X (.Name x pos) (DV i):=by
 intro JX s σ H Q I h;obtain⟨v,e,h⟩:=h;obtain⟨m,hn,hl⟩:=I.loc;obtain⟨u,r,l⟩:=hl i x v hN e hv;have fin:EP X JX σ Q u s:=⟨v,H,I,r,h⟩
 rcases l with ⟨hk,hm⟩|⟨hk,c,hc,LG⟩
 .exact Tz (wpAny_loadName_local I.ok.kind hk hn hm fin) hd
 .rcases hk with hk|hk
  .exact Tz (wpAny_loadName_cell I.ok.kind hk hc LG fin) hd
  .exact Tz (wpAny_loadName_free I.ok.kind hk hc LG fin Ko) hd
def CU{i j pos}:PE X (.Constant (.int i) j pos) (tC (.int i)):=λ_ _ _ H _ I h=>wpAny_Constant_int ⟨.int i,H,I.tok _,⟨_,rfl⟩,h⟩
def FH{b j pos}:PE X (.Constant (.bool b) j pos) (tC (.bl b)):=λ_ _ _ H _ I h=>Constant_bool ⟨.bl b,H,I,rfl,h⟩
def DQ{j pos}:PE X (.Constant .none j pos) (tC .aJ):=λ_ _ _ H _ I h=>Constant_none ⟨.aJ,H,I,rfl,h⟩
def CK{x j pos}:PE X (.Constant (.str x) j pos) (tC (.str x)):=λ_ _ _ H _ I h=>Calls.Constant_str ⟨.str x,H,I.tok _,⟨_,rfl⟩,h⟩
def Gl(X:Cx)(x:Str):Prop:=X.env.kindOf x=some .globalImplicit
def gq(I:Inv X JX σ H s)(hg:Gl X x)(hm:X.mg x=some u)(h:Q u s)(hd:autoParam ↑7 aD._auto_1):wpAny ↑8 X.A (eval (.Name x pos) X.env) Q E s :=
 QW I.ok.kind hg (Calls.loadGlobal_global (by rw[I.ok.glob];exact I.mod.glob.keeps I.bk) hm h) hd
def kF(I:Inv X JX σ H s)(hg:Gl X x)(hm:X.mg x=none)(hv:bootBuiltins x=some u)(h:Q u s)(hn:autoParam (x ≠ "__name__") aD._auto_1)(hd:autoParam ↑7 aD._auto_1):wpAny ↑8 X.A (eval (.Name x pos) X.env) Q E s:=by
 obtain⟨mb,h1,h2⟩:=I.mod.blt;exact QW I.ok.kind hg (Calls.loadGlobal_builtin (by rw[I.ok.glob];exact I.mod.glob.keeps I.bk) hm (by rw[I.ok.blt];exact h1.keeps I.bk) ((h2 x hn).trans hv) h) hd
def jC(hg:Gl X x)(hm:X.mg x=some u)(r:RelV v u)(hd:autoParam ↑7 aD._auto_1):PE X (.Name x pos) (tC v) :=
 λ_ _ _ H _ I h=>gq I hg hm ⟨v,H,I,r,h⟩ hd
def bq(hg:Gl X x)(hm:X.mg x=none)(hv:bootBuiltins x=some u)(r:RelV v u)(hn:autoParam (x ≠ "__name__") aD._auto_1)(hd:autoParam ↑7 aD._auto_1):PE X (.Name x pos) (tC v) :=
 λ_ _ _ H _ I h=>kF I hg hm hv ⟨v,H,I,r,h⟩ hn hd
variable{a b:Expr}{tb:TE}
def tB(t:TE):TT:=fun σ H Q=>t σ H λx H1=>∃c,x=.bl c/\Q c H1
def xv{t:TE}(h:PE X e t)(he:autoParam (∀whole,isTrue e X.env whole=(do let v <- whole;standAt e.pos;holding [v] (truthy v))) aI._auto_1):PT X e (tB t):=by
 intro JX s σ H Q I hw;refine isTrue_plain (cn (h JX s σ H _ I hw) λv s1 ⟨x,H1,I1,r1,q1⟩=>?_) (he _);obtain⟨d,rfl,q⟩:=q1;cases r1;exact O0 ⟨H1,I1,q⟩
variable{tA tB':TT}{rest:List Expr}
def Hy(t u:TT):TT:=fun σ H Q=>t σ H λc H1=>if c=true then u σ H1 Q else Q false H1
def JG(t u:TT):TT:=fun σ H Q=>t σ H λc H1=>if c=true then Q true H1 else u σ H1 Q
def GL(t:TT):TT:=fun σ H Q=>t σ H λc H1=>Q (!c) H1
def pw_and1(ha:PT X a tA):PW X (.BoolOp .And [a] pos) tA:=by
 intro wh JX s σ H Q I h;refine isTrue_and (cn (ha JX s σ H Q I h) λc s1 e=>?_);cases c with
 | true=>exact isTrue_and_nil e
 |false=>exact e
def pw_or1(ha:PT X a tA):PW X (.BoolOp .Or [a] pos) tA:=by
 intro wh JX s σ H Q I h;refine isTrue_or (cn (ha JX s σ H Q I h) λc s1 e=>?_);cases c with
 | false=>exact isTrue_or_nil e
 |true=>exact e
def pw_and(ha:PT X a tA)(hb:PW X (.BoolOp .And (b::rest) pos) tB'):PW X (.BoolOp .And (a::b::rest) pos) (Hy tA tB'):=by
 intro wh JX s σ H Q I h;refine isTrue_and (cn (ha JX s σ H _ I h) λc s1 ⟨H1,I1,q1⟩=>?_);cases c with
 | true=>exact hb wh JX s1 σ H1 Q I1 q1
 |false=>exact⟨H1,I1,q1⟩
def pw_or(ha:PT X a tA)(hb:PW X (.BoolOp .Or (b::rest) pos) tB'):PW X (.BoolOp .Or (a::b::rest) pos) (JG tA tB'):=by
 intro wh JX s σ H Q I h;refine isTrue_or (cn (ha JX s σ H _ I h) λc s1 ⟨H1,I1,q1⟩=>?_);cases c with
 | true=>exact⟨H1,I1,q1⟩
 |false=>exact hb wh JX s1 σ H1 Q I1 q1
def Em(ha:PT X a tA):PT X (.UnaryOp .Not a pos) (GL tA):=by
 intro JX s σ H Q I h;exact isTrue_not (ha JX s σ H (λc H1=>Q (!c) H1) I h)
def EZ(ta tb:TE):TE:=fun σ H Q=>ta σ H λx H1=>∃c,x=.bl c/\if c=true then tb σ H1 Q else Q (.bl false) H1
def FJ(ta:TE):TE:=fun σ H Q=>ta σ H λx H1=>∃c,x=.bl c/\Q (.bl (!c)) H1
def h9{op}{t:TE}(h:PE X a t):PE X (.BoolOp op [a] pos) t:=λJX s σ H Q I hw=>BoolOp_one (h JX s σ H Q I hw)
def Ep(ha:PE X a ta)(hb:PE X (.BoolOp .And (b::rest) pos) tb):PE X (.BoolOp .And (a::b::rest) pos) (EZ ta tb):=by
 intro JX s σ H Q I h;refine BoolOp_and (cn (ha JX s σ H _ I h) λv s1 ⟨x,H1,I1,r1,q1⟩=>?_);obtain⟨c,rfl,q1⟩:=q1;cases r1;refine O0 ?_;cases c with
 | true=>exact hb JX s1 σ H1 Q I1 q1
 |false=>exact⟨.bl false,H1,I1,rfl,q1⟩
def Eo(ha:PE X a ta):PE X (.UnaryOp .Not a pos) (FJ ta):=by
 intro JX s σ H Q I h;refine UnaryOp_ (cn (ha JX s σ H _ I h) λv s1 ⟨x,H1,I1,r1,q1⟩=>?_);obtain⟨c,rfl,q1⟩:=q1;cases r1;exact not_of (O0 ⟨.bl (!c),H1,I1,rfl,q1⟩)
end
def fj(K:Nb)(H:Hp)(a:Addr)(xs:List V):Prop :=
 Rd H a (.lst xs) ∨
  ∃(o:Obj)(J2:Array Value)(n:Nat),K.lookup a=some o/\o.cls=.type "list" /\ o.dict=none/\o.data=.seq J2 n/\J2.size<=sizeLine/\Vals xs J2.toList
def fg(K:Nb)(H:Hp)(a:Addr)(xs:List V):Prop :=
 Rd H a (.tup xs) ∨
  ∃(o:Obj)(J2:Array Value)(n:Nat),K.lookup a=some o/\o.cls=.type "tuple" /\ o.data=.seq J2 n/\J2.size<=sizeLine/\Vals xs J2.toList
def Iw:Value->Option V
 | .none=>some .aJ
 | .bool b=>some (.bl b)
 | .int i _=>some (.int i)
 | .str x _=>some (.str x)
 | .bytes b _=>some (.byt b)
 | .float b _=>some (.B1 b)
 | .ref a=>some (.ref a)
 | .type n=>some (.ty n)
 |_=>none
def RelV.abs{x:V}(r:RelV x u):Iw u=some x:=by
 cases x with
 | aJ=>cases r;rfl
 | bl _=>cases r;rfl
 | int _=>obtain⟨t,rfl⟩:=r;rfl
 | str _=>obtain⟨t,rfl⟩:=r;rfl
 | byt _=>obtain⟨t,rfl⟩:=r;rfl
 | B1 _=>obtain⟨t,rfl⟩:=r;rfl
 | ref _=>cases r;rfl
 |ty _=>cases r;rfl
def RelV.inj{x y:V}{u:Value}(r:RelV x u)(q:RelV y u):x=y:=Nx (r.abs.symm.trans q.abs)
theorem Vals.inj:∀{xs ys:List V}{us:List Value},Vals xs us->Vals ys us->xs=ys
 | _,_,_,.nil,.nil=>rfl
 |_,_,_,.cons r t,.cons r' t'=>by rw[r.inj r',Vals.inj t t']
section
variable{xs ys:List V}
def fj.of{K:Nb}(h:H a=some (.lst xs)):fj K H a xs:=.inl (.inl h)
def fg.of{K:Nb}(h:H a=some (.tup xs)):fg K H a xs:=.inl (.inl h)
theorem Inv.list(I:Inv X JX σ H s)(h:fj X.K H a xs):∃J2:List Value,Vals xs J2/\PlainL s.heap a J2.toArray/\xs.length<=sizeLine:=by
 rcases h with h|⟨o,J2,n,hk,hc,hd,hs,hz,r⟩
 .obtain⟨z,J2,n,r,e⟩:=h.ok I.bo;exact⟨J2,r,⟨_,n,e,rfl,rfl,rfl⟩,z⟩
 .refine⟨J2.toList,r,⟨o,n,I.gi a o hk,hc,hd,by simpa using hs⟩,?_⟩;have e:=r.length;simp only[QH] at e;lia
theorem Inv.tuple(I:Inv X JX σ H s)(h:fg X.K H a xs):∃J2:List Value,Vals xs J2/\IsTup s.heap a J2.toArray/\xs.length<=sizeLine:=by
 rcases h with h|⟨o,J2,n,hk,hc,hs,hz,r⟩
 .obtain⟨z,J2,r,p⟩:=h.ok I.bo;exact⟨J2,r,p,z⟩
 .refine⟨J2.toList,r,⟨o,I.gi a o hk,hc,n,by simpa using hs⟩,?_⟩;have e:=r.length;simp only[QH] at e;lia
def Inv.mz(I:Inv X JX σ H s)(h:fj X.K H a xs)(h':fj X.K H a ys):xs=ys:=by
 obtain⟨J2,r,⟨o,n,e,_,_,d⟩,_⟩:=I.list h;obtain⟨its',r',⟨o',n',e',_,_,d'⟩,_⟩:=I.list h';rw[e] at e';cases e';rw[d] at d';injection d' with d1 _
 have:J2=its':=by simpa using congrArg TX d1
 subst this;exact r.inj r'
def Inv.kT(I:Inv X JX σ H s)(h:fg X.K H a xs)(h':fg X.K H a ys):xs=ys:=by
 obtain⟨J2,r,⟨o,e,_,n,d⟩,_⟩:=I.tuple h;obtain⟨its',r',⟨o',e',_,n',d'⟩,_⟩:=I.tuple h';rw[e] at e';cases e';rw[d] at d';injection d' with d1 _
 have:J2=its':=by simpa using congrArg TX d1
 subst this;exact r.inj r'
end
abbrev Cx.l9(X:Cx)(E:Value->Shared->Prop):Cx:={ X with xe:=E }
theorem Cx.Ok.l9{X:Cx}(ok:X.Ok)(E:Value->Shared->Prop):(X.l9 E).Ok :=
 ⟨ok.mod,ok.kind,ok.glob,ok.blt,ok.above,ok.inj,ok.has,ok.Cb,ok.hd,ok.frames,ok.CI,ok.EE,ok.bs,ok.yM,ok.qE,ok.rM,ok.iQ,ok.zU⟩
def Cx.Ok.dj(ok:(X.l9 E).Ok):X.Ok :=
 ⟨ok.mod,ok.kind,ok.glob,ok.blt,ok.above,ok.inj,ok.has,ok.Cb,ok.hd,ok.frames,ok.CI,ok.EE,ok.bs,ok.yM,ok.qE,ok.rM,ok.iQ,ok.zU⟩
theorem Inv.l9(I:Inv X JX σ H s)(E:Value->Shared->Prop):Inv (X.l9 E) JX σ H s:=⟨I.ok.l9 E,I.os,I.bare,I.base,I.loc,I.cell,I.free,I.eQ,I.pin,I.bo,I.len⟩
theorem Inv.dj(I:Inv (X.l9 E) JX σ H s):Inv X JX σ H s:=⟨I.ok.dj,I.os,I.bare,I.base,I.loc,I.cell,I.free,I.eQ,I.pin,I.bo,I.len⟩
theorem SP.dj{D:Ends}{f:Flow}{s':Shared}(h:SP (X.l9 E) JX D f s'):SP X JX D f s':=by
 cases f with
 | next=>obtain⟨σ',H',I,q⟩:=h;exact⟨σ',H',I.dj,q⟩
 | brk=>obtain⟨σ',H',I,q⟩:=h;exact⟨σ',H',I.dj,q⟩
 | cont=>obtain⟨σ',H',I,q⟩:=h;exact⟨σ',H',I.dj,q⟩
 |ret u=>obtain⟨v,σ',H',I,r,q⟩:=h;exact⟨v,σ',H',I.dj,r,q⟩
variable{te:TE}
variable{tc:TT}{c:Expr}
section
variable{st:Stmt}{rest:List Stmt}{t u:TS}
def rH:TS:=λD σ H=>D.nx σ H
def xE(t u:TS):TS:=λD σ H=>t { D with nx:=u D } σ H
def gF:gP X [] rH:=λ_ _ σ H _ I h=>PD ⟨σ,H,I,h⟩
def bP(h1:PS X st t)(h2:gP X rest u):gP X (st::rest) (xE t u):=by
 intro JX s σ H D I h;refine wpAny_execs_cons (cn (h1 JX s σ H { D with nx:=u D } I h) λf s1 q=>?_);cases f with
 | next =>
  obtain⟨σ',H',I',q⟩:=q;exact h2 JX s1 σ' H' D I' q
 | ret v=>exact q
 | brk=>exact q
 |cont=>exact q
def qF(h1:PS X st t):gP X [st] t:=by
 intro JX s σ H D I h;refine wpAny_execs_cons (cn (h1 JX s σ H D I h) λf s1 q=>?_);cases f with
 | next=>exact PD q
 | ret v=>exact q
 | brk=>exact q
 |cont=>exact q
def Inv.quiet(I:Inv X JX σ H s):interactive X.env=false:=by simp[interactive,I.ok.kind]
def BZ(te:TE):TS:=λD σ H=>te σ H λ_ H1=>D.nx σ H1
def jI(he:PE X e te)(hs:autoParam (swapsWith e none pos.line X.env=pure false) aR._auto_1):PS X (.Expr e pos) (BZ te):=by
 intro JX s σ H D I h;exact wpAny_Expr_any (cn (he JX s σ H _ I h) λv s1 ⟨x,H1,I1,r1,q1⟩=>⟨σ,H1,I1,q1⟩) I.quiet hs
def GJ(te:TE):TS:=λD σ H=>te σ H D.rt
def Dp(he:PE X e te):PS X (.Return (some e) pos) (GJ te):=by
 intro JX s σ H D I h;exact wpAny_Return_some (cn (he JX s σ H _ I h) λv s1 ⟨x,H1,I1,r1,q1⟩=>⟨x,σ,H1,I1,r1,q1⟩)
def E8(c:TT)(t u:TS):TS:=λD σ H=>c σ H λb H1=>if b=true then t D σ H1 else u D σ H1
def x_{a b:List Stmt}(hc:PT X c tc)(ha:gP X a t)(hb:gP X b u):PS X (.If c a b pos) (E8 tc t u):=by
 intro JX s σ H D I h;refine wpAny_If (cn (hc JX s σ H _ I h) λd s1 ⟨H1,I1,q1⟩=>?_);cases d with
 | true=>exact ha JX s1 σ H1 D I1 q1
 |false=>exact hb JX s1 σ H1 D I1 q1
end
abbrev TG:=V->St->Hp->(St->Hp->Prop)->Prop
abbrev zX:=List V->St->Hp->(St->Hp->Prop)->Prop
def PG(X:Cx)(target:Expr)(t:TG):Prop :=
 ∀ (JX:List (Addr×Obj)) (s:Shared) (σ:St) (H:Hp) (v:V) (u:Value) (Q:St->Hp->Prop),Inv X JX σ H s->RelV v u->t v σ H Q ->
  wpAny ↑8 X.A (assign target X.env u) (λ_ s'=>∃σ' H',Inv X JX σ' H' s'/\Q σ' H') X.xe s
def Ff(X:Cx)(ts:List Expr)(t:zX):Prop :=
 ∀ (JX:List (Addr×Obj)) (s:Shared) (σ:St) (H:Hp) (vs:List V) (us:List Value) (Q:St->Hp->Prop),Inv X JX σ H s->Vals vs us->t vs σ H Q ->
  wpAny ↑8 X.A (assignInOrder ((assignEach ts X.env).map (·.2)) us) (λ_ s'=>∃σ' H',Inv X JX σ' H' s'/\Q σ' H') X.xe s
abbrev EC:=V->V->V->Hp->(Hp->Prop)->Prop
def Fw(X:Cx)(t:EC):Prop :=
 ∀ (JX:List (Addr×Obj)) (s:Shared) (σ:St) (H:Hp) (o i v:V) (ov iv u:Value) (Q:Hp->Prop),Inv X JX σ H s->RelV o ov->RelV i iv->RelV v u->t o i v H Q ->
  wpAny ↑8 X.A (setItem ov iv u) (λ_ s'=>∃H',Inv X JX σ H' s'/\Q H') X.xe s
variable{es:List Expr}
variable{n k:Nat}
variable{tg:Expr}
def bw(i:Nat):TG:=λv σ H Q=>Q (σ.set i (some v)) H
def Ax(hN:X.N.Nodup)(hi:X.N[i]?=some x)(hx:Loc X.env.scope x)(hf:autoParam ↑1 aF._auto_1):PG X (.Name x pos) (bw i):=by
 intro JX s σ H v u Q I r h;exact Sm (m5 I hN hi hx r (λs' I'=>⟨_,H,I',h⟩) hf)
def qQ:zX:=λvs σ H Q=>vs=[]/\Q σ H
def fN(t:TG)(u:zX):zX:=λvs σ H Q=>∃v r,vs=v::r/\t v σ H fun σ' H'=>u r σ' H' Q
def iB:Ff X [] qQ:=by
 intro JX s σ H vs us Q I r h;obtain⟨e,h⟩:=h;subst e;cases r;exact assignInOrder_nil ⟨σ,H,I,h⟩
def bV{t:TG}{u:zX}(h1:PG X e t)(h2:Ff X es u)(hs:autoParam ((assignEach (e::es) X.env).map (·.2)=assign e X.env::(assignEach es X.env).map (·.2)) aR._auto_1):Ff X (e::es) (fN t u):=by
 intro JX s σ H vs us Q I r h;obtain⟨v,vr,e1,h⟩:=h;subst e1;cases r with
 | cons r rr =>
  rw[hs];refine assignInOrder_cons (cn (h1 JX s σ H _ _ _ I r h) λ_ s1 ⟨σ1,H1,I1,q1⟩=>?_);exact h2 JX s1 σ1 H1 _ _ Q I1 rr q1
def t4(K:Nb)(n:Nat)(t:zX):TG:=λv σ H Q=>∃a xs,v=.ref a/\fg K H a xs/\xs.length=n/\t xs σ H Q
def nt{t:zX}(hc:X.calm=true)(h:Ff X es t)(hn:autoParam ((assignEach es X.env).length=n) aR._auto_1)(KA:autoParam ((assignEach es X.env).findIdx? (·.1)=none) aR._auto_1):PG X (.Tuple es k pos) (t4 X.K n t):=by
 intro JX s σ H v u Q I r hw;obtain⟨a,xs,e1,hq,hl,hw⟩:=hw;subst e1;cases r;obtain⟨J2,rv,ht,hz⟩:=I.tuple hq;refine assign_Tuple_tuple (I.ok.hd hc) ht (by simp[hn,<- hl,rv.length]) KA λh' hx=>?_;have I1:Inv X JX σ H { s with heap:=h' }:=I.kept (t':=s.toks) λb o e=>hx b o (Ny (Nk e)) e;exact h JX _ σ H xs _ Q I1 (by simpa using rv) hw
def H0(to ti:TE)(t:EC):TG:=λv σ H Q=>to σ H λo H1=>ti σ H1 λi H2=>t o i v H2 λH3=>Q σ H3
def xg{o i:Expr}{to ti:TE}{t:EC}(ho:PE X o to)(hi:PE X i ti)(hs:Fw X t)
  (ha:autoParam (∀v,assign (.Subscript o i pos) X.env v=(do
   let ov <- holding [v] (eval o X.env)
   let iv <- holding [v,ov] (eval i X.env)
   standAt pos
   holding [v,ov,iv] (setItem ov iv v)
   release [v,ov,iv] [])) aI._auto_1):PG X (.Subscript o i pos) (H0 to ti t):=by
 intro JX s σ H v u Q I r h;rw[ha];refine Na (Ou (cn (ho JX s σ H _ I h) λov s1 ⟨x,H1,I1,r1,q1⟩=>?_));refine Na (Ou (cn (hi JX s1 σ H1 _ I1 q1) λiv s2 ⟨y,H2,I2,r2,q2⟩=>?_));refine Na (Pw (Na (Ou (cn (hs JX s2 σ H2 x y v ov iv u _ I2 r1 r2 r q2) λ_ s3 ⟨H3,I3,q3⟩=>?_))));exact wpAny_release ⟨σ,H3,I3,q3⟩
def CM(te:TE)(g:TG):TS:=λD σ H=>te σ H λx H1=>g x σ H1 D.nx
def tJ{g:TG}(he:PE X e te)(hg:PG X tg g)(hs:autoParam (swapsWithSole [tg] e pos.line X.env=pure false) aR._auto_1)(hw:autoParam (swappedStores [tg] e X.env=pure none) aR._auto_1)(h1:autoParam ((assignEach [tg] X.env).map (·.2)=[assign tg X.env]) aR._auto_1):PS X (.Assign [tg] e pos) (CM te g):=by
 intro JX s σ H D I h;refine wpAny_Assign_stores (cn (he JX s σ H _ I h) λv s1 ⟨x,H1,I1,r1,q1⟩=>?_) hs hw;rw[h1];exact cn (hg JX s1 σ H1 x v _ I1 r1 q1) λ_ s2 q=>q
def zI{pos':Pos}(hN:X.N.Nodup)(hi:X.N[i]?=some x)(hx:Loc X.env.scope x)(he:PE X e te)(hs:autoParam (swapsWith e (some (.Name x pos')) pos.line X.env=pure false) aR._auto_1)(hf:autoParam ↑1 aF._auto_1):PS X (.Assign [.Name x pos'] e pos) (CM te (bw i)):=by
 intro JX s σ H D I h;refine wpAny_Assign_Name (cn (he JX s σ H _ I h) λv s1 ⟨y,H1,I1,r1,q1⟩=>?_) hs;exact m5 I1 hN hi hx r1 (λs2 I2=>⟨_,H1,I2,q1⟩) hf
variable{tb:TS}{body:List Stmt}
def C5(c:TT)(tb:TS):TS:=λD σ H=>∃W:Nat->St->Hp->Prop,(∃m,W m σ H)/\∀m σ H,W m σ H ->
 c σ H λb H1=>if b=true then ∃N:St->Hp->Prop,(∀σ' H',N σ' H'->∃m',m'<m/\W m' σ' H')/\tb { D with nx:=N,ct:=N,bk:=D.nx } σ H1 else D.nx σ H1
def yI(hp:PassesOwn ↑8 X.A X.env X.xe)(hc:PT X c tc)(hb:gP X body tb):PS X (.While c body [] pos) (C5 tc tb):=by
 intro JX s σ H D I h;obtain⟨W,⟨m0,w0⟩,turn⟩:=h;refine wpAny_While (codeAny_whileLoop (λn s'=>∃σ' H',Inv X JX σ' H' s'/\W n σ' H') ?_ m0 ⟨σ,H,I,w0⟩);rintro n s1 ⟨σ1,H1,I1,w1⟩;refine OY hp (cn (hc JX s1 σ1 H1 _ I1 (turn n σ1 H1 w1)) λb s2 ⟨H2,I2,q2⟩=>?_);cases b with
 | true =>
  obtain⟨N,hN,q2⟩:=q2;rw[if_pos rfl];refine OY hp (cn (hb JX s2 σ1 H2 _ I2 q2) λf s3 q3=>?_);cases f with
  | next =>
   obtain⟨σ3,H3,I3,n3⟩:=q3;obtain⟨m',hm,w3⟩:=hN σ3 H3 n3;exact⟨m',hm,σ3,H3,I3,w3⟩
  | cont =>
   obtain⟨σ3,H3,I3,n3⟩:=q3;obtain⟨m',hm,w3⟩:=hN σ3 H3 n3;exact⟨m',hm,σ3,H3,I3,w3⟩
  | brk=>exact q3
  | ret v=>exact q3
 | false =>
  rw[if_neg N1];exact PD ⟨σ1,H2,I2,q2⟩
structure It where
 go:Nat->Hp->Prop
 t5:Nat->Hp->V->Hp->Prop
 stop:Nat->Hp->Prop
def kb(X:Cx)(JX:List (Addr×Obj))(H:Hp)(b:Addr):Prop :=
 H b=none/\b≠X.env.locals/\b ∉ X.fs/\(b∈X.ex\/X.s₀.heap.objs.size<=b)/\(∀x c,X.env.cells.lookup x=some c->c≠b)/\∀p∈X.pn++JX,p.1≠b
def Inv.sD(I:Inv X JX σ H s)(hb:s.heap.objs.size<=b)(hn:H' b=none):kb X JX H' b:=by
 refine⟨hn,O_ (Nr I.lt hb),I.IG hb,.inr (NZ I.sz hb),λx c e z=>?_,λp hp z=>?_⟩
 .obtain⟨v,q⟩:=I.cell x c e;exact absurd (Nr q.lt (by rwa[z])) (OF _)
 .exact absurd (Nr (Nk (I.pin p hp).1) (by rwa[z])) (OF _)
structure Turn (P:Program) (w:World) (K:Nb) (tg:Expr) (J:It) (fp:List Addr) (it:Addr) (tn:Nat->Heap->Prop):Prop where
 mem:it∈fp
 obj:∀i h,tn i h->∀b∈fp,∃o,h.get? b=some o/\∀v,o.data≠.cell v
 keep:∀i h h',tn i h->(∀b∈fp,∀o,h.get? b=some o->h'.get? b=some o)->tn i h'
 item:∀(X:Cx),X.prog=P->X.w=w->X.K=K->X.calm=true->∀(i:Nat)(JX:List (Addr×Obj))(s:Shared)(σ:St)(H:Hp)(E:Value->Shared->Prop),Inv X JX σ H s->(∀b∈fp,kb X JX H b)->tn i s.heap->J.go i H ->
  wpAny (model P w) X.A (pyNext (.ref it)) (λr s1=>∃u,r=some u ∧
   wpAny (model P w) X.A (letOwnedTupleGo tg (.ref it) u) (λ_ s2=>∃x H',Inv X JX σ H' s2/\RelV x u/\J.t5 i H x H'/\tn (i+1) s2.heap/\∀b∈fp,H' b=none) E s1) E s
 done:∀(X:Cx),X.prog=P->X.w=w->X.K=K->X.calm=true->∀(i:Nat)(JX:List (Addr×Obj))(s:Shared)(σ:St)(H:Hp)(E:Value->Shared->Prop),Inv X JX σ H s->(∀b∈fp,kb X JX H b)->tn i s.heap->J.stop i H ->
  wpAny (model P w) X.A (pyNext (.ref it)) (λr s1=>r=none/\Inv X JX σ H s1) E s
 self:∀(A:Around)(i:Nat)(s:Shared)(Q:Value->Shared->Prop)(E:Value->Shared->Prop),tn i s.heap->Q (.ref it) s->wpAny (model P w) A (pyIter (.ref it)) Q E s
abbrev TI:=St->Hp->(It->Hp->Prop)->Prop
def Jk(X:Cx)(JX:List (Addr×Obj))(σ:St)(tg:Expr)(R:It->Hp->Prop)(itv:Value)(s2:Shared):Prop :=
 ∃(it:Addr)(fp:List Addr)(tn:Nat->Heap->Prop)(J:It)(H':Hp),itv=.ref it/\Inv X JX σ H' s2/\Turn X.prog X.w X.K tg J fp it tn/\tn 0 s2.heap/\(∀b∈fp,kb X JX H' b)/\R J H'
def PI(X:Cx)(tg iter:Expr)(wi:TI):Prop :=
 ∀ (JX:List (Addr×Obj)) (s:Shared) (σ:St) (H:Hp) (R:It->Hp->Prop),Inv X JX σ H s->wi σ H R ->
  wpAny ↑8 X.A (eval iter X.env) (λv s1=>wpAny ↑8 X.A (pyIter v) (Jk X JX σ tg R) X.xe s1) X.xe s
def yT {M : Model}{n : String}{vs : Array Value}{Q : Unit -> Shared -> Prop}(ho : s.heap.get? it=some o)(hc : o.cls=.type n)(hd : o.data=.fields vs)(hn : ["enumerate","zip","dict_itemiterator","dict_reverseitemiterator","odict_iterator","itertools.zip_longest","itertools.pairwise"].contains n=false)(hQ : Q () s) : wpAny M A (letOwnedTupleGo tg (.ref it) u) Q E s := by
  unfold letOwnedTupleGo;cases tg<;>first
    | exact Nh hQ
    | (cases u<;>first
        | exact Nh hQ
        | (refine Na (wpAny_load ho ?_)
           rw [hc,hd];show wpAny M A (if (["enumerate","zip","dict_itemiterator","dict_reverseitemiterator","odict_iterator","itertools.zip_longest","itertools.pairwise"].contains n && vs[0]? == some (rawInt _))=true then _ else _) Q E s;rw [if_neg (by intro h; rw [hn,QX] at h; cases h)];exact Nh hQ))
def ID(K:Nb)(a:Addr):It :=
 ⟨λi H=>∃xs x,fj K H a xs/\xs[i]?=some x,λi H x H'=>H'=H/\∀xs,fj K H a xs->xs[i]?=some x,λi H=>∃xs,fj K H a xs/\xs.length<=i⟩
def Jp(K:Nb)(a:Addr):It :=
 ⟨λi H=>∃xs x,fg K H a xs/\xs[i]?=some x,λi H x H'=>H'=H/\∀xs,fg K H a xs->xs[i]?=some x,λi H=>∃xs,fg K H a xs/\xs.length<=i⟩
def Gx(lo:Int)(n:Nat):It:=⟨λi _=>i<n,λi H x H'=>H'=H/\x=.int (lo+i),λi _=>n<=i⟩
theorem oZ{K:Nb}(a it:Addr):Turn P w K tg (ID K a) [it] it (λi h=>h.IsListIter it a i) where
 mem:=by simp
 obj:=λi h st b hb=>by
  have e:b=it:=by simpa using hb
  subst e;obtain⟨o,e,c,d⟩:=st;exact⟨o,e,λv z=>by rw[d] at z;cases z⟩
 keep:=λi h h' st k=>st.at λo e=>k it ↑13 o e
 item:=by
  intro X hP hw hK hc i JX s σ H E I hf st hg;subst hP hw hK;obtain⟨xs,x,hq,hx⟩:=hg;obtain⟨J2,rv,p,hz⟩:=I.list hq;obtain⟨u,hu,ru⟩:=rv.get hx;obtain⟨f0,f1,f2,f3,f4,f5⟩:=hf it ↑13;refine wpAny_pyNext_list_item st p.isList (x:=u) (by simpa using hu) λh' Mg sb=>?_;have I1:Inv X JX σ H { s with heap:=h' }:=I.turned (t':=s.toks) (λb o hb e=>(sb.2 b hb).trans e) f0 f1 f3 f4 f5;obtain⟨o,e,c,d⟩:=id Mg;exact⟨u,rfl,yT (s:={ s with heap:=h' }) e c d ↑12 ⟨x,H,I1,ru,⟨rfl,λys hy=>by rwa[I.mz hy hq]⟩,Mg,λb hb=>(hf b hb).1⟩⟩
 done:=by
  intro X hP hw hK hc i JX s σ H E I hf st hg;subst hP hw hK;obtain⟨xs,hq,hx⟩:=hg;obtain⟨J2,rv,p,hz⟩:=I.list hq;obtain⟨f0,f1,f2,f3,f4,f5⟩:=hf it ↑13;have hl:=rv.length;exact wpAny_pyNext_list_end (I.ok.hd hc) st p.isList (by simp;lia) λh' eb=>⟨rfl,I.turned (t':=s.toks) (λb o hb e=>eb b o hb e) f0 f1 f3 f4 f5⟩
 self:=λ_ _ _ _ _ st h=>wpAny_pyIter_listiter st h
theorem ui{K:Nb}(a it:Addr):Turn P w K tg (Jp K a) [it] it (λi h=>h.IsTupleIter it a i) where
 mem:=by simp
 obj:=λi h st b hb=>by
  have e:b=it:=by simpa using hb
  subst e;obtain⟨o,e,c,d⟩:=st;exact⟨o,e,λv z=>by rw[d] at z;cases z⟩
 keep:=λi h h' st k=>st.at λo e=>k it ↑13 o e
 item:=by
  intro X hP hw hK hc i JX s σ H E I hf st hg;subst hP hw hK;obtain⟨xs,x,hq,hx⟩:=hg;obtain⟨J2,rv,p,hz⟩:=I.tuple hq;obtain⟨u,hu,ru⟩:=rv.get hx;obtain⟨f0,f1,f2,f3,f4,f5⟩:=hf it ↑13;refine wpAny_pyNext_tuple_item st (show s.heap.IsTuple a J2.toArray from p) (x:=u) (by simpa using hu) λh' Mg sb=>?_;have I1:Inv X JX σ H { s with heap:=h' }:=I.turned (t':=s.toks) (λb o hb e=>(sb.2 b hb).trans e) f0 f1 f3 f4 f5;obtain⟨o,e,c,d⟩:=id Mg;exact⟨u,rfl,yT (s:={ s with heap:=h' }) e c d ↑12 ⟨x,H,I1,ru,⟨rfl,λys hy=>by rwa[I.kT hy hq]⟩,Mg,λb hb=>(hf b hb).1⟩⟩
 done:=by
  intro X hP hw hK hc i JX s σ H E I hf st hg;subst hP hw hK;obtain⟨xs,hq,hx⟩:=hg;obtain⟨J2,rv,p,hz⟩:=I.tuple hq;obtain⟨f0,f1,f2,f3,f4,f5⟩:=hf it ↑13;have hl:=rv.length;exact wpAny_pyNext_tuple_end (I.ok.hd hc) st (show s.heap.IsTuple a J2.toArray from p) (by simp;lia) λh' eb=>⟨rfl,I.turned (t':=s.toks) (λb o hb e=>eb b o hb e) f0 f1 f3 f4 f5⟩
 self:=λ_ _ _ _ _ st h=>wpAny_pyIter_tupleiter st h
theorem tZ{K:Nb}(it:Addr)(lo:Int)(n:Nat):Turn P w K tg (Gx lo n) [it] it (λi h=>IsRangeIter h it (lo+(i:Nat)*1) ((n:Int)-(i:Nat)) 1) where
 mem:=by simp
 obj:=λi h st b hb=>by
  have e:b=it:=by simpa using hb
  subst e;exact⟨_,st,λv z=>by
   have z':Data.fields _=Data.cell v:=z;cases z'⟩
 keep:=λi h h' st k=>k it ↑13 _ st
 item:=by
  intro X hP hw hK hc i JX s σ H E I hf st hg;subst hP hw hK;obtain⟨f0,f1,f2,f3,f4,f5⟩:=hf it ↑13;have W:=Walks.range (prog:=X.prog) (w:=X.w) (I.ok.hd hc) it lo 1 n;refine W.item i s _ _ hg st λv h' tk hv Mg kk=>?_;obtain⟨t,rfl⟩:=hv;have I1:Inv X JX σ H { s with heap:=h',toks:=tk }:=I.turned (λb o hb e=>kk b o (by simpa using hb) e) f0 f1 f3 f4 f5;refine⟨_,rfl,yT (s:={ s with heap:=h',toks:=tk }) (n := "range_iterator") Mg rfl rfl ↑12 ⟨.int (lo+i),H,I1,⟨t,?_⟩,⟨rfl,rfl⟩,Mg,λb hb=>(hf b hb).1⟩⟩;rw[Int.mul_one]
 done:=by
  intro X hP hw hK hc i JX s σ H E I hf st hg;subst hP hw hK;obtain⟨f0,f1,f2,f3,f4,f5⟩:=hf it ↑13;exact wpAny_pyNext_range_end (I.ok.hd hc) st (by have:n<=i:=hg;lia) λh' eb=>⟨rfl,I.turned (t':=s.toks) (λb o hb e=>eb b o hb e) f0 f1 f3 f4 f5⟩
 self:=λ_ _ _ _ _ st h=>wpAny_pyIter_rangeiter st h
variable{fp:List Addr}
def xi(K:Nb)(tl:TE):TI:=fun σ H R=>tl σ H λx H1=>∃a,x=.ref a/\(∃xs,fj K H1 a xs)/\R (ID K a) H1
def A_{l:Expr}{tl:TE}(hl:PE X l tl):PI X tg l (xi X.K tl):=by
 intro JX s σ H R I h;refine cn (hl JX s σ H _ I h) λv s1 ⟨x,H1,I1,r1,q1⟩=>?_;obtain⟨a,e,⟨xs,hq⟩,q⟩:=q1;subst e;cases r1;obtain⟨J2,rv,p,hz⟩:=I1.list hq;refine PZ p.isList ?_;refine⟨s1.heap.objs.size,[s1.heap.objs.size],_,_,H1,rfl,I1.kept (t':=s1.toks) λb o e=>Nc _ e,oZ a _,⟨_,Nq _ rfl,rfl,rfl⟩,λb hb=>?_,q⟩;have e:b=s1.heap.objs.size:=by simpa using hb
 subst e;exact I1.sD (Np _) (I1.bo.fresh (Np _))
theorem zM{R:It->Hp->Prop}{lo hi:Int}{t u v:Tok}{tk:Nat}(I:Inv X JX σ H s)(h1:-(2^62)<=lo)(h2:lo<2^62)(h3:-(2^62)<=hi)(h4:hi<2^62)(q:R (Gx lo (hi-lo).toNat) H):wpAny ↑8 X.A (pyIter (.ref s.heap.objs.size)) (Jk X JX σ tg R) E { s with heap:=s.heap.push { cls:=.type "range",data:=.fields #[.int lo t,.int hi u,.int 1 v] },toks:=tk }:=by
 refine wpAny_pyIter_range (IsRange.new ..) (small_one h1 h2 h3 h4) ?_;have I1:Inv X JX σ H { s with heap:=s.heap.push { cls:=.type "range",data:=.fields #[.int lo t,.int hi u,.int 1 v] },toks:=tk }:=I.kept λb o e=>Nc _ e;refine⟨(s.heap.push { cls:=.type "range",data:=.fields #[.int lo t,.int hi u,.int 1 v] }).objs.size,[(s.heap.push { cls:=.type "range",data:=.fields #[.int lo t,.int hi u,.int 1 v] }).objs.size],_,_,H,rfl,
  I1.kept (t':=tk) λb o e=>Nc _ e,tZ _ lo (hi-lo).toNat,?_,λb hb=>?_,q⟩
 .have e1:lo+((0:Nat):Int)*1=lo:=by simp
  have e2:(((hi-lo).toNat:Nat):Int)-((0:Nat):Int)=Builtin.Range.rangeSize lo hi 1:=by rw[rangeSize_one];split<;>lia
  show IsRangeIter _ _ (lo+((0:Nat):Int)*1) ((((hi-lo).toNat:Nat):Int)-((0:Nat):Int)) 1;rw[e1,e2];exact Nq _ rfl
 .have e:b=(s.heap.push { cls:=.type "range",data:=.fields #[.int lo t,.int hi u,.int 1 v] }).objs.size:=by simpa using hb
  subst e;exact I1.sD (Np _) (I1.bo.fresh (Np _))
def BP(ta:TA):TI:=fun σ H R=>ta σ H λvs H1=>∃j:Int,vs=[.int j]/\-(2^62)<=j/\j<2^62/\R (Gx 0 j.toNat) H1
theorem cv{a:Expr}{ta:TA}{p:Pos}(hg:Gl X "range")(hm:X.mg "range"=none)(ha:PA X [a] ta)(hs:autoParam (starEach [a] X.env=[(false,eval a X.env)]) aR._auto_1):PI X tg (.Call (.Name "range" p) [a] [] pos) (BP ta):=by
 intro JX s σ H R I h;refine Call_ (kF I hg hm boot_range (OM (cn (ha pos JX s σ H _ I h) λus s1 ⟨vs,H1,I1,r1,q1⟩=>?_) hs rfl));obtain⟨j,e,q1,q2,q⟩:=q1;subst e;cases r1 with
 | cons r rr =>
  cases rr;obtain⟨t,rfl⟩:=r;exact call_range_1 (zM I1 ⋯ ⋯ q1 q2 (by simpa using q))
def C4(wi:TI)(g:TG)(tb:TS):TS:=λD σ H=>wi σ H λJ H1=>∃W:Nat->Nat->St->Hp->Prop,(∃m,W 0 m σ H1)/\∀i m σ H,W i m σ H ->
 (J.stop i H/\D.nx σ H)\/(J.go i H/\∃N:St->Hp->Prop,(∀σ' H',N σ' H'->∃m',m'<m/\W (i+1) m' σ' H')/\∀x H',J.t5 i H x H'->g x σ H' fun σ2 H2=>tb { D with nx:=N,ct:=N,bk:=D.nx } σ2 H2)
def kr(fp:List Addr)(h:Heap):List (Addr×Obj):=fp.filterMap λb=>(h.get? b).map λo=>(b,o)
def gN(hb:b∈fp)(e:h.get? b=some o):(b,o)∈kr fp h:=R3.mpr ⟨b,hb,by rw[e];rfl⟩
def vx{p:Addr×Obj}(hp:p∈kr fp h):p.1∈fp/\h.get? p.1=some p.2:=by
 obtain⟨b,hb,e⟩:=R3.mp hp;cases q:h.get? b with
 | none=>rw[q] at e;cases e
 | some o =>
  rw[q] at e;have e':(b,o)=p:=Nx e;subst e';exact⟨hb,q⟩
def Inv.pinned(I:Inv X JX σ H s)(hf:∀b∈fp,kb X JX H b)(ho:∀b∈fp,∃o,s.heap.get? b=some o/\∀v,o.data≠.cell v):Inv X (JX++kr fp s.heap) σ H s :=
 I.uD λp hp=>(OX.mp hp).elim (λz=>I.pin p (NN _ z)) λz=>by
  obtain⟨hb,e⟩:=vx z;obtain⟨f0,f1,f2,_⟩:=hf p.1 hb;obtain⟨o,e',d⟩:=ho p.1 hb;rw[e] at e';cases e';exact⟨e,f0,f1,f2,d⟩
def Inv.jE{pl:List (Addr×Obj)}(I:Inv X (JX++pl) σ H s):Inv X JX σ H s:=I.uD λp hp=>I.pin p (NN _ (Qu _ hp))
def zN{iter:Expr}{wi:TI}{g:TG}(hp:PassesOwn ↑8 X.A X.env X.xe)(hc:X.calm=true)(hi:PI X tg iter wi)(hg:PG X tg g)(hb:gP X body tb)(hs:autoParam ↑5 aI._auto_1):PS X (.For tg iter body [] pos) (C4 wi g tb):=by
 intro JX s σ H D I h;refine wpAny_For (cn (hi JX s σ H _ I h) λv s1 h1=>cn h1 λitv s2 h2=>?_) hs;obtain⟨it,fp,tn,J,H2,e,I2,T,L9,f2,W,⟨m0,w0⟩,turn⟩:=h2;subst e;have LB:∀{H':Hp},(∀b∈fp,H' b=none)->∀b∈fp,kb X JX H' b:=λhn b hb=>⟨hn b hb,(f2 b hb).2⟩
 refine codeAny_forLoop_any (λn s'=>∃i σ' H',Inv X JX σ' H' s'/\tn i s'.heap/\(∀b∈fp,H' b=none)/\W i n σ' H') ?_ m0 ⟨0,σ,H2,I2,L9,λb hb=>(f2 b hb).1,w0⟩;rintro n s3 ⟨i,σ3,H3,I3,ME,fr3,w3⟩;rcases turn i n σ3 H3 w3 with ⟨stop,qn⟩|⟨go,N,hN,step⟩
 .refine OY hp (cn (T.done X rfl rfl rfl hc i JX s3 σ3 H3 X.xe I3 (LB fr3) ME stop) λr s4 ⟨hr,I4⟩=>?_);subst hr;exact PD ⟨σ3,H3,I4,qn⟩
 .refine OY hp (cn (T.item X rfl rfl rfl hc i JX s3 σ3 H3 X.xe I3 (LB fr3) ME go) λr s4 ⟨u,hr,h4⟩=>?_);subst hr;refine OY hp (cn h4 λ_ s5 ⟨x,H5,I5,r5,y5,st5,fr5⟩=>?_);have I5':=I5.pinned (LB fr5) (T.obj _ _ st5);refine OY hp (cn (hg _ s5 σ3 H5 x u _ I5' r5 (step x H5 y5)) λ_ s6 ⟨σ6,H6,I6,q6⟩=>?_);refine OY hp (cn (hb _ s6 σ6 H6 _ I6 q6) λf s7 q7=>?_);have again:∀{σ7:St}{H7:Hp},Inv X (JX++kr fp s5.heap) σ7 H7 s7->N σ7 H7->∃m,m<n/\∃i σ' H',Inv X JX σ' H' s7/\tn i s7.heap/\(∀b∈fp,H' b=none)/\W i m σ' H':=λ{σ7 H7} I7 n7=>by
   obtain⟨m',hm,w7⟩:=hN σ7 H7 n7;refine⟨m',hm,i+1,σ7,H7,I7.jE,T.keep _ _ _ st5 λb hb o e=>(I7.pin (b,o) (NN _ (NN _ (gN hb e)))).1,λb hb=>?_,w7⟩;obtain⟨o,e,d⟩:=T.obj _ _ st5 b hb;exact(I7.pin (b,o) (NN _ (NN _ (gN hb e)))).2.1
  cases f with
  | next=>obtain⟨σ7,H7,I7,n7⟩:=q7;exact again I7 n7
  | cont=>obtain⟨σ7,H7,I7,n7⟩:=q7;exact again I7 n7
  | brk=>obtain⟨σ7,H7,I7,q7⟩:=q7;exact⟨σ7,H7,I7.jE,q7⟩
  |ret v=>obtain⟨x7,σ7,H7,I7,r7,q7⟩:=q7;exact⟨x7,σ7,H7,I7.jE,r7,q7⟩
abbrev R2:=V->V->Hp->VK->Prop
def fm(X:Cx)(f:Value->Value->Sem Value)(r:R2):Prop :=
 ∀ (JX:List (Addr×Obj)) (s:Shared) (σ:St) (H:Hp) (x y:V) (v u:Value) (Q:VK),Inv X JX σ H s->RelV x v->RelV y u->r x y H Q ->
  wpAny ↑8 X.A (f v u) (EP X JX σ Q) X.xe s
def G_(X:Cx)(f:Value->Sem Value)(r:V->Hp->VK->Prop):Prop :=
 ∀ (JX:List (Addr×Obj)) (s:Shared) (σ:St) (H:Hp) (x:V) (v:Value) (Q:VK),Inv X JX σ H s->RelV x v->r x H Q ->
  wpAny ↑8 X.A (f v) (EP X JX σ Q) X.xe s
def bX(X:Cx)(f:Value)(r:List V->Hp->VK->Prop):Prop :=
 ∀ (JX:List (Addr×Obj)) (s:Shared) (σ:St) (H:Hp) (xs:List V) (us:List Value) (Q:VK),Inv X JX σ H s->Vals xs us->r xs H Q ->
  wpAny ↑8 X.A (call f us) (EP X JX σ Q) X.xe s
def ES(r:R2)(ta tb:TE):TE:=fun σ H Q=>ta σ H λx H1=>tb σ H1 λy H2=>r x y H2 Q
def Jq(r:V->Hp->VK->Prop)(ta:TE):TE:=fun σ H Q=>ta σ H λx H1=>r x H1 Q
def rI(C:Int->Int->Prop)(g:Int->Int->V):R2:=λx y H Q=>∃i j,x=.int i/\y=.int j/\C i j/\Q (g i j) H
def u6(g:Int->Int->V):R2:=λx y H Q=>∃i j,x=.int i/\y=.int j/\Q (g i j) H
def rU(g:Int->V):V->Hp->VK->Prop:=λx H Q=>∃i,x=.int i/\Q (g i) H
variable{f:Value->Value->Sem Value}
variable{r:R2}
section
variable{a b:Expr}{tb tc:TE}
def Ct(ha:PE X a ta)(hb:PE X b tb){R:V->V->Hp->Prop}(I:Inv X JX σ H s)(h:ta σ H λx H1=>tb σ H1 λy H2=>R x y H2)(hf:∀v u s2 x y H2,Inv X JX σ H2 s2->RelV x v->RelV y u->R x y H2->wpAny ↑8 X.A (f v u) Q X.xe s2):wpAny ↑8 X.A (eval a X.env) (λv s₁=>wpAny ↑8 X.A (eval b X.env) (λu s₂=>wpAny ↑8 X.A (f v u) Q X.xe s₂) X.xe s₁) X.xe s:=by
 refine cn (ha JX s σ H _ I h) λv s1 ⟨x,H1,I1,r1,q1⟩=>?_;refine cn (hb JX s1 σ H1 _ I1 q1) λu s2 ⟨y,H2,I2,r2,q2⟩=>?_;exact hf v u s2 x y H2 I2 r1 r2 q2
def BY{op:Operator}(ho:fm X (binaryOp op) r)(ha:PE X a ta)(hb:PE X b tb):PE X (.BinOp a op b pos) (ES r ta tb):=by
 intro JX s σ H Q I h;exact wpAny_BinOp (Ct ha hb I h λv u s2 x y H2 I2 rx ry q=>ho JX s2 σ H2 x y v u Q I2 rx ry q)
def Gi{op:UnaryOp}{r:V->Hp->VK->Prop}(ho:G_ X (unaryOp op) r)(ha:PE X a ta):PE X (.UnaryOp op a pos) (Jq r ta):=by
 intro JX s σ H Q I h;exact UnaryOp_ (cn (ha JX s σ H _ I h) λv s1 ⟨x,H1,I1,r1,q1⟩=>ho JX s1 σ H1 x v Q I1 r1 q1)
def Gv{C:Int->Int->Prop}{g:Int->Int->Int}(rule:∀(i j:Int)(t u:Tok)(s:Shared)(Q:Value->Shared->Prop)(E:Value->Shared->Prop),C i j->Q (.int (g i j) s.toks) { s with toks:=s.toks+1 }->wpAny ↑8 X.A (f (.int i t) (.int j u)) Q E s):fm X f (rI C λi j=>.int (g i j)):=by
 intro JX s σ H x y v u Q I rx ry h;obtain⟨i,j,rfl,rfl,hc,q⟩:=h;obtain⟨t,rfl⟩:=rx;obtain⟨t',rfl⟩:=ry;exact rule i j t t' s _ _ hc ⟨.int (g i j),H,I.tok _,⟨_,rfl⟩,q⟩
def EK{g:Int->Int->Int}(rule:∀(i j:Int)(t u:Tok)(s:Shared)(Q:Value->Shared->Prop)(E:Value->Shared->Prop),Q (.int (g i j) s.toks) { s with toks:=s.toks+1 }->wpAny ↑8 X.A (f (.int i t) (.int j u)) Q E s):fm X f (u6 λi j=>.int (g i j)):=by
 intro JX s σ H x y v u Q I rx ry h;obtain⟨i,j,rfl,rfl,q⟩:=h;obtain⟨t,rfl⟩:=rx;obtain⟨t',rfl⟩:=ry;exact rule i j t t' s _ _ ⟨.int (g i j),H,I.tok _,⟨_,rfl⟩,q⟩
def Ad{g:Int->Int->Bool}(rule:∀(i j:Int)(t u:Tok)(s:Shared)(Q:Value->Shared->Prop)(E:Value->Shared->Prop),Q (.bool (g i j)) s->wpAny ↑8 X.A (f (.int i t) (.int j u)) Q E s):fm X f (u6 λi j=>.bl (g i j)):=by
 intro JX s σ H x y v u Q I rx ry h;obtain⟨i,j,rfl,rfl,q⟩:=h;obtain⟨t,rfl⟩:=rx;obtain⟨t',rfl⟩:=ry;exact rule i j t t' s _ _ ⟨.bl (g i j),H,I,rfl,q⟩
def DE(i j:Int):Prop:=0<=j/\j<=1000000/\i.natAbs<2^64
def C8:fm X (binaryOp .Add) (u6 λi j=>.int (i+j)):=EK λ_ _ _ _ _ _ _ q=>add_int q
def Ck:fm X (binaryOp .Sub) (u6 λi j=>.int (i-j)):=EK λ_ _ _ _ _ _ _ q=>sub_int q
def BD:fm X (binaryOp .Mod) (rI (λ_ j=>j≠0) λi j=>.int (i.fmod j)):=Gv λ_ _ _ _ _ _ _ hc q=>mod_int' hc q
def EB:fm X (binaryOp .Pow) (rI DE λi j=>.int (i^j.toNat)):=Gv λ_ _ _ _ _ _ _ hc q=>pow_int_small hc.1 hc.2.1 hc.2.2 q
def gT{f:Value->Sem Value}{g:Int->Int}(rule:∀(i:Int)(t:Tok)(s:Shared)(Q:Value->Shared->Prop)(E:Value->Shared->Prop),Q (.int (g i) s.toks) { s with toks:=s.toks+1 }->wpAny ↑8 X.A (f (.int i t)) Q E s):G_ X f (rU λi=>.int (g i)):=by
 intro JX s σ H x v Q I rx h;obtain⟨i,rfl,q⟩:=h;obtain⟨t,rfl⟩:=rx;exact rule i t s _ _ ⟨.int (g i),H,I.tok _,⟨_,rfl⟩,q⟩
def El:G_ X (unaryOp .USub) (rU λi=>.int (-i)):=gT λ_ _ _ _ _ q=>neg_int q
end
variable{op:CmpOp}
variable{us:List Value}
section
variable{a b:Expr}{tb tc:TE}
def iw{Q:VK}{k k':Bool}(I:Inv X JX σ H s)(q:Q (.bl k) H)(e:k=k'):EP X JX σ Q (.bool k') s:=by
 subst e;exact⟨.bl k,H,I,rfl,q⟩
def BW:fm X (compareOp .Lt) (u6 λi j=>.bl (decide (i<j))):=Ad λ_ _ _ _ _ _ _ q=>lt_int q
def ou:fm X (compareOp .LtE) (u6 λi j=>.bl (decide (i<=j))):=Ad λ_ _ _ _ _ _ _ q=>le_int q
def BQ:fm X (compareOp .Gt) (u6 λi j=>.bl (decide (j<i))):=Ad λ_ _ _ _ _ _ _ q=>gt_int q
def B8:fm X (compareOp .GtE) (u6 λi j=>.bl (decide (j<=i))):=Ad λ_ _ _ _ _ _ _ q=>ge_int q
def zi:fm X (compareOp .Is) (λx y H Q=>y=.aJ/\Q (.bl (decide (x=.aJ))) H):=by
 intro JX s σ H x y v u Q I rx ry h;obtain⟨rfl,q⟩:=h;cases ry;refine is_none_gen (iw I q ?_);cases x<;>first
  | (cases rx;rfl)
  |(obtain⟨t,rfl⟩:=rx;rfl)
def uZ:fm X (compareOp .IsNot) (λx y H Q=>y=.aJ/\Q (.bl (!decide (x=.aJ))) H):=by
 intro JX s σ H x y v u Q I rx ry h;obtain⟨rfl,q⟩:=h;cases ry;refine isnot_none_gen (iw I q ?_);cases x<;>first
  | (cases rx;rfl)
  |(obtain⟨t,rfl⟩:=rx;rfl)
def fm.or{r':R2}(h:fm X f r)(h':fm X f r'):fm X f (λx y H Q=>r x y H Q\/r' x y H Q):=by
 intro JX s σ H x y v u Q I rx ry q;rcases q with q|q
 .exact h JX s σ H x y v u Q I rx ry q
 .exact h' JX s σ H x y v u Q I rx ry q
def cb(b:Expr)(h:autoParam (op≠.In) aD._auto_1)(h2:autoParam (op≠.NotIn) aD._auto_1):behindInMarks op b=false:=by
 have e1:(op==CmpOp.In)=false:=by cases op<;>first|rfl|exact absurd rfl h
 have e2:(op==CmpOp.NotIn)=false:=by cases op<;>first|rfl|exact absurd rfl h2
 cases b<;>simp[behindInMarks,e1,e2]
def By(ho:fm X (compareOp op) r)(ha:PE X a ta)(hb:PE X b tb)(hm:behindInMarks op b=false):PE X (.Compare a [op] [b] pos) (ES r ta tb):=by
 intro JX s σ H Q I h;exact wpAny_Compare1 (Ct ha hb I h λv u s2 x y H2 I2 rx ry q=>ho JX s2 σ H2 x y v u Q I2 rx ry q) hm
def Fx(t:TE):TT:=fun σ H Q=>t σ H λx H'=>∃k,x=.bl k/\Q k H'
def A7(ho:fm X (compareOp op) r)(ha:PE X a ta)(hb:PE X b tb)(hm:behindInMarks op b=false):PT X (.Compare a [op] [b] pos) (Fx (ES r ta tb)):=by
 intro JX s σ H Q I h;refine wpAny_isTrue_Compare1 (cn (ha JX s σ H _ I h) λv s1 ⟨x,H1,I1,r1,q1⟩=>cn (hb JX s1 σ H1 _ I1 q1) λu s2 ⟨y,H2,I2,r2,q2⟩ =>
  cn (ho JX s2 σ H2 x y v u _ I2 r1 r2 q2) λc s3 ⟨z,H3,I3,r3,k,e,q3⟩=>?_) hm
 subst e;cases r3;exact O0 ⟨H3,I3,q3⟩
def zP(r r':R2)(ta tb tc:TE):TE:=fun σ H Q=>ta σ H λx H1=>tb σ H1 λy H2=>r x y H2 λz H3=>∃k,z=.bl k ∧
 (if k=true then tc σ H3 λw' H4=>r' y w' H4 Q else Q (.bl false) H3)
def w4{Mw:CmpOp}{r':R2}(ho:fm X (compareOp op) r)(Lu:fm X (compareOp Mw) r')(ha:PE X a ta)(hb:PE X b tb)(hc:PE X c tc)(hm:autoParam (lastMarks [op,Mw] [b,c]=false) aU._auto_1):PE X (.Compare a [op,Mw] [b,c] pos) (zP r r' ta tb tc):=by
 intro JX s σ H Q I h;refine Compare_chain (cn (ha JX s σ H _ I h) λv s1 ⟨x,H1,I1,r1,q1⟩=>chain_link (cn (hb JX s1 σ H1 _ I1 q1) λu s2 ⟨y,H2,I2,r2,q2⟩ =>
  cn (ho JX s2 σ H2 x y v u _ I2 r1 r2 q2) λd s3 ⟨z,H3,I3,r3,k,e,q3⟩=>?_)) hm
 subst e;cases r3;refine O0 ?_;cases k with
 | false=>exact ite_ff ⟨.bl false,H3,I3,rfl,q3⟩
 |true=>exact ite_tt (chain_last (cn (hc JX s3 σ H3 _ I3 q3) λw' s4 ⟨z',H4,I4,r4,q4⟩=>Lu JX s4 σ H4 y z' u w' Q I4 r2 r4 q4))
def kq:(sizeLine:Nat)<2^63:=by rw[sizeLine_eq];decide
def s_:fm X (binaryOp .Add) (λx y H Q=>∃i j,x=.str i/\y=.str j/\i.length+j.length<=sizeLine/\Q (.str (i++j)) H):=by
 intro JX s σ H x y v u Q I rx ry h;obtain⟨i,j,rfl,rfl,hz,q⟩:=h;obtain⟨t,rfl⟩:=rx;obtain⟨t',rfl⟩:=ry;exact add_str (λt' tk=>⟨.str (i++j),H,I.tok _,⟨_,rfl⟩,q⟩) hz
def vals1{x:V}(r:Vals [x] us):∃u,us=[u]/\RelV x u:=by
 cases r with
 |cons r1 r2=>cases r2;exact⟨_,rfl,r1⟩
def vals2{x y:V}(r:Vals [x,y] us):∃u w',us=[u,w']/\RelV x u/\RelV y w':=by
 cases r with
 | cons r1 r2 =>
  cases r2 with
  |cons r3 r4=>cases r4;exact⟨_,_,rfl,r1,r3⟩
def n5(hc:X.calm=true):bX X (.builtin "max") (λxs H Q=>∃i j,xs=[.int i,.int j]/\Q (.int (if j>i then j else i)) H):=by
 intro JX s σ H xs us Q I r h;obtain⟨i,j,rfl,q⟩:=h;obtain⟨u,w',rfl,⟨t,rfl⟩,⟨t',rfl⟩⟩:=vals2 r;refine max_two_ints (I.ok.hd hc) λh' tk k=>⟨_,H,I.kept k,?_,q⟩
 by_cases hj:j>i
 .rw[if_pos hj,if_pos hj];exact⟨_,rfl⟩
 .rw[if_neg hj,if_neg hj];exact⟨_,rfl⟩
def pE:bX X (.type "str") (λxs H Q=>∃i,xs=[.int i]/\i.natAbs.log2<1920/\Q (.str (toString i)) H):=by
 intro JX s σ H xs us Q I r h;obtain⟨i,rfl,hz,q⟩:=h;obtain⟨u,rfl,t,rfl⟩:=vals1 r;exact PySem.P.str_of_int hz ⟨.str _,H,I.tok _,⟨_,rfl⟩,q⟩
end
structure tP (h:Heap) (x dx C:Addr) (mA:Str->Option Value):Prop where
 obj:h.get? x=some (OH C dx)
 ns:h.Ns1 dx mA
 ne:dx≠x
variable{mA:Str->Option Value}{dx:Addr}
def kz(n:h.Ns1 dx mA):∃od,h.get? dx=some od/\∀name,P4 name od=some (mA name):=by
 obtain⟨o,es,ep,ho,hd,hk,_,hm⟩:=n;refine⟨o,ho,λname=>?_⟩;have e:=hm name;unfold nsFind findBy at e;rw[<- R4] at e;unfold P4;rw[hd];dsimp only
 split
 .rename_i y q;rw[q] at e;exact congrArg some e
 .rename_i q;rw[q] at e;have a:es.toList.any (·.refKey)=false:=by
   rw[List.any_eq_false];intro y hy;obtain⟨z,t,hkey⟩:=hk y (Array.mem_toList_iff.mp hy);simp[DictEntry.refKey,hkey]
  have a':¬ es.toList.any (·.refKey)=true:=by rw[a];exact N1
  rw[if_neg a'];exact congrArg some e
variable{C:Addr}
def tP.look{x:Addr}(I:tP h x dx C mA):∃od,OQ h x (OH C dx) C (some od)/\∀name,P4 name od=some (mA name) :=
 let ⟨od,ho,hl⟩:=kz I.ns
 ⟨od,⟨I.obj,rfl,rfl,ho⟩,hl⟩
variable{prog:Program}
variable{pl:Sem Bool}
variable{kw:List (Str×Value)}
section
variable{K:Nb}{x f:Addr}{name:Str}{v:Value}
def get_map{expr:Bool}(X:K.In s.heap)(I:tP s.heap x dx C mA)(hg:Qk K C name=true)(hh:P5 K C=true)(ha:NO K (.ref C) name=some none)(hv:mA name=some v)(M1:SQ v=true)(h:Q v { s with toks:=s.toks+1 }):wpAny ↑11 A (getAttr (.ref x) name expr) Q E s:=by
 obtain⟨od,J,hl⟩:=I.look;exact PySem.W.get_value X J (QI hg).1 (RU hh ha rfl (by rw[hl,hv])) M1 h
def xD{Q:Value×List Value->Shared->Prop}(X:K.In s.heap)(I:tP s.heap x dx C mA)(hg:Qk K C name=true)(hf:NO K (.ref C) name=some (some (.ref f)))(ht:Pk K (.ref f)=true)(hv:mA name=none)(h:Q (.ref f,[.ref x]) s):wpAny ↑11 A (getMethod (.ref x) name pl) Q E s:=by
 obtain⟨od,J,hl⟩:=I.look;exact PySem.W.method_fn X J (QI hg).1 (QI hg).2 hf (beq_iff_eq.mp ht) (by show (P4 name od).map (·.isSome)=some false;rw[hl,hv];rfl) h
theorem zZ{ns:List Str}{Q:Unit->Shared->Prop}(X:K.In s.heap)(I:tP s.heap x dx C mA)(hs:NO K (.ref C) "__setattr__"=some (some (.builtin "object.__setattr__")))(hp:Sn K C=true)(ht:PF K C name=some none)(hh:P5 K C=true)(hw:Sl mA ns)(La:ns.length<=sizeLine)(h:∀h',tP h' x dx C (λy=>if y=name then some v else mA y)->PY dx s.heap h'->Q () { s with heap:=h',toks:=s.toks+2 }):wpAny ↑11 A (setAttr (.ref x) name v) Q E s:=by
 obtain⟨od,J,hl⟩:=I.look;refine So X J hs (PySem.W.osa_open (s:={ s with toks:=s.toks+1 }) (r:=none) X J hp ht λb=>?_);obtain⟨cd,hc,MP⟩:=O8 hh;have hx:s.heap.get? x=some ⟨.ref C,some dx,.plain,#[]⟩:=I.obj;refine Na (Nh (Na (Na (P6 hx (Na (R5 (s:={ s with toks:=s.toks+1 }) (QJ X hc) ?_))))));rw[MP];refine Nh (a:=some dx) (Na (Nh (Na ?_)));refine wpAny_nsSet1 (s:={ s with toks:=s.toks+1 }) I.ns λh' Mf KQ=>?_;obtain⟨oD,esD,epD,hoD,hdD,LV⟩:=Mf.count (Sq name v hw);refine Na (wpAny_lookBehind hoD (by rw[hdD];exact pastItsLine_dict (NZ LV (by rw[N_];lia))) ?_);exact Nh (h _ ⟨(KQ.2 _ (OL I.ne)).trans I.obj,Mf,I.ne⟩ KQ)
def xY{R:Result->Shared->Prop}{vs:List Value}(X:K.In s.heap)(hm:Th K C=true)(hi:NO K (.ref C) "__init__"=some (some (.ref f)))(hf:Pf K (.ref f)=some (.type "function"))(h:codeAny ↑11 (A.under (.builtin "type.__call__" ⟨.ref C::vs,kw⟩)) (.call (.ref f) ⟨.ref (s.heap.objs.size+1)::vs,kw⟩) (PySem.W.InitBack (s.heap.objs.size+1) R) { s with heap:=(s.heap.push Od).push (OH C s.heap.objs.size) }):codeAny ↑11 A (.call (.ref C) ⟨vs,kw⟩) R s:=by
 obtain⟨hh,g,d,t,os⟩:=s;exact PySem.W.make_core (PySem.W.makes_of X hm) (Pg X hi) (λself=>Ti X self hf) (.inl rfl) h
end
def gQ(f:Str)(v:V):List (Str×V)->List (Str×V)
 | []=>[(f,v)]
 |(g,x)::r=>if g=f then (g,v)::r else (g,x)::gQ f v r
theorem lj(f g:Str)(v:V):∀fs:List (Str×V),(gQ f v fs).lookup g=if g=f then some v else fs.lookup g
 | []=>by
  show Ph g [(f,v)]=_
  by_cases h:g=f
  .have hb:(g==f)=true:=beq_iff_eq.mpr h;simp only[Ph,hb,if_pos h]
  .have hb:(g==f)=false:=beq_eq_false_iff_ne.mpr h;simp only[Ph,hb,if_neg h]
 | (k,x)::r=>by
  have ih:=lj f g v r;rw[show gQ f v ((k,x)::r)=(if k=f then (k,v)::r else (k,x)::gQ f v r) from rfl]
  by_cases hk:k=f
  .rw[if_pos hk]
   by_cases h:g=k
   .have hb:(g==k)=true:=beq_iff_eq.mpr h;simp only[Ph,hb,if_pos (h.trans hk)]
   .have hb:(g==k)=false:=beq_eq_false_iff_ne.mpr h;simp only[Ph,hb,if_neg (λe:g=f=>h (e.trans hk.symm))]
  .rw[if_neg hk]
   by_cases h:g=k
   .have hb:(g==k)=true:=beq_iff_eq.mpr h;simp only[Ph,hb,if_neg (λe:g=f=>hk (h.symm.trans e))]
   .have hb:(g==k)=false:=beq_eq_false_iff_ne.mpr h;simp only[Ph,hb];exact ih
theorem kW(f:Str)(v:V):∀fs:List (Str×V),f∈(gQ f v fs).map (·.1)/\∀g,g∈fs.map (·.1)->g∈(gQ f v fs).map (·.1)
 | []=>⟨by simp[gQ],λg h=>by simp at h⟩
 | (k,x)::r=>by
  obtain⟨i1,i2⟩:=kW f v r;rw[show gQ f v ((k,x)::r)=(if k=f then (k,v)::r else (k,x)::gQ f v r) from rfl]
  by_cases hk:k=f
  .rw[if_pos hk];subst hk;exact⟨by simp,λg h=>by simpa using h⟩
  .rw[if_neg hk];refine⟨?_,λg h=>?_⟩
   .rw[NJ];exact Nl _ i1
   .rw[NJ] at h ⊢;rcases NB.mp h with e|e
    .exact NB.mpr (.inl e)
    .exact Nl _ (i2 g e)
theorem kY(f:Str)(v:V):∀fs:List (Str×V),(gQ f v fs).length<=fs.length+1
 | []=>by simp[gQ]
 | (k,x)::r=>by
  have ih:=kY f v r;rw[show gQ f v ((k,x)::r)=(if k=f then (k,v)::r else (k,x)::gQ f v r) from rfl]
  by_cases hk:k=f
  .rw[if_pos hk,N_,N_];lia
  .rw[if_neg hk,N_,N_];lia
def jD.some_of{o:Option Value}(r:jD (some v) o):∃u,o=some u/\RelV v u:=by
 cases o with
 | none=>exact(show False from r).elim
 |some u=>exact⟨u,rfl,r⟩
def jD.none_of{o:Option Value}(r:jD none o):o=none:=by
 cases o with
 | none=>rfl
 |some u=>exact(show False from r).elim
def og(r:RelV v u):SQ u=true:=by
 cases v with
 | aJ=>cases (show u=NQ from r);rfl
 | bl b=>cases (show u=OP b from r);rfl
 | int i=>obtain⟨t,e⟩:=(show ∃t,u=Rj i t from r);cases e;rfl
 | str x=>obtain⟨t,e⟩:=(show ∃t,u=Rk x t from r);cases e;rfl
 | byt b=>obtain⟨t,e⟩:=(show ∃t,u=TZ b t from r);cases e;rfl
 | B1 b=>obtain⟨t,e⟩:=(show ∃t,u=RM b t from r);cases e;rfl
 | ref a=>cases (show u=Nj a from r);rfl
 |ty n=>cases (show u=Ov n from r);rfl
section
variable{fs fs':List (Str×V)}
def ju(bo:j9 P w H h)(e:H a=some (.ins C dx fs)):∃mA,tP h a dx C mA/\(∀f,jD (fs.lookup f) (mA f))/\Sl mA (fs.map (·.1))/\fs.length<=1000/\H dx=some (.own a):=by
 obtain⟨d,z,ne,ob,mA,n,r,q⟩:=(show bz P w H h a (.ins C dx fs) from bo a _ e)
 exact⟨mA,⟨ob,n,ne⟩,r,q,z,d⟩
end
structure nV (K:Nb) (C:Addr):Prop where
 pg:Qk K C Str.empty=true
 hd:P5 K C=true
 po:Sn K C=true
 sa:NO K (.ref C) "__setattr__"=some (some (.builtin "object.__setattr__"))
def nV.get{K:Nb}(c:nV K C)(f:Str):Qk K C f=true:=c.pg
def bM(K:Nb)(C:Addr)(f:Str):Prop:=NO K (.ref C) f=some none
def bM.B7{K:Nb}{f:Str}(n:bM K C f):PF K C f=some none:=by
 unfold PF;rw[show NO K (.ref C) f=some none from n];rfl
structure Meth (K:Nb) (C:Addr) (m:Str) (f:Addr):Prop where
 at_:NO K (.ref C) m=some (some (.ref f))
 fn:Pk K (.ref f)=true
 kp:NS K (.ref f)=true
variable{m:Str}
section
variable{fs:List (Str×V)}{f:Str}
def uj{b:Bool}(I:Inv X JX σ H s)(e:H a=some (.ins C dx fs))(c:nV X.K C)(n:bM X.K C f)(l:fs.lookup f=some v)(h:∀u s',Inv X JX σ H s'->RelV v u->Q u s'):wpAny ↑8 A (getAttr (.ref a) f b) Q E s:=by
 obtain⟨mA,O,r,_,_,_⟩:=ju I.bo e;obtain⟨u,hu,ru⟩:=jD.some_of (v:=v) (o:=mA f) (by rw[<- l];exact r f);exact get_map I.gi O (c.get f) c.hd n hu (og ru) (h u _ (I.tok _) ru)
def um{g:Addr}{Q:Value×List Value->Shared->Prop}(I:Inv X JX σ H s)(e:H a=some (.ins C dx fs))(c:nV X.K C)(k:Meth X.K C m g)(l:fs.lookup m=none)(h:Q (.ref g,[.ref a]) s):wpAny ↑8 A (getMethod (.ref a) m pl) Q E s:=by
 obtain⟨mA,O,r,_,_,_⟩:=ju I.bo e;have hn:mA m=none:=jD.none_of (by rw[<- l];exact r m);exact xD I.gi O (c.get m) k.at_ k.fn hn h
theorem tW{y:V}{Q:Unit->Shared->Prop}(I:Inv X JX σ H s)(e:H a=some (.ins C dx fs))(c:nV X.K C)(n:bM X.K C f)(hl:fs.length<1000)(ry:RelV y u)(h:∀s',Inv X JX σ (upd H a (.ins C dx (gQ f y fs))) s'->Q () s'):wpAny ↑8 A (setAttr (.ref a) f u) Q E s:=by
 obtain⟨mA,O,r,wi,_,ho⟩:=ju I.bo e;have hz:(fs.map (·.1)).length<=sizeLine:=by rw[Nm,sizeLine_eq];lia
 refine zZ I.gi O c.sa c.po n.B7 c.hd wi hz λh' O' sb=>h _ ?_;have hd:∃o,h'.get? dx=some o:=let ⟨o,_,_,e',_⟩:=O'.ns;⟨o,e'⟩
 refine I.write (x:=a) (e:=dx) (by rw[e];exact OI) (.inr ho) (λb q hb z=>(sb.2 b hb).trans z) hd ?_;refine⟨by rwa[aq O.ne],?_,O.ne,O'.obj,_,O'.ns,λg=>?_,λg hg=>?_⟩
 .have:=kY f y fs;lia
 .show jD ((gQ f y fs).lookup g) (if g=f then some u else mA g);rw[lj]
  by_cases q:g=f
  .rw[if_pos q,if_pos q];exact ry
  .rw[if_neg q,if_neg q];exact r g
 .by_cases q:g=f
  .rw[q];exact(kW f y fs).1
  .refine(kW f y fs).2 g (wi g λz=>hg ?_);show (if g=f then some u else mA g)=none;rwa[if_neg q]
def Inv.made(I:Inv X JX σ H s):Inv X JX σ (upd (upd H s.heap.objs.size (.own (s.heap.objs.size+1))) (s.heap.objs.size+1) (.ins C s.heap.objs.size [])) { s with heap:=(s.heap.push Od).push (OH C s.heap.objs.size) }:=by
 have e1:(s.heap.push Od).get? s.heap.objs.size=some Od:=Nq s.heap rfl;have e2:((s.heap.push Od).push (OH C s.heap.objs.size)).get? (s.heap.objs.size+1)=some (OH C s.heap.objs.size):=by
  have:=Nq (s.heap.push Od) (o:=OH C s.heap.objs.size) rfl
  rwa [N4] at this
 have e3:(s.heap.push Od).Ns s.heap.objs.size (λ_=>none):=⟨Od,#[],_,e1,rfl,(λe he=>absurd he ↑13),λ_=>rfl⟩
 have I1:=I.laid (a:=s.heap.objs.size) (o:=.own (s.heap.objs.size+1)) (h':=s.heap.push Od) (t':=s.toks) (λb u q=>Nc _ q) (Np _) ⟨_,e1⟩;refine I1.laid (a:=s.heap.objs.size+1) (o:=.ins C s.heap.objs.size []) (t':=s.toks) (λb u q=>Nc _ q) (Ss (N4 _ _)) ?_;have ne:s.heap.objs.size≠s.heap.objs.size+1:=Ny (Om _);refine⟨by rw[aq ne,av],NT _,ne,e2,λ_=>none,(Su e3).at λo q=>Nc _ q,λ_=>OI,λy hy=>absurd rfl hy⟩
def uS{env:Env}{f:Str}(hb:attributeBase e f env (eval e env)=eval e env)(h:wpAny ↑11 A (eval e env) (λo s₁=>wpAny ↑11 A (getAttr o f true) Q E s₁) E s):wpAny ↑11 A (eval (.Attribute e f pos) env) Q E s :=
 Attribute_any_ h (by rw[arm_eval_Attribute,hb])
end
def Hw(K:Nb)(ta:TE)(f:Str):TE:=fun σ H Q=>ta σ H λx H1=>∃a C dx fs v,x=.ref a/\H1 a=some (.ins C dx fs)/\nV K C/\bM K C f/\fs.lookup f=some v/\Q v H1
def IF(K:Nb)(ta tv:TE)(f:Str):TS:=λD σ H=>tv σ H λy H1=>ta σ H1 λx H2=>∃a C dx fs,x=.ref a/\H2 a=some (.ins C dx fs)/\nV K C/\bM K C f/\fs.length<1000 ∧
 D.nx σ (upd H2 a (.ins C dx (gQ f y fs)))
section
variable{o value:Expr}{f:Str}{pos' M9:Pos}{tv:TE}
def Dh(he:PE X e ta)(hb:attributeBase e f X.env (eval e X.env)=eval e X.env):PE X (.Attribute e f pos) (Hw X.K ta f):=by
 intro JX s σ H Q I h;refine uS hb (cn (he JX s σ H _ I h) λu s1 ⟨x,H1,I1,rx,a,C,dx,fs,v,ex,ea,c,n,l,q⟩=>?_);subst ex;obtain rfl:u=Nj a:=rx;exact uj I1 ea c n l λu' s2 I2 ru=>⟨v,H1,I2,ru,q⟩
def DD(ha:PE X o ta)(hv:PE X value tv)(hs:swapsWith value (some (.Attribute o f pos')) pos.line X.env=pure false):PS X (.Assign [.Attribute o f pos'] value pos) (IF X.K ta tv f):=by
 intro JX s σ H D I h;refine Qi (cn (hv JX s σ H _ I h) λu s1 ⟨y,H1,I1,ry,q⟩=>cn (ha JX s1 σ H1 _ I1 q) λov s2 ⟨x,H2,I2,rx,a,C,dx,fs,ex,ea,c,n,l,q2⟩=>?_) hs;subst ex;obtain rfl:ov=Nj a:=rx;exact tW I2 ea c n l ry λs3 I3=>⟨σ,_,I3,q2⟩
end
section
variable{c:Value}{b:Bool}
inductive gm (K:Nb) (H:Hp):V->Value->Prop where
 | aJ:gm K H .aJ (.type "NoneType")
 | bl (x:Bool):gm K H (.bl x) (.type "bool")
 | int (i:Int):gm K H (.int i) (.type "int")
 | str (x:Str):gm K H (.str x) (.type "str")
 | B1 (x:UInt64):gm K H (.B1 x) (.type "float")
 | lst {a:Addr} {xs:List V} (e:H a=some (.lst xs)):gm K H (.ref a) (.type "list")
 | k9 {a:Addr} {o:Obj} {xs:List V} (e:H a=some (.k9 o (.lst xs))):gm K H (.ref a) (.type "list")
 | tup {a:Addr} {xs:List V} (e:H a=some (.tup xs)):gm K H (.ref a) (.type "tuple")
 | dK {a:Addr} {Kj:List (Key×V)} (e:H a=some (.dK Kj)):gm K H (.ref a) (.type "dict")
 | dT {a:Addr} {Kj:List (List Key×V)} (e:H a=some (.dT Kj)):gm K H (.ref a) (.type "dict")
 | ins {a C dx:Addr} {fs:List (Str×V)} (e:H a=some (.ins C dx fs)) (cl:nV K C) (ha:NO K (.ref C) "__class__"=some (some (.builtin "object.__class__")))
   (hn:P7 K (.builtin "object.__class__") "__get__"=some (some (.builtin "getset_descriptor.__get__"))) (EI:QB K (.builtin "object.__class__")=some true)
   (hm:Rf K C (.type "object")=some true):gm K H (.ref a) (.ref C)
def oR{x:V}{t:Value}(I:Inv X JX σ H s)(rx:RelV x u)(ty:gm X.K H x t)(e:Ng X.K t c=some b)(h:∀tk,Q (.bool b) { s with toks:=tk }):wpAny ↑8 A (call (.builtin "isinstance") [u,c]) Q E s:=by
 cases ty with
 | aJ=>cases (show u=NQ from rx);exact NW Sv I.gi OI e (λz=>nomatch z) h
 | bl y=>cases (show u=OP y from rx);exact NW Sw I.gi OI e (λz=>nomatch z) h
 | int i=>obtain⟨t,q⟩:=(show ∃t,u=Rj i t from rx);cases q;exact NW SS I.gi OI e (λz=>nomatch z) h
 | str y=>obtain⟨t,q⟩:=(show ∃t,u=Rk y t from rx);cases q;exact NW SW I.gi OI e (λz=>nomatch z) h
 | B1 y=>obtain⟨t,q⟩:=(show ∃t,u=RM y t from rx);cases q;exact NW R6 I.gi OI e (λz=>nomatch z) h
 | @lst a xs ea =>
  cases (show u=Nj a from rx);obtain⟨_,_,n,_,h1⟩:=(show bz X.prog X.w H s.heap a (.lst xs) from I.bo a _ ea)
  exact NW P8 I.gi ⟨_,h1,rfl⟩ e (λz=>nomatch z) h
 | @k9 a ob xs ea =>
  cases (show u=Nj a from rx);obtain⟨_,_,_,n,_,h1⟩:=(show bz X.prog X.w H s.heap a (.k9 ob (.lst xs)) from I.bo a _ ea)
  exact NW P8 I.gi ⟨_,h1,rfl⟩ e (λz=>nomatch z) h
 | @tup a xs ea =>
  cases (show u=Nj a from rx);obtain⟨_,_,_,p⟩:=(show bz X.prog X.w H s.heap a (.tup xs) from I.bo a _ ea)
  obtain⟨o,h1,h2,_⟩:=p;exact NW R7 I.gi ⟨o,h1,h2⟩ e (λz=>nomatch z) h
 | @dK a Kj ea =>
  cases (show u=Nj a from rx);obtain⟨_,_,vs,_,p⟩:=(show bz X.prog X.w H s.heap a (.dK Kj) from I.bo a _ ea)
  obtain⟨o,es,ep,h1,h2,_⟩:=p;exact NW P9 I.gi ⟨o,h1,h2.1⟩ e (λz=>nomatch z) h
 | @dT a Kj ea =>
  cases (show u=Nj a from rx);obtain⟨_,_,xs,_,o,es,ep,h1,h2,_⟩:=(show bz X.prog X.w H s.heap a (.dT Kj) from I.bo a _ ea)
  exact NW P9 I.gi ⟨o,h1,h2.1⟩ e (λz=>nomatch z) h
 | @ins a C dx fs ea cl ha hn EI hm =>
  cases (show u=Nj a from rx);obtain⟨mA,O,_⟩:=ju I.bo ea;obtain⟨od,J,_⟩:=O.look;exact NW (SX (cl.get _) cl.hd ha hn EI hm) I.gi J e (λz=>nomatch z) h
end
structure bH (k:Nat) (A:Around):Prop where
 hd:A.handled=none
 dp:A.depth+3*k+5<recursionLimit
 un:A.units+16*k+200<cLine
theorem bH.mono{j:Nat}(r:bH k A)(h:j<=k):bH j A:=⟨r.hd,by have:=r.dp;lia,by have:=r.un;lia⟩
theorem bH.deeper{k:Nat}{A:Around}(r:bH (k+1) A)(env:Env):bH k (A.deeper env) :=
 ⟨r.hd,by have:=r.dp;show A.depth+1+3*k+5<_;lia,by have:=r.un;show A.units+3+16*k+200<_;lia⟩
def t9:(A.under (.builtin "type.__call__" ⟨.ref C::us,kw⟩)).depth=A.depth+1:=by
 first|rfl|simp[Sx,Code.weight,Code.isCreation,Code.isGuard,Code.isCaller,Code.frames,Sy,guardIds]
def tF:(A.under (.builtin "type.__call__" ⟨.ref C::us,kw⟩)).units=A.units+1:=by
 first|rfl|simp[Sx,Code.cUnits,Code.frames,Sy]
theorem bH.make(r:bH (k+1) A)(C:Addr)(us:List Value)(kw:List (Str×Value)):bH k (A.under (.builtin "type.__call__" ⟨.ref C::us,kw⟩)) :=
 ⟨r.hd,by have:=r.dp;rw[t9];lia,by have:=r.un;rw[tF];lia⟩
theorem bH.depth{k:Nat}{A:Around}(r:bH k A):A.depth<recursionLimit:=by have:=r.dp;lia
theorem bH.units{k:Nat}{A:Around}(r:bH k A):A.units+64<cLine:=by have:=r.un;lia
def D9:TA:=λ_ H Q=>Q [] H
def zG(ta:TE)(tr:TA):TA:=fun σ H Q=>ta σ H λx H1=>tr σ H1 λxs H2=>Q (x::xs) H2
variable{t:TA}
def cZ:PA X [] D9:=λ_ _ _ _ H Q I h=>Calls.spliced_nil ⟨[],H,I,.nil,h⟩
def aT(ha:PE X e te)(hr:PA X es t)(hs:autoParam ↑0 aR._auto_1):PA X (e::es) (zG te t):=by
 intro pos JX s σ H Q I h;rw[hs];show wpAny _ _ (spliced ((false,eval e X.env)::backTo pos (starEach es X.env))) _ _ s;refine Calls.spliced_cons (cn (ha JX s σ H _ I h) λu s1 ⟨x,H1,I1,r1,q1⟩=>?_);exact cn (hr pos JX s1 σ H1 _ I1 q1) λus s2 ⟨xs,H2,I2,r2,q2⟩=>⟨x::xs,H2,I2,.cons r1 r2,q2⟩
def Ia(t:TA):TE:=fun σ H Q=>t σ H λxs H1=>xs.length<=sizeLine/\∀p,H1 p=none->Q (.ref p) (upd H1 p (.tup xs))
def IW(t:TA):TE:=fun σ H Q=>t σ H λxs H1=>xs.length<=sizeLine/\∀p,H1 p=none->Q (.ref p) (upd H1 p (.lst xs))
def i6{x1}(h:PA X es t):PE X (.Tuple es x1 pos) (Ia t):=by
 intro JX s σ H Q I hq;refine wpAny_Tuple_spliced (cn (h pos JX s σ H _ I hq) λus s1 ⟨xs,H1,I1,r,z,q⟩=>⟨by rwa[<- r.length],?_⟩);have hf:H1 s1.heap.objs.size=none:=I1.bo.fresh (Np _);refine⟨.ref s1.heap.objs.size,upd H1 s1.heap.objs.size (.tup xs),I1.laid (t':=s1.toks) (λb u e=>Nc _ e) (Np _) ?_,rfl,q _ hf⟩;exact⟨z,us,r,⟨_,Nq _ rfl,rfl,_,rfl⟩⟩
def yd(h:PA X es t):PE X (.List es pos) (IW t):=by
 intro JX s σ H Q I hq;refine wpAny_List_spliced (cn (h pos JX s σ H _ I hq) λus s1 ⟨xs,H1,I1,r,z,q⟩=>⟨by rwa[<- r.length],?_⟩);have hf:H1 s1.heap.objs.size=none:=I1.bo.fresh (Np _);refine⟨.ref s1.heap.objs.size,upd H1 s1.heap.objs.size (.lst xs),I1.laid (t':=s1.toks) (λb u e=>Nc _ e) (Np _) ?_,rfl,q _ hf⟩;exact⟨z,us,0,r,Nq _ rfl⟩
abbrev Sp:=List V->Hp->VK->XK->Prop
abbrev EG:=List Env->Hp->Shared->XK->Value->Shared->Prop
structure t6 (P:Program) (w:World) (K:Nb) (mg:Str->Option Value) (base:Heap) (A:Around) (outer:List Env) (s:Shared) (H:Hp):Prop where
 frames:A.frames=some outer
 mod:Mod K mg base
 bs:∀b o,base.get? b=some o->s.heap.get? b=some o/\H b=none
 yM:base.objs.size<=s.heap.objs.size
 iQ:s.heap.FunFrames base outer
 zU:∀b∈sM outer,H b=none
 bo:j9 P w H s.heap
 bare:AllBare s.gens
def CE(outer:List Env)(P:Program)(w:World)(H:Hp)(s:Shared)(Q:VK)(u:Value)(s':Shared):Prop :=
 ∃v H',s'.os=s.os/\AllBare s'.gens/\Un (sM outer) [] H H' s.heap s'.heap/\j9 P w H' s'.heap/\RelV v u/\Q v H'
def CR(CX:EG)(outer:List Env)(P:Program)(w:World)(H:Hp)(s:Shared)(Q:VK)(E:XK)(r:Result)(s':Shared):Prop :=
 match r with
 | .ok (.ret u)=>CE outer P w H s Q u s'
 | .ok _=>False
 |.error e=>CX outer H s E e s'
structure aV (P:Program) (w:World) (K:Nb) (mg:Str->Option Value) (base:Heap) (CX:EG) (k:Nat) (f:Addr) (fd:FuncData) (ps:List Str) (sp:Sp):Prop where
 len:∀vs H Q E,sp vs H Q E->vs.length=ps.length
 run:∀(A:Around)(outer:List Env)(s:Shared)(H:Hp)(args:Args)(us:List Value)(vs:List V)(Q:VK)(E:XK),bH k A->t6 P w K mg base A outer s H->BindsTo s fd args (ps.zip us)->Vals vs us->sp vs H Q E ->
  codeAny (model P w) A (.call (.ref f) args) (CR CX outer P w H s Q E) s
variable{outer:List Env}{base:Heap}{mg:Str->Option Value}
def t6.make{K:Nb}(e:t6 P w K mg base A outer s H)(C:Addr)(us:List Value)(kw:List (Str×Value)):t6 P w K mg base (A.under (.builtin "type.__call__" ⟨.ref C::us,kw⟩)) outer s H:=⟨by first|exact e.frames|(simpa [Sx,Code.envs,Sy,pushEnvs] using e.frames),e.mod,e.bs,e.yM,e.iQ,e.zU,e.bo,e.bare⟩
section
variable{s':Shared}
def Inv.eM(I:Inv X JX σ H s):t6 X.prog X.w X.K X.mg X.base X.A X.stack s H :=
 ⟨I.ok.frames,I.ok.mod,I.bs,NZ I.ok.yM I.sz,I.stack,I.p5,I.bo,I.bare⟩
def Inv.after{Q:VK}(I:Inv X JX σ H s)(h:CE X.stack X.prog X.w H s Q u s'):EP X JX σ Q u s':=by
 obtain⟨v,H',os,bare,un,bo,r,q⟩:=h;obtain⟨hh,g,d,t,os'⟩:=s';obtain rfl:os'=s.os:=os;exact⟨v,H',I.call (h':=hh) (g':=g) (d':=d) (t':=t) (ch:=[]) un bo bare (λb z=>absurd z ↑13),r,q⟩
end
def Binds(K:Nb)(fd:FuncData)(ps:List Str)(ds:List Value):Prop :=
 ∀(s:Shared)(us:List Value),K.In s.heap->(us++ds).length=ps.length->BindsTo s fd ⟨us,[]⟩ (ps.zip (us++ds))
variable{ps:List Str}{fd:FuncData}
def Binds.all{K:Nb}(h:∀us:List Value,us.length=ps.length->bindArgs fd ⟨us,[]⟩=pure (ps.zip us)):Binds K fd ps []:=λs us _ hl=>by
 rw[NX] at hl ⊢;exact .of_eq (h us hl)
variable{sp:Sp}{CX:EG}
section
variable{f:Addr}{Ku:List V}{ds:List Value}{E:XK}{p apos:Pos}{o:Expr}
structure Mk (K:Nb) (C f:Addr):Prop where
 makes:Th K C=true
 init:NO K (.ref C) "__init__"=some (some (.ref f))
 fn:Pk K (.ref f)=true
 kp:NS K (.ref C)=true
end
section
variable{f:Addr}{ks:List Str}{E:XK}{p apos kpos:Pos}{o:Expr}{kws:List Keyword}{tk:TA}{nm:Option Str}
variable{g:List Value->List Value->List Value}{gV:List V->List V->List V}
end
structure bD (N P:List Str) (sc:Scope):Prop where
 kind:sc.kind=.function
 co:sc.isCoroutine=false
 gen:sc.isGenerator=false
 nd:N.Nodup
 pre:N.take P.length=P
 par:∀x∈P,sc.names.lookup x=some .local\/sc.names.lookup x=some .cell
 D5:∀y∈sc.names,y.2≠.free
theorem nX{kindOf:Str->Option NameKind}{x:Str}:∀{binds:List (Str×Value)}{m:Str->Option Value},(∀v,(x,v) ∉ binds)->bindL kindOf binds m x=m x
 | [],_,_=>rfl
 | (n,v)::r,m,h=>by
  unfold bindL;rw[nX λw hw=>h w (Nl _ hw)]
  split
  .have:x≠n:=by rintro rfl;exact h v Nt
   simp[this]
  .rfl
theorem oq{kindOf:Str->Option NameKind}{x:Str}:∀{binds:List (Str×Value)}{m:Str->Option Value},(∀v,(x,v) ∉ binds)->bindC kindOf binds m x=m x
 | [],_,_=>rfl
 | (n,v)::r,m,h=>by
  unfold bindC;rw[oq λw hw=>h w (Nl _ hw)]
  split
  .rfl
  .have:x≠n:=by rintro rfl;exact h v Nt
   simp[this]
theorem oo{kindOf:Str->Option NameKind}{x:Str}{v:Value}:∀{P:List Str}{vs:List Value}{i:Nat}{m:Str->Option Value},P.Nodup->P[i]?=some x->vs[i]?=some v->kindOf x=some .local ->bindL kindOf (P.zip vs) m x=some v
 | [],_,_,_,_,h,_,_=>by simp at h
 | _::_,[],_,_,_,_,h,_=>by simp at h
 | p::P,w::vs,0,m,nd,h1,h2,hk=>by
  simp at h1 h2;subst h1;subst h2;show bindL kindOf ((p,w)::P.zip vs) m p=_;unfold bindL;rw[nX λv hv=>(QC.mp nd).1 (PJ hv).1,if_pos hk];simp
 | p::P,w::vs,i+1,m,nd,h1,h2,hk=>by
  show bindL kindOf ((p,w)::P.zip vs) m x=_;unfold bindL;exact oo (i:=i) (QC.mp nd).2 (by simpa using h1) (by simpa using h2) hk
theorem o4{kindOf:Str->Option NameKind}{x:Str}{v:Value}:∀{P:List Str}{vs:List Value}{i:Nat}{m:Str->Option Value},P.Nodup->P[i]?=some x->vs[i]?=some v->kindOf x≠some .local ->bindC kindOf (P.zip vs) m x=some v
 | [],_,_,_,_,h,_,_=>by simp at h
 | _::_,[],_,_,_,_,h,_=>by simp at h
 | p::P,w::vs,0,m,nd,h1,h2,hk=>by
  simp at h1 h2;subst h1;subst h2;show bindC kindOf ((p,w)::P.zip vs) m p=_;unfold bindC;rw[oq λv hv=>(QC.mp nd).1 (PJ hv).1,if_neg hk];simp
 | p::P,w::vs,i+1,m,nd,h1,h2,hk=>by
  show bindC kindOf ((p,w)::P.zip vs) m x=_;unfold bindC;exact o4 (i:=i) (QC.mp nd).2 (by simpa using h1) (by simpa using h2) hk
def start(N:List Str)(vs:List V):St:=vs.map some++Ni (N.length-vs.length) none
def gS(CX:EG)(P:Program)(w:World)(K:Nb)(mg:Str->Option Value)(base:Heap)(N:List Str)(qual:Str)(scope:Scope)(f:Addr)(cd:Value)(A:Around)(outer:List Env)(s:Shared)(H:Hp)(E:XK):Cx where
 prog:=P
 w:=w
 K:=K
 mg:=mg
 base:=base
 A:=A.deeper (envOfC qual scope s.heap.objs.size f cd)
 N:=N
 s₀:=s
 H₀:=H
 env:=envOfC qual scope s.heap.objs.size f cd
 outer:=outer
 stack:=envOfC qual scope s.heap.objs.size f cd::outer
 ex:=[]
 calm:=true
 fn:=λ_=>true
 pn:=[]
 xe:=λe s'=>wpAny (model P w) (A.deeper (envOfC qual scope s.heap.objs.size f cd)) (leaving (envOfC qual scope s.heap.objs.size f cd) e) (λ_ s''=>CX outer H s E e s'') (λe' s''=>CX outer H s E e' s'') s'
def sI{sc:Scope}(h:sc.names.lookup x=some .cell):∃c,(cellsFrom n sc.names []).lookup x=some c:=by
 have q:=Rx sc.names n [] (.inl h);exact Px.mp q
variable{scope:Scope}
theorem wd{K:Nb}{qual:Str}{f:Addr}{cd:Value}{s1:Shared}{E:XK}{vs:List V}(S:bD N ps scope)(hd:A.handled=none)(e0:t6 P w K mg base A outer s H)(hl:vs.length=ps.length)(r:Vals vs us)(x:InCallC s s.heap.objs.size (bindL (envOfC qual scope s.heap.objs.size f cd).kindOf (ps.zip us) λ_=>none) (cellsFrom (s.heap.objs.size+1) scope.names []) (bindC (envOfC qual scope s.heap.objs.size f cd).kindOf (ps.zip us) λ_=>none) s1):Inv (gS CX P w K mg base N qual scope f cd A outer s H E) [] (start N vs) H s1:=by
 have Kb:ps.length<=N.length:=by have:=congrArg List.length S.pre;rw[Ql] at this;lia
 obtain⟨h1,tk,rfl,hk⟩:=x.done;have eW:∀b:Addr,b ∉ (gS CX P w K mg base N qual scope f cd A outer s H E).ex:=λb z=>absurd (show b∈([]:List Addr) from z) ↑13;refine⟨⟨e0.mod,S.kind,rfl,rfl,Np _,λy z c h1 h2=>?_,λy hy=>?_,λy c _ h=>?_,λ_=>hd,Around.frames_deeper e0.frames,.inr ⟨rfl,rfl⟩,λb z=>absurd z (eW b),e0.bs,e0.yM,λb _ _=>eW b,λb z=>absurd z (eW b),e0.iQ,e0.zU⟩,
  rfl,e0.bare,Un.kept hk,⟨_,x.toInCall.ns,λi y v h1 h2 h3=>?_⟩,λy c h=>⟨_,x.cell y c h⟩,e0.bo.fresh (Np _),λy c h=>?_,λp hp=>absurd (show p∈([]:List (Addr×Obj)) from hp) ↑13,e0.bo.kept hk,?_⟩
 .exact name_of_addr x.apart (O6 h1) (O6 h2)
 .have hy:scope.names.lookup y=some .cell\/scope.names.lookup y=some .free:=hy;rcases hy with hy|hy
  .exact sI hy
  .exact absurd rfl (S.D5 _ (O6 hy))
 .exact PX (x.above y c (O6 h))
 .have hi:i<vs.length:=by
   unfold start at h2
   by_cases hi:i<vs.length
   .exact hi
   .rw[N8 (by simpa using hi)] at h2;rw[PN] at h2
    split at h2<;>cases h2
  have ha:vs[i]?=some v:=by
   unfold start at h2;rw[OC (by simpa using hi),NP] at h2;cases e:vs[i]? with
   | none=>rw[e] at h2;cases h2
   | some a=>rw[e] at h2;cases h2;rfl
  obtain⟨u,hu,rv⟩:=r.get ha;have hp:ps[i]?=some y:=by
   rwa[<- S.pre,List.getElem?_take_of_lt ⋯]
  have ndP:ps.Nodup:=by rw[<- S.pre];exact S.nd.sublist (List.take_sublist _ _)
  refine⟨u,rv,?_⟩;rcases S.par y (RN hp) with k|k
  .exact .inl ⟨k,oo ndP hp hu k⟩
  .obtain⟨c,e⟩:=sI (n:=s.heap.objs.size+1) k;refine .inr ⟨.inl k,c,e,?_⟩;have q:=x.cell y c e;rwa[o4 ndP hp hu (by show scope.names.lookup y≠_;rw[k];decide)] at q
 .exact e0.bo.fresh (PX (x.above y c (O6 h)))
 .unfold start;show _=N.length;rw[NG,Nm,Qj];lia
def E5{K:Nb}{f:Addr}{name qual:Str}{params:Arguments}{dV kV doc pm J6 ct oc:Value}{an od:Option Addr}{LM:Array (Option Value)}(lk:K.lookup f=some ⟨oc,od,.func (N6 name qual params body scope dV kV doc pm an J6 ct),LM⟩)(Ko:OG K J6 qual=true)(S:bD N ps scope)(len:∀vs H Q E,sp vs H Q E->vs.length=ps.length)(LU:∀(A:Around)(outer:List Env)(s:Shared)(H:Hp)(vs:List V)(Q:VK)(E:XK),bH k (A.deeper (envOfC qual scope s.heap.objs.size f J6))->sp vs H Q E ->∃t,gP (gS CX P w K mg base N qual scope f J6 A outer s H E) body t/\t { nx:=λ_ H'=>Q .aJ H',rt:=Q } (start N vs) H):aV P w K mg base CX (k+1) f (N6 name qual params body scope dV kV doc pm an J6 ct) ps sp:=by
 refine⟨len,λA outer s H args us vs Q E hr e0 hb r hsp=>?_⟩;have hl:=len _ _ _ _ hsp;have KX:K.In s.heap:=e0.mod.D0.keeps λb o e=>(e0.bs b o e).1;have lim:s.heap.NoLimit:=e0.mod.nolimit.keeps λb o e=>(e0.bs b o e).1;have MU:∀y∈ps.zip us,scope.names.lookup y.1=some .local\/(scope.names.lookup y.1=some .cell/\((cellsFrom (s.heap.objs.size+1) scope.names []).lookup y.1).isSome=true):=λ⟨n,v⟩ hy=>by
  rcases S.par n (PJ hy).1 with q|q
  .exact .inl q
  .exact .inr ⟨q,Rx _ _ _ (.inl q)⟩
 refine codeAny_call_function hr.depth (KX _ _ lk) rfl S.co S.gen rfl (PySem.W.codeRec_of KX Ko) (hb _ _ _ _ ?_);refine wpAny_newFunctionEnv_cells S.kind MU λenv he s1 x=>?_;subst he;refine⟨lim.keeps x.toInCall.keep,codeAny_func ?_⟩;obtain⟨t,ht,hq⟩:=LU A outer s H vs Q E (hr.deeper _) hsp;have I:Inv (gS CX P w K mg base N qual scope f J6 A outer s H E) [] (start N vs) H s1:=wd S hr.hd e0 hl r x;refine Ow (ht [] s1 (start N vs) H _ I hq) (λfl s' hs=>?_) λe s' hs=>hs;have fin:∀{σ':St}{H':Hp}{v:V}{u:Value},Inv (gS CX P w K mg base N qual scope f J6 A outer s H E) [] σ' H' s'->RelV v u->Q v H'->CE outer P w H s Q u s' :=
  λ{σ' H' v u} J rv q=>⟨v,H',J.os,J.bare,J.base,J.bo,rv,q⟩
 cases fl with
 | ret u =>
  obtain⟨v,σ',H',J,rv,q⟩:=hs;exact fin J rv q
 | next =>
  obtain⟨σ',H',J,q⟩:=hs;exact fin (v:=V.aJ) (u:=NQ) J rfl q
 | brk =>
  obtain⟨_,_,_,q⟩:=hs;exact Ox q
 | cont =>
  obtain⟨_,_,_,q⟩:=hs;exact Ox q
section
variable{p:Pos}{id T:String}{r:List V->Hp->VK->Prop}
def GA(r:List V->Hp->VK->Prop)(t:TA):TE:=fun σ H Q=>t σ H λvs H1=>r vs H1 Q
def eI(hc:bX X (.builtin id) r)(hg:Gl X x)(hm:X.mg x=none)(hv:bootBuiltins x=some (.builtin id))(ha:PA X (e::es) t)(hn:autoParam (x ≠ "__name__") aD._auto_1)(Kt:autoParam ↑7 aD._auto_1)(he:autoParam ↑0 aR._auto_1)(Kb:autoParam ↑2 aR._auto_1):PE X (.Call (.Name x p) (e::es) [] pos) (GA r t):=by
 intro JX s σ H Q I h;refine OR (kF I hg hm hv ?_ hn Kt);exact PyProof.Rows.callWith_builtin1 (cn (ha pos JX s σ H _ I h) λus s1 ⟨vs,H1,I1,r1,q1⟩=>hc JX s1 σ H1 vs us Q I1 r1 q1) he Kb
def wu(hc:bX X (.type T) r)(hg:Gl X x)(hm:X.mg x=none)(hv:bootBuiltins x=some (.type T))(ha:PA X (e::es) t)(hn:autoParam (x ≠ "__name__") aD._auto_1)(Kt:autoParam ↑7 aD._auto_1)(he:autoParam ↑0 aR._auto_1)(Kb:autoParam ↑2 aR._auto_1):PE X (.Call (.Name x p) (e::es) [] pos) (GA r t):=by
 intro JX s σ H Q I h;refine OR (kF I hg hm hv ?_ hn Kt);exact OM (cn (ha pos JX s σ H _ I h) λus s1 ⟨vs,H1,I1,r1,q1⟩=>hc JX s1 σ H1 vs us Q I1 r1 q1) he Kb
end
end L2
namespace HT
open PySem PyProof.Rows
section
open PySem.SeqAt
open PySem.AutoSeq1 (wpAny_loadPart')
open PySem.MeetsSeq PySem.MeetsSeq2 PySem.MeetsSeq3
end
variable{Q:Value->Shared->Prop}
section
variable{prog:Program}{w:World}{A:Around}{E:Value->Shared->Prop}{s:Shared}
def Bs{t b:Addr}{vs ws:List Value}(ht:IsTup s.heap t vs.toArray)(hb:IsTup s.heap b ws.toArray)(hv:vs≠[])(h1:ws=[]->Q (.ref t) s)(h2:ws≠[]->Q (.ref s.heap.objs.size) { s with heap:=s.heap.push { cls:=.type "tuple",data:=.seq (vs++ws).toArray } })(La:vs.length+ws.length<=sizeLine):wpAny ↑11 A (binaryOp .Add (.ref t) (.ref b)) Q E s:=by
 obtain⟨⟨cls,dd,data,sl⟩,ho,hc,n,hd⟩:=id ht;obtain⟨⟨cls2,MI,data2,sl2⟩,LL,MN,n2,hd2⟩:=id hb;simp only at hc hd MN hd2;subst hc hd MN hd2;have e:vs.toArray++ws.toArray=(vs++ws).toArray:=by simp
 by_cases hw:ws=[]
 .exact SA ⟨_,ho,rfl⟩ ⟨_,LL,rfl⟩ Rl RZ P_ PR (Py _ _)
   (tuple_addW1 t b vs.toArray ws.toArray n n2 dd MI sl sl2 (by simpa using hv) (by simp[hw])) ⟨ho,LL,h1 hw⟩
 .refine SA ⟨_,ho,rfl⟩ ⟨_,LL,rfl⟩ Rl RZ P_ PR (Py _ _)
   (tuple_addW2 t b vs.toArray ws.toArray n n2 dd MI sl sl2 (by simpa using hv) (by simpa using hw) (by rwa[Nn,Nn])) ⟨ho,LL,?_⟩
  rw[e];exact h2 hw
def cM(n d:Nat):Option Int->Nat
 | none=>d
 |some v=>if v<0 then (v+(n:Int)).toNat else min v.toNat n
theorem DN(n d:Nat)(hd:d<=n)(o:Option Int):cM n d o<=n:=by
 cases o with
 | none=>exact hd
 | some v =>
  show (if v<0 then (v+(n:Int)).toNat else min v.toNat n)<=n
  by_cases hv:v<0
  .rw[if_pos hv];lia
  .rw[if_neg hv];exact Nat.min_le_right _ _
theorem uY(v:Int)(n d:Nat):(if v<0 then max (v+(n:Int)) 0 else min v (n:Int))=((cM n d (some v):Nat):Int):=by
 show (if v<0 then max (v+(n:Int)) 0 else min v (n:Int))=(((if v<0 then (v+(n:Int)).toNat else min v.toNat n):Nat):Int)
 by_cases hv:v<0
 .simp only[if_pos hv];lia
 .simp only[if_neg hv];lia
theorem tq(lo hi:Option Int)(n:Nat):Po lo hi 1 (n:Int)=(((cM n 0 lo:Nat):Int),((cM n n hi:Nat):Int)):=by
 have h1:¬ ((1:Int)<0):=by lia
 unfold Po;simp only[h1,if_false];refine Prod.ext ?_ ?_
 .cases lo with
  | none=>rfl
  | some v=>exact uY v n 0
 .cases hi with
  | none=>rfl
  |some v=>exact uY v n n
theorem t7(i j:Nat):OW (i:Int) (j:Int) 1=j-i:=by
 unfold OW;have h1:(1:Int)>0:=by lia
 simp only[h1,if_true,Int.ediv_one]
 split<;>lia
def mV{v:Value}{o:Option Int}{Q:Option Int->Shared->Prop}(p:IsPart v o)(h:Q o s):wpAny ↑11 A (Builtin.Slice.slicePartIndex v) Q E s:=by
 cases p with
 | none=>exact slicePart_none h
 |int i t=>exact slicePart_int h
def fY{sl:Addr}{vl vu:Value}{lo hi:Option Int}{n:Nat}{Q:Int×Int×Nat->Shared->Prop}(hs:s.heap.IsSliceOf sl vl vu .none)(pl:IsPart vl lo)(pu:IsPart vu hi)(h:Q (((cM n 0 lo:Nat):Int),1,cM n n hi-cM n 0 lo) s):wpAny ↑11 A (QY (.ref sl) (pure (n:Int))) Q E s:=by
 obtain⟨os,Mq,hcs,MQ⟩:=id hs;unfold QY Builtin.Slice.sliceFields;refine Na (Na (NK Mq MQ (x:=vl) rfl (Na (NK Mq MQ (x:=vu) rfl (Na (NK Mq MQ (x:=.none) rfl (Nh ?_)))))));refine Na (slicePart_none ?_);show wpAny _ _ (if ((1:Int)==0)=true then _ else _) _ _ s;rw[if_neg ↑12];refine Na (mV pl (Na (mV pu (Na (Nh ?_)))));show wpAny _ _ (match Po lo hi 1 (n:Int) with|(lo,hi)=>pure (lo,(1:Int),OW lo hi 1)) _ _ s;rw[tq lo hi n];show wpAny _ _ (pure (((cM n 0 lo:Nat):Int),(1:Int),OW ((cM n 0 lo:Nat):Int) ((cM n n hi:Nat):Int) 1)) _ _ s;rw[t7];exact Nh h
theorem yO(xs:Array Value)(i k:Nat):((ND k).filterMap λ(m:Nat)=>xs[((i:Int)+(m:Int)*1).toNat]?).toArray=((xs.toList.drop i).take k).toArray:=by
 have e:(λ(m:Nat)=>xs[((i:Int)+(m:Int)*1).toNat]?)=λm=>xs[i+m]?:=by
  funext m
  have:((i:Int)+(m:Int)*1).toNat=i+m:=by lia
  rw[this]
 rw[e];have:=pick_run xs i k;rw[List.filterMap_map] at this;have e2:((λx=>xs[x]?)∘λx=>i+x)=λm=>xs[i+m]?:=rfl;rw[e2] at this;rw[this]
theorem jr{t sl:Addr}{JZ:Array Value}{vl vu:Value}{lo hi:Option Int}(ht:IsTup s.heap t JZ)(hs:s.heap.IsSliceOf sl vl vu .none)(pl:IsPart vl lo)(pu:IsPart vu hi)(hw:¬ (cM JZ.size 0 lo=0/\cM JZ.size JZ.size hi=JZ.size))(h:Q (.ref s.heap.objs.size) { s with heap:=s.heap.push { cls:=.type "tuple",data:=.seq ((JZ.toList.drop (cM JZ.size 0 lo)).take (cM JZ.size JZ.size hi-cM JZ.size 0 lo)).toArray } })(La:JZ.size<=sizeLine):wpAny ↑11 A (getItem (.ref t) (.ref sl)) Q E s:=by
 have LI:sizeOk (.seq ((JZ.toList.drop (cM JZ.size 0 lo)).take (cM JZ.size JZ.size hi-cM JZ.size 0 lo)).toArray):=by
  show ((JZ.toList.drop (cM JZ.size 0 lo)).take (cM JZ.size JZ.size hi-cM JZ.size 0 lo)).toArray.size<=sizeLine;rw[Nn,Ql,Rm,QH];lia
 have hj:cM JZ.size JZ.size hi<=JZ.size:=DN _ _ (Np _) hi;obtain⟨os,Mq,hcs,MQ⟩:=id hs;have hTs:s.TypeIs (.ref sl) "slice" := ⟨os,Mq,hcs⟩
 unfold getItem
 try with_reducible refine Ou ?_
 first|refine Na (Nh ?_)|skip
 refine Na (SD ht.typeIs ↑12 ?_);refine Na (N7 (name:=NF "__getitem__") ht.typeIs NV
  (OO NV ht.typeIs RV ?_ (R8 _ _)))
 show wpAny _ _ (QZ (.ref t) >>= _) _ _ s;refine Na (tupleItemsOf_ ht ?_);refine Na (SE hTs ?_);rw[if_pos ↑12];refine Na (fY hs pl pu ?_);have hno:¬ ((((cM JZ.size 0 lo:Nat):Int)==0&&(1:Int)==1&&(cM JZ.size JZ.size hi-cM JZ.size 0 lo)==JZ.size)=true):=by
  intro q;rw[Oo,Oo] at q;have q1:((cM JZ.size 0 lo:Nat):Int)=0:=eq_of_beq q.1.1;have q2:cM JZ.size JZ.size hi-cM JZ.size 0 lo=JZ.size:=eq_of_beq q.2;exact hw ⟨by lia,by lia⟩
 show wpAny _ _ (if (((cM JZ.size 0 lo:Nat):Int)==0&&(1:Int)==1&&(cM JZ.size JZ.size hi-cM JZ.size 0 lo)==JZ.size)=true then _ else _) _ _ s;rw[if_neg hno,yO]
 first
  | exact Na (m:=O3 _) (Oz (Nh ⟨_,rfl,Nh h⟩) LI)
  | exact Na (m:=O3 _) (Oz (Na (Nh (Nh ⟨_,rfl,Nh h⟩))) LI)
  | exact Na (Na (m:=O3 _) (Oz (Nh (Nh ⟨_,rfl,Nh h⟩)) LI))
  |exact Na (Na (m:=O3 _) (Oz (Nh ⟨_,rfl,Nh h⟩) LI))
end
end HT
namespace L2
open PySem PySem.Spec PyProof.Rows
abbrev TO:=St->Hp->(Option Int->Hp->Prop)->Prop
def PO(X:Cx)(e:Option Expr)(t:TO):Prop :=
 ∀ (JX:List (Addr×Obj)) (s:Shared) (σ:St) (H:Hp) (Q:Option Int->Hp->Prop),Inv X JX σ H s->t σ H Q ->
  wpAny ↑8 X.A (evalPart e X.env) (λu s'=>∃o H',Inv X JX σ H' s'/\IsPart u o/\Q o H') X.xe s
def AE:TO:=λ_ H Q=>Q none H
def E6(t:TE):TO:=fun σ H Q=>t σ H λx H1=>∃i,x=.int i/\Q (some i) H1
variable{pos:Pos}{e:Expr}{X:Cx}
variable{r:V->Option Int->Option Int->Hp->VK->Prop}
variable{xs:List V}
section
variable{te:TE}{lo hi:Option Expr}{tl th:TO}{p2:Pos}
def Bl:PO X none AE:=by
 intro JX s σ H Q I h;rw[evalPart_none];exact Nh ⟨none,H,I,.none,h⟩
def Ab(h:PE X e te):PO X (some e) (E6 te):=by
 intro JX s σ H Q I hw;rw[evalPart_some];refine cn (h JX s σ H _ I hw) λu s1 ⟨x,H1,I1,r1,q1⟩=>?_;obtain⟨i,rfl,q⟩:=q1;obtain⟨t,rfl⟩:=r1;exact⟨some i,H1,I1,.int i t,q⟩
def zR(X:Cx)(r:V->Option Int->Option Int->Hp->VK->Prop):Prop :=
 ∀ (JX:List (Addr×Obj)) (s:Shared) (σ:St) (H:Hp) (x:V) (v vl vu:Value) (lo hi:Option Int) (sl:Addr) (Q:VK),Inv X JX σ H s->RelV x v->s.heap.IsSliceOf sl vl vu .none->IsPart vl lo->IsPart vu hi->r x lo hi H Q ->
  ∃T id,typeLookup (.type T) "__getitem__"=pure (some (.builtin id))/\s.TypeIs v T/\wpAny ↑8 X.A (getItem v (.ref sl)) (EP X JX σ Q) X.xe s
def zR.or{r':V->Option Int->Option Int->Hp->VK->Prop}(h:zR X r)(h':zR X r'):zR X (λx lo hi H Q=>r x lo hi H Q\/r' x lo hi H Q):=by
 intro JX s σ H x v vl vu lo hi sl Q I rx hs pl pu q;rcases q with q|q
 .exact h JX s σ H x v vl vu lo hi sl Q I rx hs pl pu q
 .exact h' JX s σ H x v vl vu lo hi sl Q I rx hs pl pu q
def JO(r:V->Option Int->Option Int->Hp->VK->Prop)(te:TE)(tl th:TO):TE:=fun σ H Q=>te σ H λx H1=>tl σ H1 λl H2=>th σ H2 λu H3=>r x l u H3 Q
def xj(hr:zR X r)(he:PE X e te)(hl:PO X lo tl)(hu:PO X hi th):PE X (.Subscript e (.Slice lo hi none p2) pos) (JO r te tl th):=by
 intro JX s σ H Q I h;refine Subscript_ (cn (he JX s σ H _ I h) λv s1 ⟨x,H1,I1,r1,q1⟩=>?_);refine wpAny_Slice (cn (hl JX s1 σ H1 _ I1 q1) λvl s2 ⟨l,H2,I2,pl,q2⟩=>cn (hu JX s2 σ H2 _ I2 q2) λvu s3 ⟨u,H3,I3,pu,q3⟩=>?_);rw[evalPart_none];refine Nh ?_;have I4:Inv X JX σ H3 { s3 with heap:=s3.heap.push { cls:=.type "slice",data:=.fields #[vl,vu,.none] } }:=I3.kept (t':=s3.toks) λb ob q=>Nc _ q;obtain⟨T,id,hT,ht,hg⟩:=hr JX { s3 with heap:=s3.heap.push { cls:=.type "slice",data:=.fields #[vl,vu,.none] } } σ H3 x v vl vu l u s3.heap.objs.size Q I4 r1 (T4 ..) pl pu q3;show wpAny ↑8 X.A (subscriptTail e (.Slice lo hi none p2) v (.ref s3.heap.objs.size)) (EP X JX σ Q) X.xe { s3 with heap:=s3.heap.push { cls:=.type "slice",data:=.fields #[vl,vu,.none] } };exact tail_any (ops:=[.ref s3.heap.objs.size,v]) ht hT hg (by with_unfolding_all rfl)
def qZ(xs:List V)(lo hi:Option Int):List V:=(xs.drop (HT.cM xs.length 0 lo)).take (HT.cM xs.length xs.length hi-HT.cM xs.length 0 lo)
theorem k8(xs:List V)(lo hi:Option Int):(qZ xs lo hi).length<=xs.length:=by
 unfold qZ;rw[Ql,Rm];lia
def Ie(K:Nb):V->Option Int->Option Int->Hp->VK->Prop:=λx lo hi H Q=>∃a xs,x=.ref a/\fg K H a xs ∧
 ¬ (HT.cM xs.length 0 lo=0/\HT.cM xs.length xs.length hi=xs.length)/\∀p,H p=none->Q (.ref p) (upd H p (.tup (qZ xs lo hi)))
def Cw:zR X (Ie X.K):=by
 intro JX s σ H x v vl vu lo hi sl Q I rx hs pl pu h;obtain⟨a,xs,rfl,hx,hw,q⟩:=h;cases rx;obtain⟨J2,r,ht,hz⟩:=I.tuple hx;have hlen:J2.toArray.size=xs.length:=by rw[Nn];exact r.length.symm
 refine⟨"tuple",_,NV.lookup,ht.typeIs,?_⟩;refine HT.jr ht hs pl pu (by rwa[hlen]) ?_ (by rwa[hlen]);rw[hlen];refine⟨.ref s.heap.objs.size,_,I.laid (t':=s.toks) (o:=.tup (qZ xs lo hi)) (λb ob q=>Nc _ q) (Np _) ?_,rfl,q _ (I.bo.fresh (Np _))⟩;exact⟨NZ (k8 xs lo hi) hz,_,(r.drop (HT.cM xs.length 0 lo)).take (HT.cM xs.length xs.length hi-HT.cM xs.length 0 lo),SY _ _⟩
def BK(K:Nb):R2:=λx y H Q=>∃a b xs ys,x=.ref a/\y=.ref b/\fg K H a xs/\fg K H b ys/\xs≠[]/\xs.length+ys.length<=sizeLine ∧
 (ys=[]->Q (.ref a) H)/\(ys≠[]->∀p,H p=none->Q (.ref p) (upd H p (.tup (xs++ys))))
def Vals.jm{us:List Value}(r:Vals xs us):us=[] ↔ xs=[]:=by
 cases r with
 | nil=>simp
 |cons _ _=>simp
def Bt:fm X (binaryOp .Add) (BK X.K):=by
 intro JX s σ H x y v u Q I rx ry h;obtain⟨a,b,xs,ys,rfl,rfl,ha,hb,hx,hz,q1,q2⟩:=h;cases rx;cases ry;obtain⟨J2,r1,p1,_⟩:=I.tuple ha;obtain⟨Ly,r2,p2,_⟩:=I.tuple hb;refine HT.Bs p1 p2 (λz=>hx (r1.jm.mp z)) (λz=>⟨.ref a,H,I,rfl,q1 (r2.jm.mp z)⟩) (λz=>?_) (by rwa[<- r1.length,<- r2.length]);refine⟨.ref s.heap.objs.size,_,I.laid (t':=s.toks) (o:=.tup (xs++ys)) (λb ob q=>Nc _ q) (Np _) ?_,rfl,q2 (λw=>z (r2.jm.mpr w)) _ (I.bo.fresh (Np _))⟩;exact⟨by rwa[NG],_,r1.append r2,SY _ _⟩
end
def vA(n:Nat)(i:Int):Option Nat:=if 0<=i then (if i<n then some i.toNat else none) else if -(n:Int)<=i then some (i+n).toNat else none
variable{α:Type}
def oQ(xs:List α)(i:Int):Option α:=(vA xs.length i).bind λj=>xs[j]?
variable{j n:Nat}{i:Int}
theorem vg(h:vA n i=some j):seqIndex? i n=some j/\j<n/\-(n:Int)<=i/\i<n:=by
 unfold vA at h
 by_cases h0:0<=i
 .rw[if_pos h0] at h
  by_cases h1:i<n
  .rw[if_pos h1] at h;have e:i.toNat=j:=Nx h;exact⟨by rw[Tc h0 h1,e],by lia,by lia,h1⟩
  .rw[if_neg h1] at h;cases h
 .rw[if_neg h0] at h
  by_cases h1:-(n:Int)<=i
  .rw[if_pos h1] at h;have e:(i+n).toNat=j:=Nx h;exact⟨by rw[SG ⋯ h1,e],by lia,h1,by lia⟩
  .rw[if_neg h1] at h;cases h
def pX{xs:List α}{v:α}(h:oQ xs i=some v):∃j,seqIndex? i xs.length=some j/\xs[j]?=some v/\j<xs.length/\-(xs.length:Int)<=i/\i<xs.length:=by
 unfold oQ at h;cases e:vA xs.length i with
 | none=>rw[e] at h;cases h
 | some j =>
  rw[e] at h;obtain⟨h1,h2,h3,h4⟩:=vg e;exact⟨j,h1,h,h2,h3,h4⟩
theorem pb{xs:List α}{v:α}(h:xs[j]?=some v):oQ xs (j:Int)=some v:=by
 have hj:j<xs.length:=(NY.mp h).1;have e:vA xs.length (j:Int)=some j:=by
  unfold vA;rw[if_pos ⋯,if_pos ⋯];simp
 unfold oQ;rwa[e]
def lK(b:Expr):Prop:=∀o i,subscripted b false o i=operate [o,i] (getItem o i)
def Ao(X:Cx)(r:R2):Prop :=
 ∀ (value slice:Expr) (JX:List (Addr×Obj)) (s:Shared) (σ:St) (H:Hp) (x y:V) (v u:Value) (Q:VK),Inv X JX σ H s->RelV x v->RelV y u->r x y H Q ->
  subscripted slice false v u=operate [v,u] (getItem v u)->wpAny ↑8 X.A (subscriptTail value slice v u) (EP X JX σ Q) X.xe s
def Ju(X:Cx)(id:String)(r:V->List V->Hp->VK->Prop):Prop :=
 ∀ (JX:List (Addr×Obj)) (s:Shared) (σ:St) (H:Hp) (x:V) (xs:List V) (v:Value) (us:List Value) (Q:VK),Inv X JX σ H s->RelV x v->Vals xs us->r x xs H Q ->
  wpAny ↑8 X.A (call (.builtin id) (v::us)) (EP X JX σ Q) X.xe s
variable{J2:List Value}{s:Shared}{H:Hp}{σ:St}{JX:List (Addr×Obj)}
section
variable{a b:Expr}{ta tb:TE}
def Ao.or{r r':R2}(h:Ao X r)(h':Ao X r'):Ao X (λx y H Q=>r x y H Q\/r' x y H Q):=by
 intro value slice JX s σ H x y v u Q I rx ry q hs;rcases q with q|q
 .exact h value slice JX s σ H x y v u Q I rx ry q hs
 .exact h' value slice JX s σ H x y v u Q I rx ry q hs
def BH{r:R2}(hr:Ao X r)(ha:PE X a ta)(hb:PE X b tb)(hs:lK b):PE X (.Subscript a b pos) (ES r ta tb):=by
 intro JX s σ H Q I h;exact Subscript_ (Ct ha hb I h λv u s2 x y H2 I2 rx ry q=>hr a b JX s2 σ H2 x y v u Q I2 rx ry q (hs _ _))
def EO(K:Nb):R2:=λx y H Q=>∃p xs i v,x=.ref p/\y=.int i/\fj K H p xs/\oQ xs i=some v/\Q v H
def FT(K:Nb):R2:=λx y H Q=>∃p xs i v,x=.ref p/\y=.int i/\fg K H p xs/\oQ xs i=some v/\Q v H
def F6:R2:=λx y H Q=>∃z i c,x=.str z/\y=.int i/\z.length<=sizeLine/\oQ z.cps.toList i=some c/\Q (.str ⟨#[c]⟩) H
theorem Bc:Ao X (EO X.K):=by
 intro value slice JX s σ H x y v u Q I rx ry h hs;obtain⟨p,xs,i,z,rfl,rfl,hq,he,q⟩:=h;cases rx;obtain⟨t,rfl⟩:=ry;obtain⟨J2,r,pl,hz⟩:=I.list hq;obtain⟨j,h1,h2,h3,h4,h5⟩:=pX he;obtain⟨w,ew,Lz⟩:=r.get h2;have hl:=r.length;have hn:=kq;have fin:EP X JX σ Q w s:=⟨z,H,I,Lz,q⟩
 by_cases h0:0<=i
 .have hj:i.toNat=j:=by
   rw[Tc h0 h5] at h1;exact Nx h1
  exact item_listR pl.isList h0 ⋯ (by rw[hj];simpa using ew) fin hs
 .have hj:(i+(J2.toArray.size:Int)).toNat=j:=by
   rw[SG ⋯ h4] at h1;rw[Nn,<- hl];exact Nx h1
  exact Ry (x:=w) pl.isList.typeIs SH.lookup
   (wpAny_getItem_list_neg (Q:=λr s'=>r=w/\EP X JX σ Q r s') pl.isList ⋯ (by rw[Nn]<;>lia) ⋯ (by rw[hj];simpa using ew) ⟨rfl,fin⟩) hs
theorem Dw:Ao X (FT X.K):=by
 intro value slice JX s σ H x y v u Q I rx ry h hs;obtain⟨p,xs,i,z,rfl,rfl,hq,he,q⟩:=h;cases rx;obtain⟨t,rfl⟩:=ry;obtain⟨J2,r,pl,hz⟩:=I.tuple hq;obtain⟨j,h1,h2,h3,h4,h5⟩:=pX he;obtain⟨w,ew,Lz⟩:=r.get h2;have hl:=r.length;have hn:=kq;have fin:EP X JX σ Q w s:=⟨z,H,I,Lz,q⟩
 exact Ry (x:=w) pl.typeIs slot_tuple_getitem.lookup
  (getItem_tuple (j:=j) (Q:=λr s'=>r=w/\EP X JX σ Q r s') pl ⋯ ⋯ (by rwa[Nn,<- hl]) (by simpa using ew) ⟨rfl,fin⟩) hs
theorem En:Ao X F6:=by
 intro value slice JX s σ H x y v u Q I rx ry h hs;obtain⟨z,i,c,rfl,rfl,hz,he,q⟩:=h;obtain⟨t,rfl⟩:=rx;obtain⟨t',rfl⟩:=ry;obtain⟨j,h1,h2,h3,h4,h5⟩:=pX he;have hl:z.cps.toList.length=z.length:=by simp[Str.length]
 rw[hl] at h1 h4 h5;have hn:=kq;exact tail_any (typeIs_str s z t) slot_str_getitem.lookup (getItem_str (c:=c) (by
  have e1:decide (i < -(2^63:Int))=false:=decide_eq_false ⋯;have e2:decide (i>=2^63)=false:=decide_eq_false ⋯;rw[e1,e2,TN]) (by rw[h1];simpa using h2) ⟨.str ⟨#[c]⟩,H,I.tok _,⟨_,rfl⟩,q⟩) hs
def Jo(K:Nb):R2:=λx y H Q=>EO K x y H Q\/FT K x y H Q\/F6 x y H Q
def xQ:Ao X (Jo X.K):=Bc.or (Dw.or En)
def sX(J2:List Value)(n j:Nat)(u:Value):Rz (·.setIfInBounds j u) { cls:=.type "list",data:=.seq J2.toArray n }={ cls:=.type "list",data:=.seq (J2.set j u).toArray n }:=by
 simp[Rz]
theorem Inv.lst{JX:List (Addr×Obj)}{σ:St}{H:Hp}{s:Shared}{p:Addr}{xs:List V}(I:Inv X JX σ H s)(h:H p=some (.lst xs)):∃(J2:List Value)(n:Nat),Vals xs J2/\s.heap.get? p=some { cls:=.type "list",data:=.seq J2.toArray n }/\xs.length<=sizeLine:=by
 obtain⟨z,J2,n,r,e⟩:=I.bo p _ h;exact⟨J2,n,r,e,z⟩
def Inv.CH{p:Addr}{ys:List V}{its':List Value}{n':Nat}{f:Obj->Obj}(I:Inv X JX σ H s)(h:H p=some (.lst xs))(ho:s.heap.get? p=some { cls:=.type "list",data:=.seq J2.toArray n })(hf:f { cls:=.type "list",data:=.seq J2.toArray n }={ cls:=.type "list",data:=.seq its'.toArray n' })(r:Vals ys its')(hz:ys.length<=sizeLine)(t:Nat):Inv X JX σ (upd H p (.lst ys)) { s with heap:=s.heap.update p f,toks:=t }:=by
 have e:(s.heap.update p f).get? p=some { cls:=.type "list",data:=.seq its'.toArray n' }:=by
  rw[OE f ho (by rw[hf]<;>rfl),hf]
 refine I.write (x:=p) (e:=p) (by rw[h];trivial) (.inl rfl) (λb u hb q=>(N2 _ _ (OL hb)).trans q) ⟨_,e⟩ ?_;exact⟨hz,its',n',r,e⟩
def FW:V->V->V->Hp->(Hp->Prop)->Prop:=λo i v H Q=>∃p xs k j,o=.ref p/\i=.int k/\H p=some (.lst xs)/\vA xs.length k=some j/\Q (upd H p (.lst (xs.set j v)))
theorem set_list:Fw X FW:=by
 intro JX s σ H o i v ov iv u Q I ro ri rv h;obtain⟨p,xs,k,j,rfl,rfl,hp,hj,q⟩:=h;cases ro;obtain⟨t,rfl⟩:=ri;obtain⟨J2,n,r,ho,hz⟩:=I.lst hp;obtain⟨h1,h2,h3,h4⟩:=vg hj;have hl:=r.length;have hn:=kq;have I':Inv X JX σ (upd H p (.lst (xs.set j v))) { s with heap:=s.heap.update p (Rz (·.setIfInBounds j u)) } :=
  I.CH hp ho (sX J2 n j u) (r.set rv j) (by rwa[OZ]) s.toks
 by_cases h0:0<=k
 .have hk:k.toNat=j:=by
   rw[Tc h0 h4] at h1;exact Nx h1
  exact PySem.W.ki_setAt ho h0 ⋯ (by rwa[Nn,<- hl]) (by rw[hk];exact⟨_,I',q⟩)
 .have hk:(k+(J2.toArray.size:Int)).toNat=j:=by
   rw[SG ⋯ h3] at h1;rw[Nn,<- hl];exact Nx h1
  exact PySem.W.ki_setBack ho ⋯ (by rwa[Nn,<- hl]) ⋯ (by rw[hk];exact⟨_,I',q⟩)
theorem o8(lo hi:Option Int)(n:Nat):(sliceBounds lo hi none n).1=((HT.cM n 0 lo:Nat):Int)/\(sliceBounds lo hi none n).2.1=((HT.cM n n hi:Nat):Int)/\(sliceBounds lo hi none n).2.2=1:=by
 refine⟨?_,?_,rfl⟩
 .cases lo with
  | none=>simp[sliceBounds,HT.cM]
  | some i =>
   simp only[sliceBounds,HT.cM,S3,show (1:Int)>0 by decide,if_true]
   by_cases h:i<0
   .simp only[h,if_true]<;>lia
   .simp only[h,if_false]<;>lia
 .cases hi with
  | none=>simp[sliceBounds,HT.cM]
  | some i =>
   simp only[sliceBounds,HT.cM,S3,show (1:Int)>0 by decide,if_true]
   by_cases h:i<0
   .simp only[h,if_true]<;>lia
   .simp only[h,if_false]<;>lia
def nO(J2:List Value)(lo hi:Option Int):slicePick J2.toArray lo hi none=((J2.drop (HT.cM J2.length 0 lo)).take (HT.cM J2.length J2.length hi-HT.cM J2.length 0 lo)).toArray:=by
 obtain⟨h1,h2,h3⟩:=o8 lo hi J2.toArray.size;unfold slicePick;rw[h1,h2,h3];simp only[sliceRange_one,pick_run,Nn]<;>rfl
def Iy(K:Nb):V->Option Int->Option Int->Hp->VK->Prop:=λx lo hi H Q=>∃a xs,x=.ref a/\fj K H a xs/\∀p,H p=none->Q (.ref p) (upd H p (.lst (qZ xs lo hi)))
theorem Bp:zR X (Iy X.K):=by
 intro JX s σ H x v vl vu lo hi sl Q I rx hs pl pu h;obtain⟨a,xs,rfl,hx,q⟩:=h;cases rx;obtain⟨J2,r,ht,hz⟩:=I.list hx;have hlen:=r.length;refine⟨"list",_,SH.lookup,ht.isList.typeIs,?_⟩;refine wpAny_getItem_list_slice ht.isList hs pl pu .none ↑13 ?_ (by rw[Nn]<;>lia);rw[nO,<- hlen];refine⟨.ref s.heap.objs.size,_,I.laid (t':=s.toks) (o:=.lst (qZ xs lo hi)) (λb ob q=>Nc _ q) (Np _) ?_,rfl,q _ (I.bo.fresh (Np _))⟩;exact⟨NZ (k8 xs lo hi) hz,_,0,(r.drop (HT.cM xs.length 0 lo)).take (HT.cM xs.length xs.length hi-HT.cM xs.length 0 lo),Nq _ rfl⟩
theorem qv:bX X (.builtin "len") (λxs H Q=>∃p ys,xs=[.ref p]/\(fj X.K H p ys\/fg X.K H p ys)/\Q (.int ys.length) H):=by
 intro JX s σ H xs us Q I r h;obtain⟨p,ys,rfl,hq,q⟩:=h;obtain⟨u,rfl,rx⟩:=vals1 r;cases rx;have hn:=kq;rcases hq with hq|hq
 .obtain⟨J2,r',pl,hz⟩:=I.list hq;have hlen:=r'.length;exact Calls.call_len_list pl.isList (by simp only[Nn]<;>lia) ⟨.int ys.length,H,I.tok _,⟨s.toks+1,by rw[Nn,hlen]⟩,q⟩
 .obtain⟨J2,r',pl,hz⟩:=I.tuple hq;have hlen:=r'.length;exact len_tuple pl (by simp only[Nn]<;>lia) ⟨.int ys.length,H,I.tok _,⟨s.toks+1,by rw[Nn,hlen]⟩,q⟩
theorem qa:bX X (.builtin "len") (λxs H Q=>∃z,xs=[.str z]/\z.length<=sizeLine/\Q (.int z.length) H):=by
 intro JX s σ H xs us Q I r h;obtain⟨z,rfl,hz,q⟩:=h;obtain⟨u,rfl,t,rfl⟩:=vals1 r;have hn:=kq;exact len_str ⋯ ⟨.int z.length,H,I.tok _,⟨_,rfl⟩,q⟩
def bX.or{f:Value}{r r':List V->Hp->VK->Prop}(h:bX X f r)(h':bX X f r'):bX X f (λxs H Q=>r xs H Q\/r' xs H Q):=by
 intro JX s σ H xs us Q I rs q;rcases q with q|q
 .exact h JX s σ H xs us Q I rs q
 .exact h' JX s σ H xs us Q I rs q
theorem pY:bX X (.type "list") (λxs H Q=>∃p ys,xs=[.ref p]/\(fj X.K H p ys\/fg X.K H p ys)/\∀l,H l=none->Q (.ref l) (upd H l (.lst ys))):=by
 intro JX s σ H xs us Q I r h;obtain⟨p,ys,rfl,hq,q⟩:=h;obtain⟨u,rfl,rx⟩:=vals1 r;cases rx;have fin:∀(J2:List Value),Vals ys J2->ys.length<=sizeLine->∀(h':Heap)(c':Nat),(∀b o',s.heap.get? b=some o'->h'.get? b=some o') ->
   h'.get? s.heap.objs.size=some { cls:=.type "list",dict:=none,data:=.seq J2.toArray c',slots:=#[] }->EP X JX σ Q (.ref s.heap.objs.size) { s with heap:=h' }:=λJ2 r' hz h' c' kp e =>
  ⟨.ref s.heap.objs.size,_,I.laid (t':=s.toks) kp (Np _) (show bz X.prog X.w _ h' _ (.lst ys) from ⟨hz,J2,c',r',e⟩),rfl,q _ (I.bo.fresh (Np _))⟩
 rcases hq with hq|hq
 .obtain⟨J2,r',pl,hz⟩:=I.list hq;have hlen:=r'.length;obtain⟨o,ho,hc,n,hd⟩:=pl.isList;exact call_list_seq p (.inl rfl) ho hc hd (λh' c' kp e=>fin J2 r' hz h' c' kp e) (by simp only[Nn]<;>lia)
 .obtain⟨J2,r',pl,hz⟩:=I.tuple hq;have hlen:=r'.length;obtain⟨o,ho,hc,n,hd⟩:=pl;exact call_list_seq p (.inr rfl) ho hc hd (λh' c' kp e=>fin J2 r' hz h' c' kp e) (by simp only[Nn]<;>lia)
theorem nN:bX X (.type "tuple") (λxs H Q=>∃p ys,xs=[.ref p]/\((fj X.K H p ys/\∀l,H l=none->Q (.ref l) (upd H l (.tup ys)))\/(fg X.K H p ys/\Q (.ref p) H))):=by
 intro JX s σ H xs us Q I r h;obtain⟨p,ys,rfl,h⟩:=h;obtain⟨u,rfl,rx⟩:=vals1 r;cases rx;rcases h with ⟨hq,q⟩|⟨hq,q⟩
 .obtain⟨J2,r',pl,hz⟩:=I.list hq;have hlen:=r'.length;refine call_tuple_list pl.isList (λh' kp=>?_) (by simp only[Nn]<;>lia);have I1:Inv X JX σ H { s with heap:=h' }:=I.kept (t':=s.toks) kp;have I2:Inv X JX σ (upd H h'.objs.size (.tup ys)) { s with heap:=h'.push { cls:=.type "tuple",data:=.seq J2.toArray } } :=
   I1.laid (t':=s.toks) (λb o e=>Nc _ e) (Np _) (show bz X.prog X.w _ _ _ (.tup ys) from ⟨hz,J2,r',SY _ _⟩)
  exact⟨.ref h'.objs.size,_,I2,rfl,q _ (I1.bo.fresh (Np _))⟩
 .obtain⟨J2,r',pl,hz⟩:=I.tuple hq;exact call_tuple_same pl ⟨.ref p,H,I,rfl,q⟩
def Jd(K:Nb)(T:String)(x:V)(H:Hp):Prop:=match x with
 | .str _=>T="str"
 | .int _=>T="int"
 | .ref p=>(T="list" /\ ∃xs,fj K H p xs)\/(T="tuple" /\ ∃o,K.lookup p=some o/\o.cls=.type "tuple" /\ o.dict=none) ∨
   (T="dict" /\ ((∃Kj,H p=some (.dK Kj))\/∃Kj,H p=some (.dT Kj)))\/(T="set" /\ ∃S n,H p=some (.set S n))
 |_=>False
def xF{T:String}{x:V}{v:Value}(I:Inv X JX σ H s)(r:RelV x v)(ty:Jd X.K T x H):s.TypeIs v T/\∀a,v=.ref a->∃ob,s.heap.get? a=some ob/\ob.dict=none:=by
 cases x with
 | str z =>
  obtain⟨t,rfl⟩:=r;cases (show T="str" from ty);exact⟨typeIs_str s z t,λ_ e=>nomatch e⟩
 | int i =>
  obtain⟨t,rfl⟩:=r;cases (show T="int" from ty);exact⟨RA s i t,λ_ e=>nomatch e⟩
 | ref p =>
  cases r;rcases ty with ⟨rfl,xs,hq⟩|⟨rfl,o,hk,hc,hd⟩|⟨rfl,hk⟩|⟨rfl,S,n,hk⟩
  .obtain⟨J2,_,pl,_⟩:=I.list hq;refine⟨pl.isList.typeIs,λa e=>?_⟩;cases e;obtain⟨o,n,e,c,hd,_⟩:=pl;exact⟨o,e,hd⟩
  .refine⟨⟨o,I.gi p o hk,hc⟩,λa e=>?_⟩;cases e;exact⟨o,I.gi _ o hk,hd⟩
  .have z:∃o,s.heap.get? p=some o/\o.ExactDict:=by
    rcases hk with ⟨Kj,hk⟩|⟨Kj,hk⟩
    .obtain⟨_,_,_,_,o,_,_,e,ex,_⟩:=I.bo p _ hk;exact⟨o,e,ex⟩
    .obtain⟨_,_,_,_,o,_,_,e,ex,_⟩:=I.bo p _ hk;exact⟨o,e,ex⟩
   obtain⟨o,e,ex⟩:=z;refine⟨⟨o,e,ex.1⟩,λa e2=>?_⟩;cases e2;exact⟨o,e,ex.2.1⟩
  .obtain⟨o,_,_,_,e,ex,_⟩:=I.bo p _ hk;refine⟨⟨o,e,ex.1⟩,λa e2=>?_⟩;cases e2;exact⟨o,e,ex.2.1⟩
 |_=>exact Ox ty
def FO(K:Nb)(T:String)(r:V->List V->Hp->VK->Prop)(to:TE):TE:=fun σ H Q=>to σ H λx H1=>Jd K T x H1/\r x [] H1 Q
def JW(K:Nb)(T:String)(r:V->List V->Hp->VK->Prop)(to:TE)(t:TA):TE:=fun σ H Q=>to σ H λx H1=>Jd K T x H1/\t σ H1 λxs H2=>r x xs H2 Q
variable{o:Expr}{es:List Expr}{to:TE}{t:TA}{name:Str}{apos J7:Pos}{T id:String}{r:V->List V->Hp->VK->Prop}
def Cf(pa:PlainAttrs T)(slot:Slot T name id)(hty:typeOf (.builtin id)=pure (.type "method_descriptor"))(hm:Ju X id r)(ho:PE X o to)(Ll:autoParam (attributeBase o name X.env (eval o X.env)=eval o X.env) aR._auto_1)(Lm:autoParam ((apos.endLine==J7.line)=true) aR._auto_1):PE X (.Call (.Attribute o name apos) [] [] J7) (FO X.K T r to):=by
 intro JX s σ H Q I h;refine wpAny_Call_method0_late Ll Lm (cn (ho JX s σ H _ I h) λv s1 ⟨x,H1,I1,r1,ty,q1⟩=>?_);obtain⟨h1,h2⟩:=xF I1 r1 ty;exact⟨T,id,pa,slot,hty,h1,h2,RB rfl (PySem.evalArgs_none (hm JX s1 σ H1 x [] v [] Q I1 r1 .nil q1))⟩
def Fc(pa:PlainAttrs T)(slot:Slot T name id)(hty:typeOf (.builtin id)=pure (.type "method_descriptor"))(hm:Ju X id r)(ho:PE X o to)(ha:PA X (e::es) t)(Ll:autoParam (attributeBase o name X.env (eval o X.env)=eval o X.env) aR._auto_1)(Mm:autoParam (((backTo J7 (starEach (e::es) X.env)).all (λx=>!x.1)&&(backToKw J7 (keywordEach [] X.env)).all (λx=>x.1.isSome) && decide ((e::es).length+([]:List Keyword).length+(if ([]:List Keyword).isEmpty then 0 else 1)<30))=true) aR._auto_1)(Lm:autoParam ((apos.endLine==J7.line)=true) aR._auto_1)(hs:autoParam ↑0 aR._auto_1)(Lx:autoParam ((backTo J7 (starEach es X.env)).any (·.1)=false) aR._auto_1):PE X (.Call (.Attribute o name apos) (e::es) [] J7) (JW X.K T r to t):=by
 intro JX s σ H Q I h;refine wpAny_Call_method_late Ll Mm Lm rfl (cn (ho JX s σ H _ I h) λv s1 ⟨x,H1,I1,r1,ty,q1⟩=>?_);obtain⟨h1,h2⟩:=xF I1 r1 ty;refine⟨T,id,pa,slot,hty,h1,h2,?_⟩;have hA:=ha J7 JX s1 σ H1 _ I1 q1;rw[hs] at hA ⊢;refine RB (by show (false||(backTo J7 (starEach es X.env)).any (·.1))=false;rw[Lx]<;>rfl) (Calls.evalArgs_plain ?_);exact cn hA λus s2 ⟨vs,H2,I2,r2,q2⟩=>hm JX s2 σ H2 x vs v us Q I2 r1 r2 q2
end
def Jn(X:Cx)(id:String)(r:V->List V->Hp->VK->Prop):Prop :=
 ∀ (JX:List (Addr×Obj)) (s:Shared) (σ:St) (H:Hp) (x:V) (xs:List V) (v:Value) (us:List Value) (Q:VK),Inv X JX σ H s->RelV x v->Vals xs us->r x xs H Q ->
  wpAny ↑8 X.A (call (.builtin id) (v::us)) (EP X JX σ Q) X.xe s
def Vals.one:∀{x:V}{us:List Value},Vals [x] us->∃u,us=[u]/\RelV x u
 |_,_,.cons r .nil=>⟨_,rfl,r⟩
def Vals.zero:∀{us:List Value},Vals [] us->us=[]
 |_,.nil=>rfl
theorem Vals.rep{xs:List V}{us:List Value}(h:Vals xs us):∀k:Nat,Vals (Ni k xs).flatten (Ni k us).flatten
 | 0=>.nil
 | k+1=>by
  rw[N5,N5,OA,OA];exact Vals.append h (Vals.rep h k)
theorem foldl_rep(J2:List Value):∀(k:Nat)(acc:List Value),Q0 (λx1 x2=>x1++x2) acc.toArray (Ni k J2.toArray)=(acc++(Ni k J2).flatten).toArray
 | 0,acc=>by simp
 | k+1,acc=>by
  have e:acc.toArray++J2.toArray=(acc++J2).toArray:=by simp
  have e2:(acc++J2)++(Ni k J2).flatten=acc++(Ni (k+1) J2).flatten:=by
   rw[N5,OA,Ra]
  rw[<- e2,<- foldl_rep J2 k (acc++J2),<- e,N5,List.foldl_cons]
variable{t':Nat}
section
variable{l b:Addr}{ys zs:List V}
def Inv.F9{its':List Value}{f:Array Value->Array Value}(I:Inv X JX σ H s)(hH:H l=some (.lst xs))(e:s.heap.get? l=some { cls:=.type "list",data:=.seq J2.toArray n })(hf:f J2.toArray=its'.toArray)(hv:Vals ys its')(hz:ys.length<=sizeLine):Inv X JX σ (upd H l (.lst ys)) { s with heap:=s.heap.update l (Rz f),toks:=t' }:=by
 have q:=PySem.IsL.update e f;rw[hf] at q;refine I.write (x:=l) (e:=l) (by rw[hH];exact trivial) (.inl rfl) (λb' u hb hu=>(N2 s.heap (Rz f) (OL hb)).trans hu) ⟨_,q⟩ ?_;exact⟨hz,its',_,hv,q⟩
def Inv.FD(I:Inv X JX σ H s)(hv:Vals ys J2)(hz:ys.length<=sizeLine):Inv X JX σ (upd H s.heap.objs.size (.lst ys)) { s with heap:=s.heap.push { cls:=.type "list",data:=.seq J2.toArray },toks:=t' } :=
 I.laid (λ_ _ q=>Nc _ q) (Np _) ⟨hz,J2,0,hv,Nq _ rfl⟩
theorem Inv.fresh(I:Inv X JX σ H s):H s.heap.objs.size=none:=I.bo.fresh (Np _)
def Inv.zk(I:Inv X JX σ H s)(hH:H l=some (.lst xs)):xs.length<=sizeLine/\∃(J2:List Value)(n:Nat),Vals xs J2/\xs.length=J2.length/\s.heap.get? l=some { cls:=.type "list",data:=.seq J2.toArray n }:=by
 obtain⟨z,J2,n,r,e⟩:=I.bo l _ hH;exact⟨z,J2,n,r,r.length,e⟩
theorem xW(h:n<=sizeLine):Pz n=false:=by
 unfold Pz;exact decide_eq_false ⋯
end
def Bd:V->List V->Hp->VK->Prop:=λx vs H Q=>∃l xs y,x=.ref l/\vs=[y]/\H l=some (.lst xs)/\xs.length<sizeLine/\Q .aJ (upd H l (.lst (xs++[y])))
theorem oV:Jn X "list.append" Bd:=by
 intro JX s σ H x vs v us Q I rx rv h;obtain⟨l,xs,y,rfl,rfl,hH,hz,q⟩:=h;cases rx;obtain⟨u,rfl,ru⟩:=rv.one;obtain⟨z,J2,n,r,hl,e⟩:=I.zk hH;refine PL F.slot_list_append ⟨_,e,rfl⟩ F.entry_list_append (F.args_list_append_2 _ _) (PySem.list_append l J2.toArray n u (by rw[Nn];lia)) ⟨e,?_⟩;refine⟨.aJ,_,I.F9 (its':=J2++[u]) hH e ↑13 (r.append (.cons ru .nil)) ?_,rfl,q⟩;rw[NG,List.length_singleton];lia
def yN:V->List V->Hp->VK->Prop:=λx vs H Q=>∃l xs,x=.ref l/\vs=[]/\H l=some (.lst xs)/\Q .aJ (upd H l (.lst []))
theorem xT:Jn X "list.clear" yN:=by
 intro JX s σ H x vs v us Q I rx rv h;obtain⟨l,xs,rfl,rfl,hH,q⟩:=h;cases rx;have hus:=rv.zero;subst hus;obtain⟨z,J2,n,r,hl,e⟩:=I.zk hH;refine PL F.slot_list_clear ⟨_,e,rfl⟩ F.entry_list_clear (F.args_list_clear_1 _) (AutoSeq1.list_clear_list_0 l J2.toArray n (by rw[Nn];lia)) ⟨e,?_⟩;exact⟨.aJ,_,I.F9 (its':=[]) (ys:=[]) hH e rfl .nil (NT _),rfl,q⟩
def Fs:R2:=λx y H Q=>∃l b xs zs,x=.ref l/\y=.ref b/\H l=some (.lst xs)/\H b=some (.lst zs)/\xs.length+zs.length<=sizeLine/\∀p,H p=none->Q (.ref p) (upd H p (.lst (xs++zs)))
theorem xp:fm X (binaryOp .Add) Fs:=by
 intro JX s σ H x y v u Q I rx ry h;obtain⟨l,b,xs,zs,rfl,rfl,hH,hB,hz,q⟩:=h;cases rx;cases ry;obtain⟨z,J2,n,r,hl,e⟩:=I.zk hH;obtain⟨z2,Ly,n2,r2,LO,e2⟩:=I.zk hB;refine PySem.P.add_list e e2 ?_ (by rw[Nn,Nn];lia);have ea:J2.toArray++Ly.toArray=(J2++Ly).toArray:=by simp
 rw[ea];exact⟨.ref _,_,I.FD (t':=s.toks) (r.append r2) (by rw[NG];lia),rfl,q _ I.fresh⟩
def Gb:R2:=λx y H Q=>∃l k xs,x=.ref l/\y=.int k/\H l=some (.lst xs)/\-(2^63)<=k/\k<2^63/\xs.length*k.toNat<=sizeLine ∧
 ∀p,H p=none->Q (.ref p) (upd H p (.lst (Ni k.toNat xs).flatten))
def len_rep(xs:List α)(k:Nat):(Ni k xs).flatten.length=k*xs.length:=by
 induction k with
 | zero=>simp
 |succ k ih=>rw[N5,OA,NG,ih,Nat.succ_mul,SI]
theorem De:fm X (binaryOp .Mult) Gb:=by
 intro JX s σ H x y v u Q I rx ry h;obtain⟨l,k,xs,rfl,rfl,hH,h1,h2,hz,q⟩:=h;cases rx;obtain⟨t,rfl⟩:=ry;obtain⟨z,J2,n,r,hl,e⟩:=I.zk hH;have hlen:J2.toArray.size*k.toNat<=sizeLine:=by rwa[Nn,<- hl]
 have hcap:¬ J2.toArray.size*k.toNat>(2^63-1)/8:=by
  have:(sizeLine:Nat)<=(2^63-1)/8:=by decide
  lia
 have hfit:¬ (!Builtin.List.listFitsIndex k)=true:=by
  rw[fitsIndex_both h1 h2];exact N1
 have MV:¬ Pz (J2.toArray.size*k.toNat)=true:=by
  rw[xW hlen];exact N1
 have K4:Q0 (λx1 x2=>x1++x2) #[] (Ni (if J2.toArray.isEmpty=true then 0 else k.toNat) J2.toArray)=(Ni k.toNat J2).flatten.toArray:=by
  have f0:∀m:Nat,Q0 (λx1 x2=>x1++x2) #[] (Ni m J2.toArray)=(Ni m J2).flatten.toArray:=λm=>by
   have:=foldl_rep J2 m [];rwa[Tj] at this
  rw[f0];cases J2 with
  | nil=>simp
  | cons a r'=>rw[if_neg ↑13]
 refine Q8 (T := "list") (U := "int") ↑12 ⟨_,e,rfl⟩ (λs'=>RA s' k t) noFill_list_mul F.fills_int_mul F.slot_int_rmul repeat_list F.slot_int_index.lookup
  (PL F.slot_int_rmul (RA s k t) F.entry_int_rmul (F.args_int_rmul_2 _ _) (int___rmul___int_list k t l J2.toArray n)
   ⟨e,rfl,⟨_,e,rfl⟩,PL F.slot_list_mul ⟨_,e,rfl⟩ F.entry_list_mul (F.args_list_mul_2 _ _) (AutoListH.list___mul___list_int_3 l J2.toArray n k t hfit hcap MV) ⟨e,?_⟩⟩)
 rw[K4];exact⟨.ref _,_,I.FD (t':=s.toks) (r.rep k.toNat) (by rwa[len_rep,QS]),rfl,q _ I.fresh⟩
variable{E:Value->Shared->Prop}{A:Around}{w:World}
section
variable{prog:Program}
end
section
variable{κ:Type}[DecidableEq κ]
end
variable{a:Addr}
section
variable{P:Program}{h:Heap}
end
variable{o:Option V}{u:Value}
section
variable{y v:V}{r:Value}
end
variable{Kj:List (Key×V)}
section
variable{k:Key}
end
section
variable{o i value:Expr}{pos' M9:Pos}{td ty tv:TE}
end
section
variable{y d:V}{r:Value}
end
section
variable{o f:Expr}{apos J7:Pos}{td ty tx:TE}
end
section
variable{y:V}
end
end L2
namespace Att
open PySem PySem.W PySem.Calls PyProof.Rows
variable{h:Heap}{P:Params}
def lA:∀(ns:List Int)(vs:List Value),WellAll P h vs (ns.map WData.int)->IntsAre vs ns:=by
 intro ns
 induction ns with
 | nil =>
  intro vs w;rw[QT] at w;cases w;exact .nil
 | cons n ns ih =>
  intro vs w;rw[NJ] at w;cases w with
  | cons a b =>
   cases a;exact .cons _ _ (ih _ b)
def vJ{l:OpenLaw}{n:Nat}(hn:l.most=some n){args:List WData}{vals:List Value}(vQ:l.row.toRowW.claim.pre args=true)(hwl:WellAll P h vals args):∃a vs ns,vals=[Nj a]/\args=[WData.list (ns.map WData.int)]/\h.get? a=some { cls:=.type "list",data:=.seq vs.toArray }/\IntsAre vs ns/\ns.length<=n:=by
 have hsh:WShape.hasAll [] args [.list .int]=true:=(pre_splitW vQ).1;have hc:l.pre.holds [] { args:=args }=true:=(pre_splitW vQ).2;obtain⟨d,r,rfl,h1,h2⟩:=hasAllW_cons hsh;obtain rfl:=hasAllW_nil h2;obtain⟨xs,rfl,h3⟩:=hasW_list h1;obtain⟨ns,rfl⟩:=items_int h3;have hlen:ns.length<=n:=by
  unfold OpenLaw.pre at hc;have h4:(WTm.not (.lt (.lit (.int (n:Int))) (.len (.arg 0)))).holds [] { args:=[.list (ns.map .int)] }=true:=by
   have h4:=(holds_andW hc).1;rwa[hn] at h4
  have h5:=condW_of h4 (w_not (w_lt w_lit (w_len_list (w_arg rfl))));rw[Nm] at h5;refine Nat.le_of_not_lt λq=>?_;have q':(n:Int)<((ns.length:Nat):Int):=by lia
  first
   | (rw[decide_eq_true q'] at h5;exact absurd h5 ↑12)
   | (simp at h5;lia)
 cases hwl with
 | cons w1 w2 =>
  cases w2;cases w1 with
  |list ho hall=>exact⟨_,_,ns,rfl,rfl,ho,lA ns _ hall,hlen⟩
def vG(l:OpenLaw)(args:List WData):l.row.toRowW.claim.post args (.bool true) args=true :=
 postW_of (r:=l.row.toRowW) (X:=(true==true))
  (show WShape.has [] (.bool true) .bool=true by first|rfl|decide|simp[WShape.has,WShape.arms,WShape.armsAll])
  (show (WTm.eq .res (.lit (.bool true))).value [] { args:=args,res:=some (.bool true),after:=args }=some (.bool (true==true)) from w_eq_bool (w_res rfl) w_lit) rfl
section
variable{prog:Program}{w:World}{A:Around}{E:Value->Shared->Prop}{s:Shared}{K:Frag}
end
end Att
namespace L2
open PySem PySem.Spec PyProof.Rows
theorem nW:∀{vs:List Value}{ns:List Int},IntsAre vs ns->Vals (ns.map V.int) vs
 | _,_,.nil=>.nil
 |_,_,.cons n t h=>.cons ⟨t,rfl⟩ (nW h)
def Gh(H:Hp):Prop:=∀b,H b=none\/∃o xs,H b=some (.k9 o (.lst xs))
variable{mg:Str->Option Value}{w:World}{P:Program}
def ye{K:Nb}{mb:Str->Option Value}{CX:EG}{k:Nat}{fa a:Addr}{fd:FuncData}{x:Str}{sp:Sp}{s₁:Shared}{vs:List Value}{ns:List Int}(KX:K.In s₁.heap)(hns:s₁.heap.Ns mainGlobals mg)(hb:s₁.heap.Ns builtinsNs mb)(hbb:∀x:Str,x ≠ "__name__" -> mb x=bootBuiltins x)(hlim:s₁.heap.NoLimit)(hg:s₁.gens=#[])(ha:s₁.heap.get? a=some { cls:=.type "list",data:=.seq vs.toArray })(hi:IntsAre vs ns)(hl:ns.length<=sizeLine)(hr:bH k callerA)(F:∀base:Heap,K.In base->base.Ns mainGlobals mg->aV P w K mg base CX k fa fd [x] sp)(ML:∀(s:Shared)(u:Value),BindsTo s fd ⟨[u],[]⟩ [(x,u)])(hsp:∀H:Hp,Gh H->fj K H a (ns.map V.int)->sp [.ref a] H (λv _=>v=.bl true) λ_ _ _=>False)(hCX:∀H e s',CX [] H s₁ (λ_ _ _=>False) e s'->False):codeAny (model P w) callerA (.call (.ref fa) ⟨[.ref a],[]⟩) (λr s'=>r=.ok (.ret (.bool true))/\OldK s₁.heap s'.heap/\s'.os=s₁.os/\AllBare s'.gens) s₁:=by
 have rv:=nW hi;have lenV:=hi.length;have core:∀H:Hp,Gh H->fj K H a (ns.map V.int)->j9 P w H s₁.heap->(∀b,H b≠none->b=a)->(H a≠none->K.lookup a=none) ->
   codeAny (model P w) callerA (.call (.ref fa) ⟨[.ref a],[]⟩) (λr s'=>r=.ok (.ret (.bool true))/\OldK s₁.heap s'.heap/\s'.os=s₁.os/\AllBare s'.gens) s₁:=by
  intro H hO hS bo hA hK;have LD:∀{b:Addr}{o:Obj},s₁.heap.get? b=some o->H b=none->(pd s₁.heap H).get? b=some o:=λe n=>zv e n;have eW:∀{b:Addr}{o:Obj}{es:Array DictEntry}{ep:Nat},s₁.heap.get? b=some o->o.data=.dict es ep->H b=none:=λ{b o es ep} e d=>by
   cases q:H b with
   | none=>rfl
   | some u =>
    have e':b=a:=hA b (by rw[q];simp);subst e';rw[ha] at e;cases e;have d':Data.seq vs.toArray _=Data.dict es ep:=d;cases d'
  have nsK:∀{b:Addr}{m:Str->Option Value},s₁.heap.Ns b m->(pd s₁.heap H).Ns b m:=λ{b m} ⟨o,es,ep,e,d,r⟩=>⟨o,es,ep,LD e (eW e d),d,r⟩
  have hKb:K.In (pd s₁.heap H):=λb o e=>LD (KX b o e) (by
   cases q:H b with
   | none=>rfl
   | some u =>
    have e':b=a:=hA b (by rw[q];simp);subst e';rw[hK (by rw[q];simp)] at e;cases e)
  have hM:Mod K mg (pd s₁.heap H):=⟨hKb,nsK hns,⟨mb,nsK hb,hbb⟩,let ⟨mc,h1,h2⟩:=hlim;⟨mc,nsK h1,h2⟩⟩
  have e0:t6 P w K mg (pd s₁.heap H) callerA [] s₁ H:=⟨rfl,hM,λb o e=>AN e,Ss (vZ _ _),trivial,λb hb=>absurd (show b∈([]:List Addr) from hb) ↑13,bo,.of_eq hg⟩
  refine QU ((F _ hKb (nsK hns)).run callerA [] s₁ H ⟨[.ref a],[]⟩ [.ref a] [.ref a] _ _ hr e0 (ML s₁ (.ref a)) (.cons rfl .nil) (hsp H hO hS)) λr s' h=>?_;cases r with
  | error e=>exact(hCX H e s' h).elim
  | ok fl =>
   cases fl with
   | next=>exact Ox h
   | brk=>exact Ox h
   | cont=>exact Ox h
   | ret u =>
    obtain⟨v,H',os,bare,un,hok',r',q⟩:=h;have q':v=.bl true:=q;subst q';obtain rfl:u=OP true:=r';refine⟨rfl,OldK.of_keep λb o e=>?_,os,bare⟩;cases q:H b with
    | none=>exact un.keep b o e q (by intro z;exact absurd (show b∈([]:List Addr) from z) ↑13) ↑13
    | some u =>
     rcases hO b with z|⟨ob,xs,z⟩
     .rw[q] at z;cases z
     .have z2:=un.iH b ob _ z;obtain⟨e1,_⟩:=bo b _ z;obtain⟨e2,_⟩:=hok' b _ z2;rw[e] at e1;cases e1;exact e2
 cases hk:K.lookup a with
 | some o =>
  have e:=KX a o hk;rw[ha] at e;cases e;refine core (λ_=>none) (λ_=>.inl rfl) (.inr ⟨_,vs.toArray,_,hk,rfl,rfl,rfl,by rwa[Nn,lenV],by simpa using rv⟩) (λb u z=>by have z':(none:Option HO)=some u:=z;cases z') (λb z=>absurd rfl z) λz=>absurd rfl z
 | none =>
  refine core (λb=>if b=a then some (.k9 { cls:=.type "list",data:=.seq vs.toArray } (.lst (ns.map V.int))) else none) (λb=>?_) (.inl (.inr ⟨{ cls:=.type "list",data:=.seq vs.toArray },if_pos rfl⟩)) (λb u z=>?_) (λb z=>?_) λ_=>hk
  .by_cases hb:b=a
   .exact .inr ⟨_,_,if_pos hb⟩
   .exact .inl (if_neg hb)
  .by_cases hb:b=a
   .have z':=(if_pos hb).symm.trans z;cases z';subst hb;exact⟨ha,by rwa[Nm],vs,_,rv,ha⟩
   .have z':=(if_neg hb).symm.trans z;cases z'
  .by_cases hb:b=a
   .exact hb
   .exact absurd (if_neg hb) z
def inClass(s:Stmt)(j:Nat):Stmt:=match s with
 | .ClassDef _ _ _ body _ _ _ _ _ _ _=>body.getD j (.Pass ⟨0,0,0,0⟩)
 |_=>.Pass ⟨0,0,0,0⟩
def fJ(s:Stmt):Arguments:=match s with
 | .FunctionDef _ a _ _ _ _ _ _ _ _=>a
 |_=>{ posonlyargs:=[],args:=[],vararg:=none,kwonlyargs:=[],kw_defaults:=[],kwarg:=none,defaults:=[] }
def cK(s:Stmt):List Stmt:=match s with
 | .FunctionDef _ _ b _ _ _ _ _ _ _=>b
 |_=>[]
def aA(s:Stmt):Scope:=match s with
 | .FunctionDef _ _ _ _ _ _ sc _ _ _=>sc
 |_=>{ kind:=.function,names:=[],isGenerator:=false,isCoroutine:=false }
abbrev E0:XK:=λ_ _ _=>False
section
variable{K:Nb}{base:Heap}
end
def oU{n:Nat}(h:n<=1000):n<sizeLine:=Pa h ↑12
section
variable{X:Cx}
end
def aW(H H':Hp):Prop:=∀b o,H b=some o->H' b=some o
end L2
section
namespace HD
open PySem PySem.W L2
abbrev pw:Program:=PySem.Challenge.pw_dialvault_k11_vaults_taken_and_refused
noncomputable section
noncomputable def st(s:String)(t:Nat):Value:=.str (NF s) t
def en(P:Params)(s:String)(t:Nat)(v:Value):DictEntry:=⟨PyData.keyHash P (NF s),st s t,v⟩
def tu(xs:List Value):Obj:=⟨.type "tuple",none,.seq ⟨xs⟩ 0,⟨[]⟩⟩
def di(n:Nat)(es:List DictEntry):Obj:=⟨.type "dict",none,.dict ⟨es⟩ n,⟨[]⟩⟩
def tp(i:Nat):Stmt:=pw.main.body.getD i (.Pass ⟨0,0,0,0⟩)
def mp(i j:Nat):Stmt:=inClass (tp i) j
def co(a b:String)(t:Nat)(l n:Int)(x1 x2 x3 x4 x5:Nat)(u:Nat):Obj:=⟨.type "code",none,.fields ⟨[st a t,st b (t+1),st "/claim/cut.py" (t+2),.int l 0,.int n 0,.int 0 0,.int 0 0,.int 3 0,.ref x1,.bool true,.int 181 0,.ref x2,.none,.ref x3,.ref x4,.ref x5,.int u 0,.int l 0,st "/claim/cut.py" (u+1)]⟩,⟨[]⟩⟩
def ft(a b:String)(s:Stmt):Obj:=⟨.none,none,.func ⟨NF a,NF b,fJ s,.stmts (cK s),aA s,0,[],.none,.none,.none,.none,none,.none,.none,0⟩,⟨[]⟩⟩
def fo(a b:String)(s:Stmt)(df pm:Value)(cd:Nat):Obj:=⟨.type "function",none,.func ⟨NF a,NF b,fJ s,.stmts (cK s),aA s,3,[],df,.none,.none,pm,none,.ref cd,.none,0⟩,⟨[]⟩⟩
def Di:List Obj->List Obj
 | []=>[]
 | [a]=>[a]
 |a::_::r=>a::Di r
def bt:Nat->List Obj->BT
 | 0,_=>.nil
 | _+1,[]=>.nil
 |n+1,a::r=>.node a (bt n (Di r)) (bt n (Di (r.drop 1)))
def S(L:Params->List Obj)(n k:Nat)(w:World)(os:OsState):SharedT:=⟨bt 14 (L w.params),n,{},⟨[]⟩,⟨0,0,0,0⟩,k,os⟩
def F(L:Params->List Obj)(k:Nat)(w:World)(os:OsState):Shared:=⟨⟨⟨L w.params⟩,{}⟩,⟨[]⟩,⟨0,0,0,0⟩,k,os⟩
def cc(a:String)(t:Nat)(l:Int)(x y u:Nat):Obj:=⟨.type "code",none,.fields ⟨[st a t,st a (t+1),st "/claim/cut.py" (t+2),.int l 0,.int 0 0,.int 0 0,.int 0 0,.int 0 0,.ref x,.bool false,.int 181 0,.ref y,.none,.none,.none,.none,.int u 0,.int l 0,st "/claim/cut.py" (u+1)]⟩,⟨[]⟩⟩
def fr(a b:Nat)(s:String)(t:Nat):Obj:=⟨.type "frame",none,.plain,⟨[some (.ref a),some (.ref 3),some (.ref b),none,some (st s t),none,some (.ref 0)]⟩⟩
def su(a:Nat):Obj:=⟨.type "super",none,.fields ⟨[.ref a,.ref a,.ref a]⟩,⟨[]⟩⟩
def ii(a:Nat):Obj:=⟨.type "builtin_function_or_method",none,.fields ⟨[.builtin "object.__init_subclass__",.ref a]⟩,⟨[]⟩⟩
def Gs:List Nat->List Value
 | a::b::c::r=>.int a 0::.int b 0::.ref c::Gs r
 |_=>[]
def fi(xs:List Nat):Obj:=⟨.none,none,.fields ⟨Gs xs⟩,⟨[]⟩⟩
def cl(n:Str)(bs ms:List Value)(k:Nat)(ss:List Value)(sl:List (Option Value)):Obj:=⟨.type "type",none,.cls ⟨n,bs,ms,k,n,true,[],ss,false,none,false⟩,⟨sl⟩⟩
def pt(L:List Obj)(us:List (Nat×Obj))(ns:List Obj):List Obj:=us.foldl (λl u=>l.set u.1 u.2) L++ns
abbrev b0:=boot_o_0
abbrev b1:=boot_o_1
abbrev b2:=boot_o_2
abbrev b3:=boot_o_3
abbrev b4:=boot_o_4
abbrev b5:=boot_o_5
abbrev b6:=boot_o_6
abbrev b7:=boot_o_7
abbrev b8:=boot_o_8
abbrev b9:=boot_o_9
abbrev JA:=boot_o_10
def m0:Value:=st "__main__" 164
def m1:Value:=st "dialvault.errors" 194
def m2:Value:=st "dialvault.wholes" 542
def m3:Value:=st "dialvault.vault" 578
def m4:Value:=st "law_dialvault_k11_vaults_taken_and_refused" 693
def nl:List String->Nat->List Value
 | [],_=>[]
 |x::r,t=>st x t::nl r (t+1)
def fA(P:Params)(a t:Nat)(x q:String)(s:Stmt)(l n:Int)(vs:List String)(df pm:Value):List Obj:=[b7 P,b8 P,tu (nl vs (t+3)),b7 P,ft x q s,co x q t l n a (a+1) (a+2) (a+3) (a+4) (t+3+vs.length),fo x q s df pm (a+5)]
def fT(P:Params)(a t:Nat)(x:String)(s:Stmt)(l n:Int)(vs:List String)(pm:Value):List Obj:=fA P a t x x s l n vs .none pm
def fB(P:Params)(a t:Nat)(x q:String)(s:Stmt)(l n:Int)(df pm:Value):List Obj:=[b7 P,b8 P,ft x q s,⟨.type "code",none,.fields ⟨[st x t,st q (t+1),st "/claim/cut.py" (t+2),.int l 0,.int n 0,.int 0 0,.int 0 0,.int 3 0,.ref a,.bool true,.int 181 0,.ref (a+1),.none,.none,.none,.ref (a+2),.int (t+3) 0,.int l 0,st "/claim/cut.py" (t+4)]⟩,⟨[]⟩⟩,fo x q s df pm (a+3)]
def dB(P:Params)(n t:Nat)(m:Value)(l:Int)(r:List DictEntry):Obj:=di n (en P "__module__" t m::en P "__firstlineno__" (t+4) (.int l (t+3))::r)
def dA(P:Params)(n t:Nat)(m:Value)(x:String)(l:Int)(r:List DictEntry):Obj:=di n (en P "__module__" t m::en P "__qualname__" (t+2) (st x (t+1))::en P "__firstlineno__" (t+4) (.int l (t+3))::r)
def gw(t a:Nat):Obj:=⟨.type "getset_descriptor",none,.fields ⟨[st "__weakref__" t,.ref a,.builtin "ExceptionGroup.__weakref__",.none]⟩,⟨[]⟩⟩
def gd(t a:Nat):Obj:=⟨.type "getset_descriptor",none,.fields ⟨[st "__dict__" t,.ref a,.builtin "function.__dict__",.builtin "function.__dict__#set"]⟩,⟨[]⟩⟩
def ce(x:String)(b a k:Nat)(ss:List Value)(d t u:Nat):Obj:=cl x [.ref b] [.ref a,.ref b,.type "ValueError",.type "Exception",.type "BaseException",.type "object"] k ss [some (.ref d),none,some (st x t),some (st x u),some (.builtin "ValueError.__new__"),some (.bool true)]
def gl P:=[en P "__doc__" 166 .none,en P "__package__" 167 .none,en P "__loader__" 168 (.builtin "__main__.__loader__#opaque"),en P "__spec__" 169 .none,en P "__annotations__" 170 (.ref 6),en P "__builtins__" 171 (.ref 4),en P "__file__" 173 (st "/claim/cut.py" 172),en P "__cached__" 174 .none,en P "_wall" 193 (.ref 21),en P "VaultError" 220 (.ref 38),en P "NoNumber" 243 (.ref 58),en P "NoDial" 275 (.ref 84),en P "NoLever" 307 (.ref 110),en P "NoPrice" 339 (.ref 136),en P "NoSetting" 362 (.ref 155),en P "NoPulls" 385 (.ref 174),en P "TooMany" 408 (.ref 193),en P "Unlike" 431 (.ref 212),en P "NoText" 454 (.ref 231),en P "NoGear" 486 (.ref 257),en P "NoLock" 518 (.ref 283),en P "NoLine" 541 (.ref 302),en P "is_whole" 550 (.ref 311),en P "is_row" 556 (.ref 316),en P "common" 568 (.ref 323),en P "multiple_of" 577 (.ref 330),en P "MOST_DIALS" 581 (.int 6 580),en P "LEAST_SIZE" 583 (.int 2 582),en P "MOST_SIZE" 585 (.int 360 584),en P "MOST_LEVERS" 587 (.int 8 586),en P "LEAST_PRICE" 589 (.int 1 588),en P "MOST_PRICE" 591 (.int 1000 590),en P "Vault" 649 (.ref 374),en P "is_within" 658 (.ref 385),en P "need_sizes" 667 (.ref 392),en P "need_levers" 677 (.ref 399),en P "prices_for" 686 (.ref 406),en P "rests" 692 (.ref 411),en P "_law_cell" 703 (.ref 418),en P "_law_mix" 712 (.ref 425),en P "_law_same" 722 (.ref 432),en P "_law_number" 732 (.ref 439),en P "_law_odd" 742 (.ref 446),en P "_law_put" 752 (.ref 453),en P "_law_handed" 758 (.ref 458),en P "_law_whole" 767 (.ref 465),en P "_law_is_lever" 773 (.ref 470),en P "_law_due" 783 (.ref 477),en P "_law_flags" 792 (.ref 484),en P "_law_refused" 798 (.ref 489),en P "_law_round" 808 (.ref 496),en P "_law_told" 814 (.ref 501),en P "_law_row" 822 (.ref 508),en P "_law_copied" 828 (.ref 513),en P "law" 843 (.ref 520)]
def LA(P:Params):List Obj:=[b0 P,b1 P,b2 P,b3 P,b4 P,b5 P,b6 P,b7 P,b8 P,b9 P,JA P,b7 P,b8 P,cc "<module>" 182 1 11 12 185,fr 13 3 "__main__" 164]
def o9:Obj:=⟨.type "builtin_function_or_method",none,(.fields ⟨[.builtin "type.__prepare__",.type "type"]⟩),⟨[]⟩⟩
def Jy:Obj:=gw 216 38
def wK:=tu [.ref 38]
def L0 P:=pt (LA P) [(3,di 15 (en P "__name__" 165 m1::(gl P).take 14)),(12,fi [1,0,20,5,0,27,9,0,47,13,0,66,20,0,92,27,0,118])] (fT P 15 187 "_wall" (tp 0) 1 1 ["k"] m0++([tu [.type "ValueError"],o9,dA P 5 203 m1 "VaultError" 5 [en P "word" 214 (.ref 35),en P "__static_attributes__" 215 (.ref 36)],b7 P,fi [7,4,34],cc "VaultError" 198 5 25 26 201,fr 27 24 "dialvault.errors" 194]++(fA P 29 208 "word" "VaultError.word" (mp 2 0) 7 1 ["self"] .none m1++([b7 P,dB P 3 203 m1 5 [en P "word" 214 (.ref 35),en P "__static_attributes__" 215 (.ref 36),en P "__weakref__" 217 (.ref 39),en P "__doc__" 218 .none],cl "VaultError" [.type "ValueError"] [.ref 38,.type "ValueError",.type "Exception",.type "BaseException",.type "object"] 37 [.ref 58,.ref 84,.ref 110,.ref 136] [some (.ref 22),none,some (st "VaultError" 196),some (st "VaultError" 204),some (.builtin "ValueError.__new__"),some (.bool true)],Jy,su 38,ii 38,wK,o9,dA P 5 228 m1 "NoNumber" 9 [en P "word" 239 (.ref 55),en P "__static_attributes__" 240 (.ref 56)],b7 P,fi [11,4,54],cc "NoNumber" 223 9 45 46 226,fr 47 44 "dialvault.errors" 194]++(fA P 49 233 "word" "NoNumber.word" (mp 3 0) 11 1 ["self"] .none m1++([b7 P,dB P 2 228 m1 9 [en P "word" 239 (.ref 55),en P "__static_attributes__" 240 (.ref 56),en P "__doc__" 241 .none],ce "NoNumber" 38 58 57 [] 42 221 229,su 58,ii 58,wK,o9,dA P 6 251 m1 "NoDial" 13 [en P "__init__" 263 (.ref 74),en P "word" 270 (.ref 81),en P "__static_attributes__" 272 (.ref 82)],b7 P,fi [15,4,73,18,4,80],cc "NoDial" 246 13 64 65 249,fr 66 63 "dialvault.errors" 194]++(fA P 68 256 "__init__" "NoDial.__init__" (mp 4 0) 15 2 ["self","dial"] .none m1++(fA P 75 264 "word" "NoDial.word" (mp 4 1) 18 1 ["self"] .none m1++([tu [st "dial" 271],dB P 2 251 m1 13 [en P "__init__" 263 (.ref 74),en P "word" 270 (.ref 81),en P "__static_attributes__" 272 (.ref 82),en P "__doc__" 273 .none],ce "NoDial" 38 84 83 [] 61 244 252,su 84,ii 84,wK,o9,dA P 6 283 m1 "NoLever" 20 [en P "__init__" 295 (.ref 100),en P "word" 302 (.ref 107),en P "__static_attributes__" 304 (.ref 108)],b7 P,fi [22,4,99,25,4,106],cc "NoLever" 278 20 90 91 281,fr 92 89 "dialvault.errors" 194]++(fA P 94 288 "__init__" "NoLever.__init__" (mp 5 0) 22 2 ["self","lever"] .none m1++(fA P 101 296 "word" "NoLever.word" (mp 5 1) 25 1 ["self"] .none m1++([tu [st "lever" 303],dB P 2 283 m1 20 [en P "__init__" 295 (.ref 100),en P "word" 302 (.ref 107),en P "__static_attributes__" 304 (.ref 108),en P "__doc__" 305 .none],ce "NoLever" 38 110 109 [] 87 276 284,su 110,ii 110,wK,o9,dA P 6 315 m1 "NoPrice" 27 [en P "__init__" 327 (.ref 126),en P "word" 334 (.ref 133),en P "__static_attributes__" 336 (.ref 134)],b7 P,fi [29,4,125,32,4,132],cc "NoPrice" 310 27 116 117 313,fr 118 115 "dialvault.errors" 194]++(fA P 120 320 "__init__" "NoPrice.__init__" (mp 6 0) 29 2 ["self","lever"] .none m1++(fA P 127 328 "word" "NoPrice.word" (mp 6 1) 32 1 ["self"] .none m1++([tu [st "lever" 335],dB P 2 315 m1 27 [en P "__init__" 327 (.ref 126),en P "word" 334 (.ref 133),en P "__static_attributes__" 336 (.ref 134),en P "__doc__" 337 .none],ce "NoPrice" 38 136 135 [] 113 308 316,su 136,ii 136])))))))))))))))
def L1 P:=pt (L0 P) [(3,di 21 (en P "__name__" 165 m1::(gl P).take 20)),(12,fi [1,0,20,5,0,27,9,0,47,13,0,66,20,0,92,27,0,118,34,0,144,38,0,163,42,0,182,46,0,201,50,0,220,54,0,239]),(38,cl "VaultError" [.type "ValueError"] [.ref 38,.type "ValueError",.type "Exception",.type "BaseException",.type "object"] 37 [.ref 58,.ref 84,.ref 110,.ref 136,.ref 155,.ref 174,.ref 193,.ref 212,.ref 231,.ref 257] [some (.ref 22),none,some (st "VaultError" 196),some (st "VaultError" 204),some (.builtin "ValueError.__new__"),some (.bool true)])] ([wK,o9,dA P 5 347 m1 "NoSetting" 34 [en P "word" 358 (.ref 152),en P "__static_attributes__" 359 (.ref 153)],b7 P,fi [36,4,151],cc "NoSetting" 342 34 142 143 345,fr 144 141 "dialvault.errors" 194]++(fA P 146 352 "word" "NoSetting.word" (mp 7 0) 36 1 ["self"] .none m1++([b7 P,dB P 2 347 m1 34 [en P "word" 358 (.ref 152),en P "__static_attributes__" 359 (.ref 153),en P "__doc__" 360 .none],ce "NoSetting" 38 155 154 [] 139 340 348,su 155,ii 155,wK,o9,dA P 5 370 m1 "NoPulls" 38 [en P "word" 381 (.ref 171),en P "__static_attributes__" 382 (.ref 172)],b7 P,fi [40,4,170],cc "NoPulls" 365 38 161 162 368,fr 163 160 "dialvault.errors" 194]++(fA P 165 375 "word" "NoPulls.word" (mp 8 0) 40 1 ["self"] .none m1++([b7 P,dB P 2 370 m1 38 [en P "word" 381 (.ref 171),en P "__static_attributes__" 382 (.ref 172),en P "__doc__" 383 .none],ce "NoPulls" 38 174 173 [] 158 363 371,su 174,ii 174,wK,o9,dA P 5 393 m1 "TooMany" 42 [en P "word" 404 (.ref 190),en P "__static_attributes__" 405 (.ref 191)],b7 P,fi [44,4,189],cc "TooMany" 388 42 180 181 391,fr 182 179 "dialvault.errors" 194]++(fA P 184 398 "word" "TooMany.word" (mp 9 0) 44 1 ["self"] .none m1++([b7 P,dB P 2 393 m1 42 [en P "word" 404 (.ref 190),en P "__static_attributes__" 405 (.ref 191),en P "__doc__" 406 .none],ce "TooMany" 38 193 192 [] 177 386 394,su 193,ii 193,wK,o9,dA P 5 416 m1 "Unlike" 46 [en P "word" 427 (.ref 209),en P "__static_attributes__" 428 (.ref 210)],b7 P,fi [48,4,208],cc "Unlike" 411 46 199 200 414,fr 201 198 "dialvault.errors" 194]++(fA P 203 421 "word" "Unlike.word" (mp 10 0) 48 1 ["self"] .none m1++([b7 P,dB P 2 416 m1 46 [en P "word" 427 (.ref 209),en P "__static_attributes__" 428 (.ref 210),en P "__doc__" 429 .none],ce "Unlike" 38 212 211 [] 196 409 417,su 212,ii 212,wK,o9,dA P 5 439 m1 "NoText" 50 [en P "word" 450 (.ref 228),en P "__static_attributes__" 451 (.ref 229)],b7 P,fi [52,4,227],cc "NoText" 434 50 218 219 437,fr 220 217 "dialvault.errors" 194]++(fA P 222 444 "word" "NoText.word" (mp 11 0) 52 1 ["self"] .none m1++([b7 P,dB P 2 439 m1 50 [en P "word" 450 (.ref 228),en P "__static_attributes__" 451 (.ref 229),en P "__doc__" 452 .none],ce "NoText" 38 231 230 [] 215 432 440,su 231,ii 231,wK,o9,dA P 6 462 m1 "NoGear" 54 [en P "__init__" 474 (.ref 247),en P "word" 481 (.ref 254),en P "__static_attributes__" 483 (.ref 255)],b7 P,fi [56,4,246,59,4,253],cc "NoGear" 457 54 237 238 460,fr 239 236 "dialvault.errors" 194]++(fA P 241 467 "__init__" "NoGear.__init__" (mp 12 0) 56 2 ["self","dial"] .none m1++(fA P 248 475 "word" "NoGear.word" (mp 12 1) 59 1 ["self"] .none m1++([tu [st "dial" 482],dB P 2 462 m1 54 [en P "__init__" 474 (.ref 247),en P "word" 481 (.ref 254),en P "__static_attributes__" 483 (.ref 255),en P "__doc__" 484 .none],ce "NoGear" 38 257 256 [] 234 455 463,su 257,ii 257]))))))))))))))
def GV:Obj:=gd 643 374
def Hr:Obj:=gw 645 374
def L2 P:=pt (L1 P) [(3,di 48 (en P "__name__" 165 m4::(gl P).take 47)),(12,fi [1,0,20,5,0,27,9,0,47,13,0,66,20,0,92,27,0,118,34,0,144,38,0,163,42,0,182,46,0,201,50,0,220,54,0,239,61,0,265,68,0,291,73,0,310,75,0,315,79,0,322,90,0,329,102,0,336,123,0,384,125,0,391,133,0,398,139,0,405,148,0,410,151,0,417,158,0,424,162,0,431,177,0,438,185,0,445,188,0,452,191,0,457,211,0,464,213,0,469]),(38,cl "VaultError" [.type "ValueError"] [.ref 38,.type "ValueError",.type "Exception",.type "BaseException",.type "object"] 37 [.ref 58,.ref 84,.ref 110,.ref 136,.ref 155,.ref 174,.ref 193,.ref 212,.ref 231,.ref 257,.ref 283,.ref 302] [some (.ref 22),none,some (st "VaultError" 196),some (st "VaultError" 204),some (.builtin "ValueError.__new__"),some (.bool true)])] ([wK,o9,dA P 6 494 m1 "NoLock" 61 [en P "__init__" 506 (.ref 273),en P "word" 513 (.ref 280),en P "__static_attributes__" 515 (.ref 281)],b7 P,fi [63,4,272,66,4,279],cc "NoLock" 489 61 263 264 492,fr 265 262 "dialvault.errors" 194]++(fA P 267 499 "__init__" "NoLock.__init__" (mp 13 0) 63 2 ["self","lock"] .none m1++(fA P 274 507 "word" "NoLock.word" (mp 13 1) 66 1 ["self"] .none m1++([tu [st "lock" 514],dB P 2 494 m1 61 [en P "__init__" 506 (.ref 273),en P "word" 513 (.ref 280),en P "__static_attributes__" 515 (.ref 281),en P "__doc__" 516 .none],ce "NoLock" 38 283 282 [] 260 487 495,su 283,ii 283,wK,o9,dA P 5 526 m1 "NoLine" 68 [en P "word" 537 (.ref 299),en P "__static_attributes__" 538 (.ref 300)],b7 P,fi [70,4,298],cc "NoLine" 521 68 289 290 524,fr 291 288 "dialvault.errors" 194]++(fA P 293 531 "word" "NoLine.word" (mp 14 0) 70 1 ["self"] .none m1++([b7 P,dB P 2 526 m1 68 [en P "word" 537 (.ref 299),en P "__static_attributes__" 538 (.ref 300),en P "__doc__" 539 .none],ce "NoLine" 38 302 301 [] 286 519 527,su 302,ii 302]++(fT P 305 544 "is_whole" (tp 16) 73 1 ["thing"] m2++(fB P 312 551 "is_row" "is_row" (tp 17) 75 2 .none m2++(fT P 317 557 "common" (tp 18) 79 2 ["one","other","row","behind","times","rest"] m2++(fT P 324 569 "multiple_of" (tp 19) 90 1 ["numbers","multiple","number"] m2++([b7 P,o9,dA P 9 599 m3 "Vault" 102 [en P "__init__" 609 (.ref 343),en P "sizes" 616 (.ref 350),en P "levers" 623 (.ref 357),en P "prices" 630 (.ref 364),en P "around" 637 (.ref 371),en P "__static_attributes__" 642 (.ref 372)],b7 P,fi [104,4,342,112,4,349,115,4,356,118,4,363,121,4,370],cc "Vault" 594 102 334 335 597,fr 336 333 "dialvault.vault" 578,tu [.none]]++(fB P 339 604 "__init__" "Vault.__init__" (mp 27 0) 104 4 (.ref 338) m3++(fA P 344 610 "sizes" "Vault.sizes" (mp 27 1) 112 1 ["self"] .none m3++(fA P 351 617 "levers" "Vault.levers" (mp 27 2) 115 1 ["self"] .none m3++(fA P 358 624 "prices" "Vault.prices" (mp 27 3) 118 1 ["self"] .none m3++(fA P 365 631 "around" "Vault.around" (mp 27 4) 121 1 ["self"] .none m3++([tu [st "dial_sizes" 638,st "least_round" 639,st "lever_prices" 640,st "lever_settings" 641],dB P 4 599 m3 102 [en P "__init__" 609 (.ref 343),en P "sizes" 616 (.ref 350),en P "levers" 623 (.ref 357),en P "prices" 630 (.ref 364),en P "around" 637 (.ref 371),en P "__static_attributes__" 642 (.ref 372),en P "__dict__" 644 (.ref 375),en P "__weakref__" 646 (.ref 376),en P "__doc__" 647 .none],cl "Vault" [.type "object"] [.ref 374,.type "object"] 373 [] [none,none,some (st "Vault" 592),some (st "Vault" 600),some (.builtin "object.__new__"),some (.bool true)],GV,Hr,su 374,ii 374]++(fT P 379 650 "is_within" (tp 28) 123 3 ["thing","least","most"] m3++(fT P 386 659 "need_sizes" (tp 29) 125 1 ["sizes","dial","size"] m3++(fT P 393 668 "need_levers" (tp 30) 133 2 ["levers","dials","place","lever"] m3++(fT P 400 678 "prices_for" (tp 31) 139 2 ["levers","prices","place"] m3++(fB P 407 687 "rests" "rests" (tp 32) 148 2 .none m3++(fT P 412 695 "_law_cell" (tp 34) 151 2 ["_law_script","_law_k","_law_number_here"] m4++(fT P 419 704 "_law_mix" (tp 35) 158 2 ["_law_cell_here","_law_k","_law_number_here"] m4++(fT P 426 713 "_law_same" (tp 36) 162 2 ["_law_found","_law_due_here","_law_one","_law_other"] m4++(fT P 433 723 "_law_number" (tp 37) 177 2 ["_law_cell_here","_law_k","_law_number_here","_law_far"] m4++(fT P 440 733 "_law_odd" (tp 38) 185 3 ["_law_cell_here","_law_low","_law_high","_law_number_here"] m4++(fT P 447 743 "_law_put" (tp 39) 188 4 ["_law_things","_law_cell_here","_law_low","_law_high"] m4++(fB P 454 753 "_law_handed" "_law_handed" (tp 40) 191 1 .none m4++(fT P 459 759 "_law_whole" (tp 41) 211 3 ["_law_thing","_law_low","_law_high"] m4++(fB P 466 768 "_law_is_lever" "_law_is_lever" (tp 42) 213 2 .none m4)))))))))))))))))))))))))))))))
def L3 P:=pt (L2 P) [(3,di 56 (en P "__name__" 165 m4::gl P)),(12,fi [1,0,20,5,0,27,9,0,47,13,0,66,20,0,92,27,0,118,34,0,144,38,0,163,42,0,182,46,0,201,50,0,220,54,0,239,61,0,265,68,0,291,73,0,310,75,0,315,79,0,322,90,0,329,102,0,336,123,0,384,125,0,391,133,0,398,139,0,405,148,0,410,151,0,417,158,0,424,162,0,431,177,0,438,185,0,445,188,0,452,191,0,457,211,0,464,213,0,469,217,0,476,235,0,483,239,0,488,253,0,495,260,0,500,269,0,507,273,0,512,282,0,519])] (fT P 471 774 "_law_due" (tp 43) 217 3 ["_law_sizes","_law_levers","_law_prices","_law_k"] m4++(fT P 478 784 "_law_flags" (tp 44) 235 1 ["_law_e","_law_flags_here","_law_others"] m4++(fB P 485 793 "_law_refused" "_law_refused" (tp 45) 239 2 .none m4++(fT P 490 799 "_law_round" (tp 46) 253 1 ["_law_sizes","_law_found","_law_size","_law_step"] m4++(fB P 497 809 "_law_told" "_law_told" (tp 47) 260 4 .none m4++(fT P 502 815 "_law_row" (tp 48) 269 2 ["_law_row_here","_law_way"] m4++(fB P 509 823 "_law_copied" "_law_copied" (tp 49) 273 2 .none m4++(fT P 514 829 "law" (tp 50) 282 1 ["_law_script","_law_sizes","_law_levers","_law_prices","_law_way","_law_due_here","_law_handed_here","_law_vault","_law_thing"] m4))))))))
def LF(P:Params):=L3 P
def bE:List Stmt:=behindTheImports pw
def env:Env:={ scope:=pw.main.scope,locals:=mainNs,globals:=mainNs,cells:=[],code:=.ref 13,frame:=some 14 }
def cE:Code:=.body bE env
abbrev B:List Frame:=[topFrame ⟨0,0,0,0⟩]
abbrev ann:Option Value:=(some (.ref 6))
def Ea:List Stmt:=(bE.drop 0).take 7
def DC:List Stmt:=(bE.drop 7).take 6
def CF:List Stmt:=(bE.drop 13).take 30
def CL:List Stmt:=(bE.drop 43).take 8
end
def vQ:∀w:World,(λos=>topGo treeTable pw w 11 ann 12 ⟨boot_heap w.params,⟨[]⟩,boot_drawn,boot_toks,os⟩ (topStub pw))=λos=>some (F LA 187 w os,⟨denote treeTable cE,cE,⟨0,0,0,0⟩,B⟩):=λw=>by
 rw[PySem.W.Fast.te15667345088766844465,NH,PySem.W.Fast.te11892475500146522536]
 kernel_rfl
def IZ:∀w:World,(λos=>segRun treeTable pw w 11 ann 1 1 (F LA 187 w os) (blockOf bE env cE ⟨0,0,0,0⟩ B))=λos=>some (RT,(S LA 15 187 w os).abs,cE,⟨0,0,0,0⟩):=λw=>by
 rw[PySem.W.Fast.te14374325043358763698,NH]
 kernel_rfl
def JV:∀w:World,(λos=>segRunT treeTable pw w 11 ann 1 1326 (S LA 15 187 w os) (piecesOf Ea env cE ⟨0,0,0,0⟩ B))=λos=>some (RT,S L0 139 340 w os,cE,⟨27,0,33,16⟩):=λw=>by
 rw[Og,NH]
 kernel_rfl
def JB:∀w:World,(λos=>segRunT treeTable pw w 11 ann 1 1492 (S L0 139 340 w os) (piecesOf DC env cE ⟨27,0,33,16⟩ B))=λos=>some (RT,S L1 260 487 w os,cE,⟨54,0,60,17⟩):=λw=>by
 rw[Og,NH]
 kernel_rfl
def GG:∀w:World,(λos=>segRunT treeTable pw w 11 ann 1 1491 (S L1 260 487 w os) (piecesOf CF env cE ⟨54,0,60,17⟩ B))=λos=>some (RT,S L2 471 774 w os,cE,⟨213,0,216,129⟩):=λw=>by
 rw[Og,NH]
 kernel_rfl
def Jz:∀w:World,(λos=>segRunT treeTable pw w 11 ann 1 241 (S L2 471 774 w os) (piecesOf CL env cE ⟨213,0,216,129⟩ B))=λos=>some (RT,S L3 521 844 w os,cE,⟨282,0,297,70⟩):=λw=>by
 rw[Og,NH]
 kernel_rfl
def CY:∀w:World,(λos=>topRun treeTable pw w 11 ann 2 (S L3 521 844 w os).abs ⟨doneF .next,cE,⟨282,0,297,70⟩,B⟩)=λos=>some (F LF 844 w os):=λw=>by
 rw[PySem.W.Fast.te14082659384304107361,NH]
 kernel_rfl
def JS:bE=(Ea++(DC++(CF++(CL++[])))):=by kernel_rfl
def xN(w:World)(os:OsState):topRun treeTable pw w 11 ann (1326+(1492+(1491+(241+2)))) (S LA 15 187 w os).abs (restOf bE env cE ⟨0,0,0,0⟩ B)=some (F LF 844 w os):=by
 rw[show restOf bE env cE ⟨0,0,0,0⟩ B=restOf (Ea++(DC++(CF++(CL++[])))) env cE ⟨0,0,0,0⟩ B from congrArg (λb=>restOf b env cE ⟨0,0,0,0⟩ B) JS];exact piece_app (segRun_of (congrFun (JV w) os)) (piece_app (segRun_of (congrFun (JB w) os)) (piece_app (segRun_of (congrFun (GG w) os)) (piece_app (segRun_of (congrFun (Jz w) os)) (piece_nil (congrFun (CY w) os)))))
def HF(w:World)(os:OsState):topRun treeTable pw w 11 ann (12+(1+(1326+(1492+(1491+(241+2)))))) ⟨boot_heap w.params,⟨[]⟩,boot_drawn,boot_toks,os⟩ (topStub pw)=some (F LF 844 w os) :=
 go_top (congrFun (vQ w) os) (piece_block (congrFun (IZ w) os) (xN w os))
end HD
end
section
namespace HD
open PySem PySem.W L2
noncomputable section
def vw:Program:=PySem.W.view pw [0,2,3,4,5,6,7,8,9,10,11,12,13,14,16,17,18,19,21,22,23,24,25,26,27,28,29,30,31,32,34,35,36,37,38,39,40,41,42,43,44,45,46,47,48,49,50]
def loose:List Str:=[]
noncomputable def as:List Addr:=[2,3,15,17,18,20,21,22,29,31,32,34,35,36,37,38,39,42,49,51,52,54,55,56,57,58,61,68,70,71,73,74,75,77,78,80,81,82,83,84,87,94,96,97,99,100,101,103,104,106,107,108,109,110,113,120,122,123,125,126,127,129,130,132,133,134,135,136,139,146,148,149,151,152,153,154,155,158,165,167,168,170,171,172,173,174,177,184,186,187,189,190,191,192,193,196,203,205,206,208,209,210,211,212,215,222,224,225,227,228,229,230,231,234,241,243,244,246,247,248,250,251,253,254,255,256,257,260,267,269,270,272,273,274,276,277,279,280,281,282,283,286,293,295,296,298,299,300,301,302,305,307,308,310,311,312,315,316,317,319,320,322,323,324,326,327,329,330,338,339,342,343,344,346,347,349,350,351,353,354,356,357,358,360,361,363,364,365,367,368,370,371,372,373,374,375,376,379,381,382,384,385,386,388,389,391,392,393,395,396,398,399,400,402,403,405,406,407,410,411,412,414,415,417,418,419,421,422,424,425,426,428,429,431,432,433,435,436,438,439,440,442,443,445,446,447,449,450,452,453,454,457,458,459,461,462,464,465,466,469,470,471,473,474,476,477,478,480,481,483,484,485,488,489,490,492,493,495,496,497,500,501,502,504,505,507,508,509,512,513,514,516,517,519,520]
def K(P:Params):Frag:=as.map λa=>(a,(LF P).getD a (su 0))
def hook:Hook:=kHook K as (λ_=>by kernel_rfl)
abbrev rr:RowW:=(PySem.Challenge.rw_dialvault_k11_vaults_taken_and_refused.row).toRowW
def Xt:Shared->Bool:=λs=>xlAt vw [] s&&recOk (RowW.records rr) s
def H1(P:Params):Heap:=⟨⟨LF P⟩,{}⟩
end
def FC:∀w:World,((boot_heap w.params).isNs mainGlobals&&(Array.mk []:Array GenState).size==0,(boot_heap w.params).objs.size,(boot_heap w.params).nsMap mainGlobals "__annotations__")=(true,11,ann):=λw=>by
 rw[PySem.W.Fast.te8920871248978507458]
 kernel_rfl
def JR(w:World):staticsOk (importedModules pw.main.body) (boot_heap w.params) (H1 w.params)=true:=by
 first|(rw[Nu,Nv];kernel_rfl)|(rw[Nu];kernel_rfl)|(rw[Nv];kernel_rfl)|(kernel_rfl)
def JI(w:World):namesBound pw (H1 w.params)=true:=by
 first|(rw[Nu,Nv];kernel_rfl)|(rw[Nu];kernel_rfl)|(rw[Nv];kernel_rfl)|(kernel_rfl)
def JK(w:World)(os:_):gensDone ⟨H1 w.params,⟨[]⟩,⟨0,0,0,0⟩,844,os⟩=true:=by
 first|(rw[Nu,Nv];kernel_rfl)|(rw[Nu];kernel_rfl)|(rw[Nv];kernel_rfl)|(kernel_rfl)
def JF(w:World):laidKept (boot_heap w.params) (H1 w.params)=true:=by
 first|(rw[Nu,Nv];kernel_rfl)|(rw[Nu];kernel_rfl)|(rw[Nv];kernel_rfl)|(kernel_rfl)
def JQ(w:World)(os:_):openSeen vw loose (importedModules pw.main.body) Xt true ⟨H1 w.params,⟨[]⟩,⟨0,0,0,0⟩,844,os⟩=openGood vw loose:=by
 first|(rw[Nu,Nv];kernel_rfl)|(rw[Nu];kernel_rfl)|(rw[Nv];kernel_rfl)|(kernel_rfl)
def JM(w:World)(os:_):Hook.obs hook ⟨H1 w.params,⟨[]⟩,⟨0,0,0,0⟩,844,os⟩=Hook.val hook w:=by
 first|(rw[Nu,Nv];kernel_rfl)|(rw[Nu];kernel_rfl)|(rw[Nv];kernel_rfl)|(kernel_rfl)
def Dv:∀w:World,(λos=>((staticsOk (importedModules pw.main.body) (boot_heap w.params) (H1 w.params)&&namesBound pw (H1 w.params)&&gensDone ⟨H1 w.params,⟨[]⟩,⟨0,0,0,0⟩,844,os⟩&&laidKept (boot_heap w.params) (H1 w.params)),openSeen vw loose (importedModules pw.main.body) Xt true ⟨H1 w.params,⟨[]⟩,⟨0,0,0,0⟩,844,os⟩,Hook.obs hook ⟨H1 w.params,⟨[]⟩,⟨0,0,0,0⟩,844,os⟩))=λ_=>(true,openGood vw loose,Hook.val hook w):=λw=>funext λos=>by
 rw[JR,JI,JK,JF,JQ,JM];rfl
def EL:LeftO pw vw loose Xt (Hook.obs hook) (Hook.val hook) 9218 :=
 LeftO.of_pieces (H₀:=boot_heap) (H₁:=H1) (gs₀:=⟨[]⟩) (gs₁:=⟨[]⟩) (d₀:=boot_drawn) (d₁:=⟨0,0,0,0⟩) (k₀:=boot_toks) (k₁:=844) (m₀:=11) (ann:=ann) (M:=(12+(1+(1326+(1492+(1491+(241+2)))))))
  (boot_open ↑10 ↑10 (λs=>by kernel_rfl)) FC HF ↑10 Dv
end HD
end
section
open PySem PySem.W
def HD.said:PySem.Challenge.rw_dialvault_k11_vaults_taken_and_refused.wellSaid=true:=by
 decide +kernel
end
namespace L2
open PySem PySem.Spec PyProof.Rows
variable{X:Cx}
variable{n:Nat}
def xh(_ j:Int):Prop:=j≠0/\j.natAbs.log2<9000
def yr:fm X (binaryOp .FloorDiv) (rI xh λi j=>.int (i.fdiv j)):=Gv λ_ _ _ _ _ _ _ hc q=>floordiv_int hc.1 q (.inl (PyProof.noPylong_of_log2 hc.2))
def Aw:fm X (binaryOp .Mult) (rI (λi j=>IntMulOk i j) λi j=>.int (i*j)):=Gv λ_ _ _ _ _ _ _ hc q=>mul_int q hc
def zE{a b:Int}{m:Nat}(ha:a.natAbs<2^m)(hb:b.natAbs<2^n)(h:m+n<=134217728):IntMulOk a b:=IntMulOk.of_le (intBits_le_iff.mpr ha) (intBits_le_iff.mpr hb) h
def iY:bootBuiltins "isinstance"=some (.builtin "isinstance"):=by decide +kernel
def l_:bootBuiltins "int"=some (.type "int"):=by decide +kernel
def lU:bootBuiltins "bool"=some (.type "bool"):=by decide +kernel
def gW:bootBuiltins "tuple"=some (.type "tuple"):=by decide +kernel
def e_:bootBuiltins "list"=some (.type "list"):=by decide +kernel
def uu:bootBuiltins "str"=some (.type "str"):=by decide +kernel
def FK(K:Nb):List V->Hp->VK->Prop:=λxs H Q=>∃x T t b,xs=[x,.ty T]/\gm K H x t/\Ng K t (.type T)=some b/\Q (.bl b) H
def Hf(K:Nb):List V->Hp->VK->Prop:=λxs H Q=>∃x C t b,xs=[x,.ref C]/\gm K H x t/\Ng K t (.ref C)=some b/\Q (.bl b) H
def m7:bX X (.builtin "isinstance") (FK X.K):=by
 intro JX s σ H xs us Q I r h;obtain⟨x,T,t,b,rfl,ty,e,q⟩:=h;cases r with
 | cons r1 r2 =>
  cases r2 with
  | cons r3 r4 =>
   cases r4;cases (show _=Ov T from r3);exact oR I r1 ty e λtk=>⟨.bl b,H,I.tok tk,rfl,q⟩
def xZ:bX X (.builtin "isinstance") (Hf X.K):=by
 intro JX s σ H xs us Q I r h;obtain⟨x,C,t,b,rfl,ty,e,q⟩:=h;cases r with
 | cons r1 r2 =>
  cases r2 with
  | cons r3 r4 =>
   cases r4;cases (show _=Nj C from r3);exact oR I r1 ty e λtk=>⟨.bl b,H,I.tok tk,rfl,q⟩
section
variable(K:Nb)
end
variable{o:HO}{a:Addr}{ch:List Addr}{t':Nat}{h':Heap}{s:Shared}{H:Hp}{σ:St}{JX:List (Addr×Obj)}
variable{x1:Nat}{elts:List Expr}{w:World}{P:Program}
def Inv.kN(I:Inv X JX σ H s)(k:∀b u,b ∉ ch->s.heap.get? b=some u->h'.get? b=some u)(Lh:∀b∈ch,kb X JX H b)(hp:s.heap.objs.size<=a)(hl:∀b∈ch,∃u,s.heap.get? b=some u)(new:bz X.prog X.w (upd H a o) h' a o):Inv X JX σ (upd H a o) { s with heap:=h',toks:=t' }:=by
 have ne:∀b u,s.heap.get? b=some u->b≠a:=λb u e=>Ny (Nr (Nk e) hp);have LZ:H a=none:=I.bo.fresh hp;have L7:∀b u,H b=some u->b ∉ ch:=λb u e z=>by rw[(Lh b z).1] at e;cases e
 have L6:∀b u,H b=some u->b≠a:=λb u e z=>by rw[z,LZ] at e;cases e
 refine I.step (g':=s.gens) (d':=s.drawn) (ch:=ch) (λb hb=>?_) (λb u _ _ hc e _=>k b u hc e) (λb u _ _ hc e _=>⟨u.slots,k b u hc e⟩)
  (λb u _ e n=>by rwa[aq (ne b u e)]) (λb u hc e=>⟨u,k b u hc e⟩)
  (λb xs e=>by rwa[aq (L6 b _ e)]) (λb ob u e=>by rwa[aq (L6 b _ e)]) (λb ps e=>⟨#[],by rw[aq (L6 b _ e),e];simp⟩) (λm hm=>?_) (λb u e=>?_) I.bare
 .obtain⟨_,f1,_,f3,f4,f5⟩:=Lh b hb;exact⟨f3,f1,f4,f5⟩
 .obtain⟨ob,es,ep,ho,r⟩:=hm;exact⟨ob,es,ep,k _ ob (λz=>(Lh _ z).2.1 rfl) ho,r⟩
 .by_cases z:b=a
  .subst z;rw[av] at e;cases e;exact new
  .rw[aq z] at e;refine(I.bo b u e).jd (λc v hc q=>k c v ?_ q) (λc q=>?_) λc ys q=>?_
   .rcases hc with z'|z'
    .rw[z'];exact L7 b u e
    .exact L7 c _ z'
   .rw[aq (L6 c _ q)];exact q
   .rw[aq (L6 c _ q)];exact q
def CV (K : Nb)(a : Addr) : It :=
  ⟨λi H => ∃xs x,fj K H a xs /\ xs[i]? = some x,
   λi H y H' => ∃p x,H p=none /\ y=.ref p /\ H'=upd H p (.tup [.int i,x]) /\ ∀xs,fj K H a xs -> xs[i]? = some x,
   λi H => ∃xs,fj K H a xs /\ xs.length <= i⟩
theorem wI{K:Nb}{tp:Pos}(a e it:Addr)(LP:e≠it):Turn P w K (.Tuple elts x1 tp) (CV K a) [e,it] e (λi h=>(∃old,IsEnum h e it i old)/\h.IsListIter it a i) where
 mem:=by simp
 obj:=λi h st b hb=>by
  obtain⟨⟨old,he⟩,⟨o,e1,c,d⟩⟩:=st;rcases NB.mp hb with z|z
  .subst z;exact⟨_,he,λv z=>by cases z⟩
  .have z':b=it:=by simpa using z
   subst z';exact⟨o,e1,λv z=>by rw[d] at z;cases z⟩
 keep:=λi h h' st k=>by
  obtain⟨⟨old,he⟩,hit⟩:=st;exact⟨⟨old,k e ↑13 _ he⟩,hit.at λo x=>k it ↑13 o x⟩
 item:=by
  intro X hP hw hK hc i JX s σ H E I hf st hg;subst hP hw hK;obtain⟨xs,x,hq,hx⟩:=hg;obtain⟨J2,rv,p,hz⟩:=I.list hq;obtain⟨u,hu,ru⟩:=rv.get hx;obtain⟨⟨old,he⟩,hit⟩:=st;have LX:e<s.heap.objs.size:=Nk he;have Mn:it<s.heap.objs.size:=by obtain⟨_,z,_⟩:=hit;exact Nk z
  refine wpAny_pyNext_enum_item he hit p.isList (x:=u) (by simpa using hu) LP λh' ho Mo hT La hk=>⟨_,rfl,?_⟩
  refine Q2 (s:={ s with heap:=h',toks:=s.toks+1 }) ho λh2 he2 KQ=>?_;have L5:∀b o,b ∉ [e,it]->s.heap.get? b=some o->h2.get? b=some o:=λb o hb q=>by
   have n1:b≠e:=λz=>hb (by simp[z]);have n2:b≠it:=λz=>hb (by simp[z]);exact(KQ.2 b n1).trans (hk b o n1 n2 q)
  have Mb:h2.get? s.heap.objs.size=some { cls:=.type "tuple",data:=.seq #[.int i s.toks,u] }:=(KQ.2 _ (O_ LX)).trans hT;have I2:Inv X JX σ (upd H s.heap.objs.size (.tup [.int i,x])) { s with heap:=h2,toks:=s.toks+1 } :=
   I.kN (ch:=[e,it]) L5 hf (Np _) (λb hb=>by
    rcases NB.mp hb with z|z
    .subst z;exact⟨_,he⟩
    .have z':b=it:=by simpa using z
     subst z';obtain⟨o,z,_⟩:=hit;exact⟨o,z⟩)
    ⟨by show 2<=sizeLine;decide,[.int i s.toks,u],.cons ⟨_,rfl⟩ (.cons ru .nil),⟨_,Mb,rfl,_,rfl⟩⟩
  have K4:H s.heap.objs.size=none:=I.bo.fresh (Np _);refine⟨.ref s.heap.objs.size,_,I2,rfl,⟨_,x,K4,rfl,rfl,λys hy=>by rwa[I.mz hy hq]⟩,⟨⟨u,by simpa using he2⟩,Mo.at λo z=>(KQ.2 it (OL LP)).trans z⟩,λb hb=>?_⟩;have nb:b≠s.heap.objs.size:=by
   rcases NB.mp hb with z|z
   .rw[z];exact Ny LX
   .have z':b=it:=by simpa using z
    rw[z'];exact Ny Mn
  rw[aq nb];exact(hf b hb).1
 done:=by
  intro X hP hw hK hc i JX s σ H E I hf st hg;subst hP hw hK;obtain⟨xs,hq,hx⟩:=hg;obtain⟨J2,rv,p,hz⟩:=I.list hq;have hl:=rv.length;obtain⟨⟨old,he⟩,hit⟩:=st;obtain⟨f0,f1,f2,f3,f4,f5⟩:=hf it ↑13;exact wpAny_pyNext_enum_end (I.ok.hd hc) he hit p.isList (by simp;lia) λh' eb=>⟨rfl,I.turned (t':=s.toks) (λb o hb e=>eb b o hb e) f0 f1 f3 f4 f5⟩
 self:=λ_ _ _ _ _ st h=>by
  obtain⟨⟨old,he⟩,_⟩:=st;exact Qa he h
variable{A:Around}{prog:Program}
variable{pos:Pos}{scope:Scope}{ifs:List Expr}{elt iter:Expr}
section
variable{R:Result->Shared->Prop}
def wa{target:Expr}{it acc:Value}{env:Env}(I:Nat->Shared->Prop)
  (turn:∀n s,I n s->wpAny ↑11 A (pyNext it) (λr s₁=>match r with
   | none=>R (.ok .next) s₁
   | some v=>wpAny ↑11 A (letOwnedTupleGo target it v) (λ_ s₂=>wpAny ↑11 A (assign target env v) (λ_ s₃ =>
     wpAny ↑11 A (forIn ifs true λc r=>if r=true then do let ok <- isTrue c env (eval c env);pure (Tn ok) else pure (Tn r)) (λok s₄ =>
      if ok=true then wpAny ↑11 A (eval elt env) (λx s₅ =>
       wpAny ↑11 A (call (.builtin "list.append") [acc,x]) (λ_ s₆=>∃m,m<n/\I m s₆) (λ_ _=>False) s₅) (λ_ _=>False) s₄
      else ∃m,m<n/\I m s₄) (λ_ _=>False) s₃) (λ_ _=>False) s₂) (λ_ _=>False) s₁) (λ_ _=>False) s)
  (n:Nat) (h:I n s) :
  codeAny ↑11 A (.compLoop (.ListComp elt [⟨target,iter,ifs,0⟩] scope pos) 0 it acc env) R s:=by
 refine codeAny_loop rfl I (λn s hI=>?_) n h;show wpAny _ A ((compTurn (.ListComp elt [⟨target,iter,ifs,0⟩] scope pos) 0 it acc env).onRaise (λx=>do noteFrame x env;theTreesLotGoes x)) _ _ s;refine wpAny_noted ?_;rw[compTurn_list];refine Na (Pw (Na (Ow (turn n s hI) (λr s₁ h₁=>?_) λ_ _ h'=>h'.elim)));cases r with
 | none=>exact Nh h₁
 | some v =>
  refine Na (Ow h₁ (λ_ s₂ h₂=>Na (Ow h₂ (λ_ s₃ h₃=>Na (Ow h₃ (λok s₄ h₄=>?_) λ_ _ h'=>h'.elim)) λ_ _ h'=>h'.elim)) λ_ _ h'=>h'.elim);cases ok with
  | false=>exact Nh ⟨rfl,h₄⟩
  | true =>
   exact Na (Na (Ow h₄ (λx s₅ h₅=>Na (Ow h₅ (λ_ s₆ h₆=>Nh (Nh ⟨rfl,h₆⟩)) λ_ _ h'=>h'.elim)) λ_ _ h'=>h'.elim))
end
def lQ(X:Cx)(scope:Scope)(cl:List (Str×Addr))(N:List Str)(C:Addr)(s₀:Shared)(H₀:Hp)(ex:List Addr)(JX:List (Addr×Obj)):Cx :=
 { X with N:=N,s₀:=s₀,H₀:=H₀,env:=compEnvC scope cl C X.env,outer:=X.stack,stack:=X.stack,ex:=ex,fn:=λ_=>false,pn:=X.pn++JX,xe:=λ_ _=>False }
inductive fI (X:Cx) (sc:Scope) (cl:List (Str×Addr)):List Str->List Nat->Prop where
 | nil:fI X sc cl [] []
 |cons {x:Str} {j:Nat} {c:Addr} {fs:List Str} {js:List Nat} (hN:X.N[j]?=some x) (hf:sc.names.lookup x=some .free) (hv:X.env.kindOf x=some .cell\/X.env.kindOf x=some .free) (hc:X.env.cells.lookup x=some c) (hl:cl.lookup x=some c) (r:fI X sc cl fs js):fI X sc cl (x::fs) (j::js)
inductive cX (X:Cx):List (Str×Addr)->Prop where
 | nil:cX X []
 |cons {x:Str} {c:Addr} {r:List (Str×Addr)} (h:X.env.cells.lookup x=some c) (t:cX X r):cX X ((x,c)::r)
theorem cX.at{X:Cx}:∀{cl:List (Str×Addr)},cX X cl->∀x c,cl.lookup x=some c->X.env.cells.lookup x=some c
 | _,.nil,_,_,e=>by simp at e
 | _,.cons (x:=y) (c:=d) h t,x,c,e=>by
  rw[Oa] at e;cases q:x==y with
  | true =>
   rw[q] at e;have e':d=c:=Nx e;have q':x=y:=by simpa using q
   rwa[q',<- e']
  | false =>
   rw[q] at e;exact cX.at t x c e
def fc(cl:List (Str×Addr))(names:List (Str×NameKind)):Bool:=names.all λy=>y.2 != .free||(cl.lookup y.1).isSome
def dM(names:List (Str×NameKind)):Bool:=names.all λy=>y.2 != .cell
def e8(names:List (Str×NameKind)):Bool:=names.all λy=>y.2 != .local||(names.lookup y.1==some .local)
def eD(ts:List Str)(js:List Nat)(σ:St):St:=ts.map (λ_=>none)++js.map λj=>(σ[j]?).join
def yj(wi:TI)(g:TG)(tt:Option TT)(te:TE)(ts:List Str)(js:List Nat):TE:=fun σ H Q=>wi σ H λJ H1=>∀D,H1 D=none ->
 ∃ W:Nat->Nat->St->Hp->Prop,(∃m,W 0 m (eD ts js σ) (upd H1 D (.lst [])))/\∀i m σ' H',W i m σ' H' ->
  (J.stop i H'/\Q (.ref D) H')\/(J.go i H'/\∃N:St->Hp->Prop,(∀σ'' H'',N σ'' H''->∃m',m'<m/\W (i+1) m' σ'' H'') ∧
   ∀ x H2,J.t5 i H' x H2->g x σ' H2 fun σ2 H3=>match tt with
    | none=>te σ2 H3 λy H4=>∃ys,H4 D=some (.lst ys)/\ys.length<sizeLine/\N σ2 (upd H4 D (.lst (ys++[y])))
    |some t=>t σ2 H3 λb MG=>if b=true then te σ2 MG λy H4=>∃ys,H4 D=some (.lst ys)/\ys.length<sizeLine/\N σ2 (upd H4 D (.lst (ys++[y]))) else N σ2 MG)
variable{x:Str}{C:Addr}
def mM {cl : List (Str × Addr)}{env : Env}(h : (compEnvC scope cl C env).kindOf x=some .cell \/ (compEnvC scope cl C env).kindOf x=some .free)(nc : dM scope.names=true) : scope.names.lookup x=some .free := by
  have key : ∀(names : List (Str × NameKind)),dM names=true ->
      ((names.map λ(n,k) => if (k == Qo && env.scope.kind == .function && env.kindOf n == some .cell) then (n,R0) else (n,k)).lookup x=some .cell ∨
       (names.map λ(n,k) => if (k == Qo && env.scope.kind == .function && env.kindOf n == some .cell) then (n,R0) else (n,k)).lookup x=some .free) -> names.lookup x=some .free := by
    intro names
    induction names with
    | nil => intro _ h; simp at h
    | cons p r ih =>
      obtain ⟨n,k⟩ := p;intro nc h;have nc' : (k != .cell)=true /\ dM r=true := by
        unfold dM at nc;rw [TQ,Oo] at nc;exact nc
      rw [NJ] at h;dsimp only at h
      by_cases hc : (k == Qo && env.scope.kind == .function && env.kindOf n == some .cell)=true
      . rw [if_pos hc] at h;rw [Oa] at h ⊢;cases q : x == n with
        | true =>
          have : k=.free := by
            rw [Oo,Oo] at hc;simpa using hc.1.1
          rw [this]
        | false =>
          rw [q] at h;exact ih nc'.2 h
      . rw [if_neg hc] at h;rw [Oa] at h ⊢;cases q : x == n with
        | true =>
          rw [q] at h;have nk : k ≠ .cell := by simpa using nc'.1
          rcases h with h|h
          . exact absurd (Nx h) nk
          . exact h
        | false =>
          rw [q] at h;exact ih nc'.2 h
  exact key scope.names nc h
variable{js:List Nat}{ts:List Str}{te:TE}{tt:Option TT}{J7:Pos}{tg:Expr}
theorem sC{cl:List (Str×Addr)}{wi:TI}{g:TG}{fs:List Str}(J3:X.calm=true)(Ka:closureFor scope X.env=pure cl)(hk:scope.kind=.function)(nc:dM scope.names=true)(lo:e8 scope.names=true)(fh:fc cl scope.names=true)(ag:cX X cl)(fr:fI X scope cl fs js)(hi:PI X tg iter wi)(hg:∀C s₀ H₀ ex JX,PG (lQ X scope cl (ts++fs) C s₀ H₀ ex JX) tg g)(ht:∀C s₀ H₀ ex JX,match ifs,tt with|[],none=>True|[c],some t=>PT (lQ X scope cl (ts++fs) C s₀ H₀ ex JX) c t|_,_=>False)(he:∀C s₀ H₀ ex JX,PE (lQ X scope cl (ts++fs) C s₀ H₀ ex JX) elt te)(hs:∀x,foldedSetIterable iter X.env x=pure x){Q:VK}(I:Inv X JX σ H s)(h:yj wi g tt te ts js σ H Q)(use:Option (Value->Sem Unit))(Qv:Value->Shared->Prop)(CY:∀(D:Addr)(H':Hp)(s':Shared)(C:Addr),Inv X JX σ H' s'->Q (.ref D) H'->(∃m,s'.heap.Ns C m)->kb X JX H' C->compPost ↑8 X.A X.xe use Qv (.ref D) C (.ok .next) s'):wpAny ↑8 X.A (comprehension (.ListComp elt [⟨tg,iter,ifs,0⟩] scope pos) scope X.env J7 (newList []) false (eval iter X.env) use) Qv X.xe s:=by
 have LG:∀y∈scope.names,y.2≠.cell:=λy hy=>by
  have:=Ob.mp nc y hy;simpa using this
 have Mp:∀y∈scope.names,y.2=.local->scope.names.lookup y.1=some .local:=λy hy hl=>by
  have:=Ob.mp lo y hy;rw[hl] at this;simpa using this
 refine wpAny_comprehension_free (use:=use) rfl hs Ka hk Mp (cn (hi JX s σ H _ I h) λv s1 h1=>cn h1 λitv s2 h2=>?_);obtain⟨it,fp,tn,J,H1,e,I2,T,L9,f2,hJ⟩:=h2;subst e;refine Oz (wpAny_newFunctionEnv LG (by intro y hy;simp at hy) (λh₁ hns1 hsb1=>?_) hk);dsimp only at hns1 hsb1 ⊢;generalize hH2:s2.heap.push { cls:=.type "list",dict:=none,data:=.seq ([]:List Value).toArray }=G at hns1 hsb1 ⊢;have hC:G.objs.size=s2.heap.objs.size+1:=by rw[<- hH2,N4]
 have old:∀b o,s2.heap.get? b=some o->h₁.get? b=some o:=λb o e=>by
  have hb:=Nk e;refine hsb1.extBut b o (Ny (Nr hb (PX (by rw[hC];exact Om _)))) (Nc _ ?_);rw[<- hH2];exact Nc _ e
 have hacc:h₁.get? s2.heap.objs.size=some { cls:=.type "list",dict:=none,data:=.seq #[] }:=by
  refine hsb1.extBut _ _ (Ny (by rw[hC];exact Om _)) (Nc _ ?_);rw[<- hH2];exact Nq _ rfl
 have nD:H1 s2.heap.objs.size=none:=I2.bo.fresh (Np _);have nC:H1 G.objs.size=none:=I2.bo.fresh ⋯;obtain⟨W,⟨m0,w0⟩,turn⟩:=hJ _ nD;have MR:∀b∈fp,b<s2.heap.objs.size:=λb hb=>by
  obtain⟨o,e,_⟩:=T.obj _ _ L9 b hb;exact Nk e
 have ltk:∀(x:Str)(c:Addr),cl.lookup x=some c->c<s2.heap.objs.size/\H1 c=none/\(∃v,s2.heap.IsCell c v):=λx c e=>by
  have e':=ag.at x c e;obtain⟨v,q⟩:=I2.cell x c e';exact⟨q.lt,I2.eQ x c e',v,q⟩
 let X':=lQ X scope cl (ts++fs) G.objs.size s2 H1 fp JX
 have okX:X'.Ok:=by
  refine⟨I2.ok.mod,hk,I2.ok.glob,I2.ok.blt,by show s2.heap.objs.size<=G.objs.size;lia,λx y c e1 e2=>I2.ok.inj x y c (ag.at x c e1) (ag.at y c e2),λx hx=>?_,λx c hf _=>(nomatch (show (false:Bool)=true from hf)),I2.ok.hd,I2.ok.frames,.inl rfl,λb hb=>⟨?_,λx c e z=>?_⟩,λb o e=>I2.bs b o e,NZ I2.ok.yM I2.sz,λb o e hb=>?_,λb hb hz=>?_,I2.stack,λb hb=>I2.p5 b hb⟩
  .have LH:=mM (env:=X.env) hx nc;have hm:∃y∈scope.names,y.1=x/\y.2=.free:=by
    have:∀(l:List (Str×NameKind)),l.lookup x=some .free->∃y∈l,y.1=x/\y.2=.free:=by
     intro l
     induction l with
     | nil=>intro h;simp at h
     | cons p r ih =>
      intro h;rw[Oa] at h;cases q:x==p.1 with
      | true =>
       rw[q] at h;exact⟨p,Nt,(by simpa using q:x=p.1).symm,Nx h⟩
      | false =>
       rw[q] at h;obtain⟨y,hy,r1,r2⟩:=ih h;exact⟨y,Nl _ hy,r1,r2⟩
    exact this _ LH
   obtain⟨y,hy,r1,r2⟩:=hm;have:=Ob.mp fh y hy;rw[r2] at this;have h':(cl.lookup y.1).isSome=true:=by simpa using this
   rw[r1] at h';exact Px.mp h'
  .exact Ny (Nr (MR b hb) (by show s2.heap.objs.size<=G.objs.size;lia))
  .exact(f2 b hb).2.2.2.2.1 x c (ag.at x c e) z
  .obtain⟨_,_,_,f3,_,_⟩:=f2 b hb;rcases f3 with z|z
   .exact I2.ok.qE b o e z
   .exact absurd (Nr (Nk (I2.ok.bs b o e).1) z) (OF _)
  .rcases NB.mp (I2.pj b hz) with z|z
   .exact(f2 b hb).2.1 z
   .exact(f2 b hb).2.2.1 z
 have keepB:∀b o,s2.heap.get? b=some o->h₁.get? b=some o:=old;have I3:Inv X' [] (eD ts js σ) (upd H1 s2.heap.objs.size (.lst [])) { s2 with heap:=h₁,toks:=s2.toks+([]:List (Str×Value)).length }:=by
  have neD:∀b o,s2.heap.get? b=some o->b≠s2.heap.objs.size:=λb o e=>Ny (Nk e);refine⟨okX,rfl,I2.bare,⟨λb o e n hb hx=>old b o e,λb o e n hb hx=>⟨o.slots,old b o e⟩,λb o e n hx=>by rwa[aq (neD b o e)],λb o e hx=>⟨o,old b o e⟩,λb xs e=>?_,λb o u e=>?_,λb ps e=>?_⟩,⟨_,hns1,λi x v e1 e2 e3=>?_⟩,λx c e=>?_,?_,λx c e=>?_,λp hp=>?_,?_,?_⟩
  .rw[aq (bB e nD)];exact e
  .rw[aq (bB e nD)];exact e
  .exact⟨#[],by rw[aq (bB e nD)];exact NL e ↑13⟩
  .
   have hlen:(ts.map (λ_=>(none:Option V))).length=ts.length:=Nm _;unfold eD at e2
   by_cases KJ:i<ts.length
   .rw[OC (by rwa[hlen]),NP] at e2;cases q:ts[i]?<;>rw[q] at e2<;>cases e2
   .rw[N8 (by rw[hlen];lia),hlen] at e2;have e1':fs[i-ts.length]?=some x:=by
     have e1':(ts++fs)[i]?=some x:=e1;rw[N8 ⋯] at e1';exact e1'
    have all:∀{fs:List Str}{js:List Nat},fI X scope cl fs js->∀k:Nat,fs[k]?=some x->(js.map λj=>(σ[j]?).join)[k]?=some (some v) ->
      ∃(j:Nat)(c:Addr),X.N[j]?=some x/\σ[j]?=some (some v)/\(X.env.kindOf x=some .cell\/X.env.kindOf x=some .free)/\X.env.cells.lookup x=some c/\cl.lookup x=some c/\scope.names.lookup x=some .free:=by
     intro fs js r
     induction r with
     | nil=>intro k e;simp at e
     | @cons y j c fs js hN hf hv hc hl r ih =>
      intro k e e';cases k with
      | zero =>
       have e0:y=x:=by simpa using e
       subst e0;have MJ:(σ[j]?).join=some v:=by simpa using e'
       refine⟨j,c,hN,?_,hv,hc,hl,hf⟩;cases q:σ[j]? with
       | none=>rw[q] at MJ;cases MJ
       | some z=>rw[q] at MJ;cases z with
        | none=>cases MJ
        | some z =>
         have:z=v:=by simpa using MJ
         rw[this]
      | succ k=>exact ih k (by simpa using e) (by simpa using e')
    obtain⟨j,c,q1,q2,q3,q4,q5,q6⟩:=all fr (i-ts.length) e1' e2;obtain⟨m,hn,hl⟩:=I2.loc;have vis:vI X.env.scope x:=by
     rcases q3 with z|z
     .exact .inr (.inl z)
     .exact .inr (.inr z)
    obtain⟨u,ru,lk⟩:=hl j x v q1 q2 vis;refine⟨u,ru,.inr ⟨?_,c,q5,?_⟩⟩
    .rcases e3 with z|z|z
     .exfalso;have key:∀(l:List (Str×NameKind)),(l.map λ(n,k)=>if (k==Qo&&X.env.scope.kind==.function&&X.env.kindOf n==some .cell) then (n,R0) else (n,k)).lookup x=some .local->l.lookup x=some .local:=by
       intro l
       induction l with
       | nil=>intro h;simp at h
       | cons p r ih =>
        obtain⟨n,k⟩:=p;intro h;rw[NJ] at h;dsimp only at h
        by_cases hc:(k==Qo&&X.env.scope.kind==.function&&X.env.kindOf n==some .cell)=true
        .rw[if_pos hc] at h;rw[Oa] at h ⊢;cases q:x==n with
         | true=>rw[q] at h;cases h
         | false=>rw[q] at h;exact ih h
        .rw[if_neg hc] at h;rw[Oa] at h ⊢;cases q:x==n with
         | true=>rwa[q] at h
         | false=>rw[q] at h;exact ih h
      have:=key _ z;rw[q6] at this;cases this
     .exact .inl z
     .exact .inr z
    .rcases lk with ⟨k,_⟩|⟨_,c',e4,z⟩
     .rcases q3 with z|z<;>rw[z] at k<;>cases k
     .rw[q4] at e4;cases e4;obtain⟨o,ho,hd⟩:=z;exact⟨o,old c o ho,hd⟩
  .obtain⟨_,_,v,o,ho,hd⟩:=ltk x c e;exact⟨v,o,old c o ho,hd⟩
  .show upd H1 s2.heap.objs.size (.lst []) G.objs.size=none;rwa[aq (O_ (by rw[hC];exact Om _))]
  .obtain⟨q1,q2,_⟩:=ltk x c e;rwa[aq (Ny q1)]
  .have Mj:p∈X.pn++JX:=by
    have:p∈(X.pn++JX)++[]:=hp
    rwa [NX] at this
   obtain⟨e,n,ne,nf,d⟩:=I2.pin p Mj;have KJ:=Nk e;refine⟨old _ _ e,by rwa[aq (Ny KJ)],?_,λhz=>?_,d⟩
   .show p.1≠G.objs.size;exact Ny (Nat.lt_trans KJ (by rw[hC];exact Om _))
   .rcases NB.mp (I2.pj _ hz) with z|z
    .exact ne z
    .exact nf z
  .exact I2.bo.laid old (Np _) ⟨NT _,[],0,.nil,hacc⟩
  .show (eD ts js σ).length=(ts++fs).length;have frl:∀{fs:List Str}{js:List Nat},fI X scope cl fs js->fs.length=js.length:=by
    intro fs js r
    induction r with
    | nil=>rfl
    | cons _ _ _ _ _ _ ih=>rw[N_,N_,ih]
   unfold eD;rw[NG,NG,Nm,Nm,frl fr]
 have LB:∀{H':Hp},(∀b∈fp,H' b=none)->∀b∈fp,kb X' [] H' b:=λ{H'} hn b hb=>by
  obtain⟨_,f1,f3,_,f4,f5⟩:=f2 b hb;refine⟨hn b hb,okX.EE b hb |>.1,okX.rM b hb,.inl hb,λx c e=>f4 x c (ag.at x c e),λp hp=>f5 p ?_⟩;have:p∈(X.pn++JX)++[]:=hp
  rwa [NX] at this
 have fin:∀{σ':St}{H':Hp}{s':Shared},Inv X' [] σ' H' s'->Q (.ref s2.heap.objs.size) H' ->
   compPost ↑8 X.A X.xe use Qv (.ref s2.heap.objs.size) G.objs.size (.ok .next) s':=by
  intro σ' H' s' I4 q;obtain⟨m,hn,_⟩:=I4.loc;have fC:H' G.objs.size=none:=I4.free;have Io:Inv X JX σ H' s':=by
   refine I2.xo (s':=s') (ch:=fp) I4.os ⟨λb o e n hb hx=>?_,λb o e n hb hx=>?_,λb o e n hx=>I4.base.free b o e n hx,λb o e hx=>?_,I4.base.lJ,I4.base.iH,I4.base.lF⟩ I4.bo I4.bare λb hb=>?_
   .exact I4.base.keep b o e n hb hx
   .exact I4.base.slot b o e n hb hx
   .exact I4.base.there b o e hx
   .obtain⟨_,f1,_,f3,f4,f5⟩:=f2 b hb;exact⟨f3,f1,f4,f5⟩
  have hCl:s2.heap.objs.size<=G.objs.size:=by rw[hC];exact Qx _
  exact CY _ H' s' _ Io q ⟨m,hn⟩ (I2.sD hCl fC)
 have loop:∀s3:Shared,s3={ s2 with heap:=h₁,toks:=s2.toks+([]:List (Str×Value)).length } ->
   codeAny ↑8 X.A (.compLoop (.ListComp elt [⟨tg,iter,ifs,0⟩] scope pos) 0 (.ref it) (.ref s2.heap.objs.size) (compEnvC scope cl G.objs.size X.env))
    (compPost ↑8 X.A X.xe use Qv (.ref s2.heap.objs.size) G.objs.size) s3:=by
  rintro s3 rfl;refine wa (λn s'=>∃i σ' H',Inv X' [] σ' H' s'/\tn i s'.heap/\(∀b∈fp,H' b=none)/\W i n σ' H') ?_ m0 ⟨0,_,_,I3,T.keep _ _ _ L9 λb _ o e=>old b o e,λb hb=>?_,w0⟩
  .rintro n s3 ⟨i,σ3,H3,I3,ME,fr3,w3⟩;rcases turn i n σ3 H3 w3 with ⟨stop,qn⟩|⟨go,N,hN,step⟩
   .refine cn (T.done X' rfl rfl rfl J3 i [] s3 σ3 H3 _ I3 (LB fr3) ME stop) λr s4 ⟨hr,I4⟩=>?_;subst hr;exact fin I4 qn
   .refine cn (T.item X' rfl rfl rfl J3 i [] s3 σ3 H3 _ I3 (LB fr3) ME go) λr s4 ⟨u,hr,h4⟩=>?_;subst hr;refine cn h4 λ_ s5 ⟨x,H5,I5,r5,y5,st5,fr5⟩=>?_;have I5':=I5.pinned (LB fr5) (T.obj _ _ st5);refine cn (hg _ _ _ _ _ _ s5 σ3 H5 x u _ I5' r5 (step x H5 y5)) λ_ s6 ⟨σ6,H6,I6,q6⟩=>?_;have again:∀{σ7:St}{H7:Hp}{s7:Shared},Inv X' ([]++kr fp s5.heap) σ7 H7 s7->N σ7 H7->∃m,m<n/\∃i σ' H',Inv X' [] σ' H' s7/\tn i s7.heap/\(∀b∈fp,H' b=none)/\W i m σ' H':=λ{σ7 H7 s7} I7 n7=>by
     obtain⟨m',hm,w7⟩:=hN σ7 H7 n7;refine⟨m',hm,i+1,σ7,H7,I7.jE,T.keep _ _ _ st5 λb hb o e=>(I7.pin (b,o) (NN _ (NN _ (gN hb e)))).1,λb hb=>?_,w7⟩;obtain⟨o,e,d⟩:=T.obj _ _ st5 b hb;exact(I7.pin (b,o) (NN _ (NN _ (gN hb e)))).2.1
    have tail:∀{H7:Hp}{s7:Shared},Inv X' ([]++kr fp s5.heap) σ6 H7 s7->(te σ6 H7 λy H4=>∃ys,H4 s2.heap.objs.size=some (.lst ys)/\ys.length<sizeLine/\N σ6 (upd H4 s2.heap.objs.size (.lst (ys++[y])))) ->
      wpAny ↑8 X.A (eval elt (compEnvC scope cl G.objs.size X.env)) (λx s₅=>wpAny ↑8 X.A (call (.builtin "list.append") [.ref s2.heap.objs.size,x])
       (λ_ s₆=>∃m,m<n/\∃i σ' H',Inv X' [] σ' H' s₆/\tn i s₆.heap/\(∀b∈fp,H' b=none)/\W i m σ' H') (λ_ _=>False) s₅) (λ_ _=>False) s7:=by
     intro H7 s7 I7 q7;refine cn (he _ _ _ _ _ _ s7 σ6 H7 _ I7 q7) λuy s8 ⟨y,H8,I8,ry,ys,hy,hl,q8⟩=>?_;refine cn (oV (X:=X') _ s8 σ6 H8 (.ref s2.heap.objs.size) [y] (.ref s2.heap.objs.size) [uy] (λ_ H9=>N σ6 H9) I8 rfl (.cons ry .nil) ⟨_,ys,y,rfl,rfl,hy,hl,q8⟩) λ_ s9 ⟨_,H9,I9,_,q9⟩=>?_;exact again I9 q9
    cases ifs with
    | nil =>
     cases tt with
     | none=>exact wpAny_tests_nil (tail I6 q6)
     | some t=>exact(ht 0 s2 H1 [] []).elim
    | cons c r =>
     cases r with
     | nil =>
      cases tt with
      | none=>exact(ht 0 s2 H1 [] []).elim
      | some t =>
       refine wpAny_tests_one (cn (ht G.objs.size s2 H1 fp JX _ s6 σ6 H6 _ I6 q6) λb s7 ⟨H7,I7,q7⟩=>?_);cases b with
       | true =>
        rw[if_pos rfl] at q7 ⊢;exact tail I7 q7
       | false =>
        rw[if_neg N1] at q7 ⊢;exact again I7 q7
     | cons _ _=>cases tt<;>exact(ht 0 s2 H1 [] []).elim
  .rw[aq (Ny (MR b hb))];exact(f2 b hb).1
 exact codeAny_compStart_list (loop _ rfl) (T.self _ 0 _ _ _ (T.keep _ _ _ L9 λb _ o e=>old b o e) (loop _ rfl))
def Inv.other(I:Inv X JX σ H s)(f:kb X JX H C)(hs:PY C s.heap h'):Inv X JX σ H { s with heap:=h' }:=by
 obtain⟨f0,f1,_,f3,f4,f5⟩:=f;refine I.xo (s':={ s with heap:=h' }) (ch:=[C]) rfl ⟨λb o e n hb hx=>?_,λb o e n hb hx=>?_,λb o e n hx=>n,λb o e hx=>?_,λ_ _ q=>q,λ_ _ _ q=>q,λb ps q=>⟨#[],by rw[q];simp⟩⟩ (λb u e=>?_) I.bare λb hb=>?_
 .exact(hs.2 b (λz=>hx (by rw[z];exact N3.mpr rfl))).trans e
 .exact⟨o.slots,(hs.2 b (λz=>hx (by rw[z];exact N3.mpr rfl))).trans e⟩
 .exact⟨o,(hs.2 b (λz=>hx (by rw[z];exact N3.mpr rfl))).trans e⟩
 .refine(I.bo b u e).jd (λc v hc q=>(hs.2 c ?_).trans q) (λ_ q=>q) λ_ _ q=>q;rcases hc with z|z
  .rw[z];exact bB e f0
  .exact bB z f0
 .rw[N3.mp hb];exact⟨f3,f1,f4,f5⟩
def u5{cl:List (Str×Addr)}{wi:TI}{g:TG}{fs:List Str}(J3:X.calm=true)(Ka:closureFor scope X.env=pure cl)(hk:scope.kind=.function)(nc:dM scope.names=true)(lo:e8 scope.names=true)(fh:fc cl scope.names=true)(ag:cX X cl)(fr:fI X scope cl fs js)(hi:PI X tg iter wi)(hg:∀C s₀ H₀ ex JX,PG (lQ X scope cl (ts++fs) C s₀ H₀ ex JX) tg g)(ht:∀C s₀ H₀ ex JX,match ifs,tt with|[],none=>True|[c],some t=>PT (lQ X scope cl (ts++fs) C s₀ H₀ ex JX) c t|_,_=>False)(he:∀C s₀ H₀ ex JX,PE (lQ X scope cl (ts++fs) C s₀ H₀ ex JX) elt te)(hs:autoParam ↑5 aI._auto_1):PE X (.ListComp elt [⟨tg,iter,ifs,0⟩] scope pos) (yj wi g tt te ts js):=by
 intro JX s σ H Q I h;rw[eval_ListComp];refine sC J3 Ka hk nc lo fh ag fr hi hg ht he hs I h none _ λD H' s' C Io q hm f=>?_;obtain⟨m,hn⟩:=hm;exact⟨m,hn,λh' MC=>⟨.ref D,H',Io.other f MC,rfl,q⟩⟩
def uq(wi:TI)(g:TG)(te:TE)(ts:List Str)(js:List Nat):TE:=fun σ H Q=>wi σ H λJ H1=>∀D,H1 D=none ->
 ∃ W:Nat->Nat->St->Hp->Prop,(∃m,W 0 m (eD ts js σ) (upd H1 D (.lst [])))/\∀i m σ' H',W i m σ' H' ->
  (J.stop i H'/\Q (.ref D) H')\/(J.go i H'/\∃N:St->Hp->Prop,(∀σ'' H'',N σ'' H''->∃m',m'<m/\W (i+1) m' σ'' H'') ∧
   ∀x H2,J.t5 i H' x H2->g x σ' H2 fun σ2 H3=>te σ2 H3 λy H4=>∃ys,H4 D=some (.lst ys)/\ys.length<sizeLine/\N σ2 (upd H4 D (.lst (ys++[y]))))
def xP(wi:TI)(g:TG)(t:TT)(te:TE)(ts:List Str)(js:List Nat):TE:=fun σ H Q=>wi σ H λJ H1=>∀D,H1 D=none ->
 ∃ W:Nat->Nat->St->Hp->Prop,(∃m,W 0 m (eD ts js σ) (upd H1 D (.lst [])))/\∀i m σ' H',W i m σ' H' ->
  (J.stop i H'/\Q (.ref D) H')\/(J.go i H'/\∃N:St->Hp->Prop,(∀σ'' H'',N σ'' H''->∃m',m'<m/\W (i+1) m' σ'' H'') ∧
   ∀x H2,J.t5 i H' x H2->g x σ' H2 fun σ2 H3=>t σ2 H3 λb MG=>if b=true then te σ2 MG λy H4=>∃ys,H4 D=some (.lst ys)/\ys.length<sizeLine/\N σ2 (upd H4 D (.lst (ys++[y]))) else N σ2 MG)
def xC{cl:List (Str×Addr)}{wi:TI}{g:TG}{fs:List Str}(J3:X.calm=true)(Ka:closureFor scope X.env=pure cl)(hk:scope.kind=.function)(nc:dM scope.names=true)(lo:e8 scope.names=true)(fh:fc cl scope.names=true)(ag:cX X cl)(fr:fI X scope cl fs js)(hi:PI X tg iter wi)(hg:∀C s₀ H₀ ex JX,PG (lQ X scope cl (ts++fs) C s₀ H₀ ex JX) tg g)(he:∀C s₀ H₀ ex JX,PE (lQ X scope cl (ts++fs) C s₀ H₀ ex JX) elt te)(hs:autoParam ↑5 aI._auto_1):PE X (.ListComp elt [⟨tg,iter,[],0⟩] scope pos) (uq wi g te ts js) :=
 u5 (tt:=none) J3 Ka hk nc lo fh ag fr hi hg (λ_ _ _ _ _=>trivial) he hs
variable{c:Expr}
def yS{cl:List (Str×Addr)}{wi:TI}{g:TG}{t:TT}{fs:List Str}(J3:X.calm=true)(Ka:closureFor scope X.env=pure cl)(hk:scope.kind=.function)(nc:dM scope.names=true)(lo:e8 scope.names=true)(fh:fc cl scope.names=true)(ag:cX X cl)(fr:fI X scope cl fs js)(hi:PI X tg iter wi)(hg:∀C s₀ H₀ ex JX,PG (lQ X scope cl (ts++fs) C s₀ H₀ ex JX) tg g)(ht:∀C s₀ H₀ ex JX,PT (lQ X scope cl (ts++fs) C s₀ H₀ ex JX) c t)(he:∀C s₀ H₀ ex JX,PE (lQ X scope cl (ts++fs) C s₀ H₀ ex JX) elt te)(hs:autoParam ↑5 aI._auto_1):PE X (.ListComp elt [⟨tg,iter,[c],0⟩] scope pos) (xP wi g t te ts js) :=
 u5 (tt:=some t) J3 Ka hk nc lo fh ag fr hi hg ht he hs
def jX(h:Heap)(b:Bool)(l:Addr)(xs:Array Value):Prop:=match b with
 | true=>h.IsList l xs
 |false=>h.IsTuple l xs
def jh(h:Heap)(b:Bool)(it l:Addr)(i:Nat):Prop:=match b with
 | true=>h.IsListIter it l i
 |false=>h.IsTupleIter it l i
variable{l:Addr}{b:Bool}{h:Heap}
def jX.at{xs:Array Value}(x:jX h b l xs)(k:∀o,h.get? l=some o->h'.get? l=some o):jX h' b l xs:=by
 cases b with
 | true=>obtain⟨o,ho,r⟩:=(show h.IsList l xs from x);exact(show h'.IsList l xs from ⟨o,k o ho,r⟩)
 |false=>obtain⟨o,ho,r⟩:=(show h.IsTuple l xs from x);exact(show h'.IsTuple l xs from ⟨o,k o ho,r⟩)
variable{i:Nat}{it:Addr}
def jh.at(x:jh h b it l i)(k:∀o,h.get? it=some o->h'.get? it=some o):jh h' b it l i:=by
 cases b with
 | true=>obtain⟨o,ho,r⟩:=(show h.IsListIter it l i from x);exact(show h'.IsListIter it l i from ⟨o,k o ho,r⟩)
 |false=>obtain⟨o,ho,r⟩:=(show h.IsTupleIter it l i from x);exact(show h'.IsTupleIter it l i from ⟨o,k o ho,r⟩)
def jh.obj(x:jh h b it l i):∃o vs,h.get? it=some o/\o.data=.fields vs:=by
 cases b with
 | true=>obtain⟨o,ho,_,hd⟩:=(show h.IsListIter it l i from x);exact⟨o,_,ho,hd⟩
 |false=>obtain⟨o,ho,_,hd⟩:=(show h.IsTupleIter it l i from x);exact⟨o,_,ho,hd⟩
def jX.obj{xs:Array Value}(x:jX h b l xs):∃o n,h.get? l=some o/\o.data=.seq xs n:=by
 cases b with
 | true=>obtain⟨o,ho,_,n,hd⟩:=(show h.IsList l xs from x);exact⟨o,n,ho,hd⟩
 |false=>obtain⟨o,ho,_,n,hd⟩:=(show h.IsTuple l xs from x);exact⟨o,n,ho,hd⟩
variable{Q:Value->Shared->Prop}{JZ:Array Value}
variable{ys:Array Value}{k1 k2:Nat}
section
variable{E:Value->Shared->Prop}
def fQ{t:Addr}{x:Value}(hit:s.heap.IsTupleIter it t i)(ht:s.heap.IsTuple t JZ)(hx:JZ[i]?=some x)(hQ:∀h',h'.IsTupleIter it t (i+1)->PY it s.heap h'->Q x { s with heap:=h' }):wpAny ↑11 A (NI (.ref it)) Q E s:=by
 obtain⟨o,ho,hc,hd⟩:=id hit;obtain⟨ol,hol,_,nl,hdl⟩:=ht;unfold NI;refine Na (N7 (name:=NF "__next__") hit.typeIs F.slot_tuple_iterator_next
  (OO F.slot_tuple_iterator_next hit.typeIs F.entry_tuple_iterator_next ?_ (F.args_tuple_iterator_next_1 _)))
 show wpAny _ _ (field (.ref it) 0 >>= _) _ _ s;refine Na (NK ho hd (x:=.ref t) rfl ?_);show wpAny _ _ (if (Nj t==NQ)=true then _ else _) _ _ s;rw[if_neg (show ¬ ((Nj t==NQ)=true) from N1)];show wpAny _ _ (field (.ref it) 1 >>= _) _ _ s;refine Na (NK ho hd (x:=.int i 0) rfl ?_);show wpAny _ _ (seqItems? (.ref t) >>= _) _ _ s;refine Na (OS hol hdl ?_);simp only[NC,hx];refine Na (Qc ho hd ↑13 (Nh ⟨x,rfl,Nh (hQ _ ?_ (RW ..))⟩));exact⟨_,OE _ ho (Pd (OT hd _)),(Obj.cls_mapFields ..).trans hc,by
  rw[OT hd];simp[rawInt]⟩
def dS{t:Addr}(hh:A.handled=none)(hit:s.heap.IsTupleIter it t i)(ht:s.heap.IsTuple t JZ)(hx:JZ[i]?=none)(hE:∀h' e,Heap.ExtBut it s.heap h'->(∃o,h'.get? e=some o/\o.cls=.type "StopIteration")->E (.ref e) { s with heap:=h' }):wpAny ↑11 A (NI (.ref it)) Q E s:=by
 obtain⟨o,ho,hc,hd⟩:=id hit;obtain⟨ol,hol,_,nl,hdl⟩:=ht;unfold NI;refine Na (N7 (name:=NF "__next__") hit.typeIs F.slot_tuple_iterator_next
  (OO F.slot_tuple_iterator_next hit.typeIs F.entry_tuple_iterator_next ?_ (F.args_tuple_iterator_next_1 _)))
 show wpAny _ _ (field (.ref it) 0 >>= _) _ _ s;refine Na (NK ho hd (x:=.ref t) rfl ?_);show wpAny _ _ (if (Nj t==NQ)=true then _ else _) _ _ s;rw[if_neg (show ¬ ((Nj t==NQ)=true) from N1)];show wpAny _ _ (field (.ref it) 1 >>= _) _ _ s;refine Na (NK ho hd (x:=.int i 0) rfl ?_);show wpAny _ _ (seqItems? (.ref t) >>= _) _ _ s;refine Na (OS hol hdl ?_);simp only[NC,hx];refine Na (R9 (Na (Qc ho hd ↑13 ?_)));show wpAny _ _ (newExc (.type "StopIteration") [] >>= _) _ _ _;refine Na ?_;simp only[newExc,newTuple];refine Na (Oz ?_ (by size_fits));refine Na (m:=firstArgMember _ _) (wpAny_of_eq (a:=NQ) (by first|rfl|(simp only[firstArgMember];rfl)) ?_);refine Oz ?_ (by size_fits);simp only[raiseNew];refine Na (wpAny_handled ?_)
 first|rw[show A.in1.handled=none from hh]|rw[hh]
 refine Na (Nh (wpAny_throw ?_));exact hE _ _ (((RW ..).extBut.push _).push _) ⟨_,Nq _ rfl,rfl⟩
def hG{x:Value}(hit:jh s.heap b it l i)(hl:jX s.heap b l JZ)(hx:JZ[i]?=some x)(hQ:∀h',jh h' b it l (i+1)->PY it s.heap h'->Q x { s with heap:=h' }):wpAny ↑11 A (NI (.ref it)) Q E s:=by
 cases b with
 | true=>exact wpAny_nextOf_list_item hit hl hx hQ
 |false=>exact fQ hit hl hx hQ
def mQ(hh:A.handled=none)(hit:jh s.heap b it l i)(hl:jX s.heap b l JZ)(hx:JZ[i]?=none)(hE:∀h' e,Heap.ExtBut it s.heap h'->(∃o,h'.get? e=some o/\o.cls=.type "StopIteration")->E (.ref e) { s with heap:=h' }):wpAny ↑11 A (NI (.ref it)) Q E s:=by
 cases b with
 | true=>exact wpAny_nextOf_list_end hh hit hl hx hE
 |false=>exact dS hh hit hl hx hE
def vq{b1 b2:Bool}{z TI TO i1 i2 l1 l2:Addr}{xs:Array Value}{x y a b:Value}(D:ZipApart z TI TO i1 i2 l1 l2)(hz:IsZip s.heap z TI TO .none)(Lg:IsPair s.heap TI (.ref i1) (.ref i2))(Lj:IsPair s.heap TO a b)(h1:jh s.heap b1 i1 l1 k1)(h2:jh s.heap b2 i2 l2 k2)(LN:jX s.heap b1 l1 xs)(LO:jX s.heap b2 l2 ys)(hx:xs[k1]?=some x)(hy:ys[k2]?=some y)(hQ:∀h',IsZip h' z TI TO (rawInt s.heap.objs.size)->IsPair h' TO x y->jh h' b1 i1 l1 (k1+1)->jh h' b2 i2 l2 (k2+1)->IsPair h' s.heap.objs.size x y->h'.objs.size=s.heap.objs.size+1 ->(∀c o,c≠z->c≠TO->c≠i1->c≠i2->s.heap.get? c=some o->h'.get? c=some o)->Q (.ref s.heap.objs.size) { s with heap:=h' }):wpAny ↑11 A (Builtin.«zip.__next__» ⟨[.ref z],[]⟩) (λfin s'=>∃v,fin=.done (.ret v)/\Q v s') E s:=by
 show wpAny _ _ (field (.ref z) 2 >>= _) _ _ _;refine Na (NK hz rfl (x:=.bool false) rfl ?_);show wpAny _ _ (field (.ref z) 3 >>= _) _ _ _;refine Na (NK hz rfl (x:=.ref TI) rfl ?_);refine Na (OS Lg rfl ?_);show wpAny _ _ (Oh (.ref z) >>= _) _ _ _;refine Na ?_;unfold Oh;refine Na (NK hz rfl (x:=.none) rfl (Nh ?_));simp only[if_true];refine Na (R9 ?_);refine Na (NK hz rfl (x:=.ref TO) rfl ?_);refine Na (OU hz ↑13 λh₁ hz₁ hs₁=>?_)
 replace hz₁:IsZip h₁ z TI TO .ellipsis:=hz₁
 refine Na ?_;simp only[S4,To,Tp,TF];refine Na (Na (Rh ?_));show wpAny _ _ (NI (.ref i1) >>= _) _ _ _;refine Na (hG (h1.at λo e=>hs₁.extBut _ _ D.i1z e) (LN.at λo e=>hs₁.extBut _ _ D.l1z e) hx λh₂ h1₂ hs2=>Nh ?_);have hTO2:IsPair h₂ TO a b:=hs2.extBut _ _ D.TOi1 (hs₁.extBut _ _ D.TOz Lj);refine Na (OS hTO2 rfl ?_);refine Na (Qy hTO2 λh₃ hTO3 hs3=>?_)
 replace hTO3:IsPair h₃ TO x b:=hTO3
 refine Na (Td (Nh ?_));refine Na (Na (Rh ?_));show wpAny _ _ (NI (.ref i2) >>= _) _ _ _;refine Na (hG (h2.at λo e=>hs3.extBut _ _ D.TOi2.symm (hs2.extBut _ _ D.i12.symm (hs₁.extBut _ _ D.i2z e)))
  (LO.at λo e=>hs3.extBut _ _ D.l2TO (hs2.extBut _ _ D.l2i1 (hs₁.extBut _ _ D.l2z e))) hy λh₄ h2₄ hs4=>Nh ?_)
 have hTO4:IsPair h₄ TO x b:=hs4.extBut _ _ D.TOi2 hTO3;refine Na (OS hTO4 rfl ?_);refine Na (Qy hTO4 λh₅ hTO5 hs5=>?_)
 replace hTO5:IsPair h₅ TO x y:=hTO5
 refine Na (Td (Nh (Nh ?_)));refine Na (OS hTO5 rfl ?_);refine Na (wpAny_newTuple ?_);have La:h₅.objs.size=s.heap.objs.size:=by rw[hs5.1,hs4.1,hs3.1,hs2.1,hs₁.1]
 have hz5:IsZip h₅ z TI TO .ellipsis:=hs5.extBut _ _ D.TOz.symm (hs4.extBut _ _ D.i2z.symm (hs3.extBut _ _ D.TOz.symm (hs2.extBut _ _ D.i1z.symm hz₁)));have hk5:∀c o,c≠z->c≠TO->c≠i1->c≠i2->s.heap.get? c=some o->h₅.get? c=some o:=λc o c1 c2 c3 c4 e =>
  hs5.extBut _ _ c2 (hs4.extBut _ _ c4 (hs3.extBut _ _ c2 (hs2.extBut _ _ c3 (hs₁.extBut _ _ c1 e))))
 have h1₅:jh h₅ b1 i1 l1 (k1+1):=h1₂.at λo e=>hs5.extBut _ _ D.TOi1.symm (hs4.extBut _ _ D.i12 (hs3.extBut _ _ D.TOi1.symm e));have h2₅:jh h₅ b2 i2 l2 (k2+1):=h2₄.at λo e=>hs5.extBut _ _ D.TOi2.symm e;have M4:z<h₅.objs.size:=Nk hz5;show wpAny _ _ (Pp (.ref z) (.ref h₅.objs.size) >>= _) _ _ _;refine Na ?_;unfold Pp;have hz6:IsZip (h₅.push { cls:=.type "tuple",data:=.seq #[x,y] }) z TI TO .ellipsis:=Nc _ hz5;refine Na (OU hz6 ↑13 λh₇ hz7 hs₇=>?_)
 replace hz7:IsZip h₇ z TI TO (rawInt h₅.objs.size):=hz7
 refine OU hz7 ↑13 λh₈ hz₈ hs8=>?_
 replace hz₈:IsZip h₈ z TI TO (rawInt h₅.objs.size):=hz₈
 have up:∀c o,c≠z->h₅.get? c=some o->h₈.get? c=some o:=λc o c1 e=>hs8.extBut _ _ c1 (hs₇.extBut _ _ c1 (Nc _ e));have hT8:IsPair h₈ h₅.objs.size x y:=hs8.extBut _ _ (O_ M4) (hs₇.extBut _ _ (O_ M4) (Nq _ rfl));have hz8:h₈.objs.size=h₅.objs.size+1:=by rw[hs8.1,hs₇.1,N4]
 rw[La] at hz₈ hT8 hz8;refine Nh ⟨_,rfl,?_⟩;show Q (.ref h₅.objs.size) _;rw[La];exact hQ h₈ hz₈ (up _ _ D.TOz hTO5) (h1₅.at λo e=>up _ o D.i1z e) (h2₅.at λo e=>up _ o D.i2z e) hT8 hz8 λc o c1 c2 c3 c4 e=>up c o c1 (hk5 c o c1 c2 c3 c4 e)
def xk{b1 b2:Bool}{z TI TO i1 i2 l1 l2:Addr}{xs:Array Value}{a b:Value}{Q:Fin->Shared->Prop}(hh:A.handled=none)(D:ZipApart z TI TO i1 i2 l1 l2)(hz:IsZip s.heap z TI TO .none)(Lg:IsPair s.heap TI (.ref i1) (.ref i2))(Lj:IsPair s.heap TO a b)(h1:jh s.heap b1 i1 l1 k1)(h2:jh s.heap b2 i2 l2 k2)(LN:jX s.heap b1 l1 xs)(LO:jX s.heap b2 l2 ys)(LY:xs[k1]?=none\/ys[k2]?=none)(hE:∀h' e,(∀c o,c≠z->c≠TO->c≠i1->c≠i2->s.heap.get? c=some o->h'.get? c=some o)->(∃o,h'.get? e=some o/\o.cls=.type "StopIteration")->E (.ref e) { s with heap:=h' }):wpAny ↑11 A (Builtin.«zip.__next__» ⟨[.ref z],[]⟩) Q E s:=by
 show wpAny _ _ (field (.ref z) 2 >>= _) _ _ _;refine Na (NK hz rfl (x:=.bool false) rfl ?_);show wpAny _ _ (field (.ref z) 3 >>= _) _ _ _;refine Na (NK hz rfl (x:=.ref TI) rfl ?_);refine Na (OS Lg rfl ?_);show wpAny _ _ (Oh (.ref z) >>= _) _ _ _;refine Na ?_;unfold Oh;refine Na (NK hz rfl (x:=.none) rfl (Nh ?_));simp only[if_true];refine Na (R9 ?_);refine Na (NK hz rfl (x:=.ref TO) rfl ?_);refine Na (OU hz ↑13 λh₁ hz₁ hs₁=>?_)
 replace hz₁:IsZip h₁ z TI TO .ellipsis:=hz₁
 refine Na ?_;simp only[S4,To,Tp,TF];refine Na (Na (Rh ?_));show wpAny _ _ (NI (.ref i1) >>= _) _ _ _;cases hx:xs[k1]? with
 | none =>
  refine Na (mQ hh (h1.at λo e=>hs₁.extBut _ _ D.i1z e) (LN.at λo e=>hs₁.extBut _ _ D.l1z e) hx λh₂ e hs2 he=>?_);obtain⟨oe,Lv,MO⟩:=he;have hz₂:IsZip h₂ z TI TO .ellipsis:=hs2 _ _ D.i1z.symm hz₁;have hez:e≠z:=λx=>by subst x;rw[hz₂] at Lv;cases Lv;simp at MO
  refine OU hz₂ ↑13 λh₃ _ hs3=>hE h₃ e (λc o c1 _ c3 _ x=>hs3.extBut _ _ c1 (hs2 _ _ c3 (hs₁.extBut _ _ c1 x))) ⟨oe,hs3.extBut _ _ hez Lv,MO⟩
 | some x =>
  have hy:ys[k2]?=none:=by rcases LY with h|h;rw[hx] at h;cases h;exact h
  refine Na (hG (h1.at λo e=>hs₁.extBut _ _ D.i1z e) (LN.at λo e=>hs₁.extBut _ _ D.l1z e) hx λh₂ h1₂ hs2=>Nh ?_);have hTO2:IsPair h₂ TO a b:=hs2.extBut _ _ D.TOi1 (hs₁.extBut _ _ D.TOz Lj);refine Na (OS hTO2 rfl ?_);refine Na (Qy hTO2 λh₃ hTO3 hs3=>?_);refine Na (Td (Nh ?_));refine Na (Na (Rh ?_));show wpAny _ _ (NI (.ref i2) >>= _) _ _ _;refine Na (mQ hh (h2.at λo e=>hs3.extBut _ _ D.TOi2.symm (hs2.extBut _ _ D.i12.symm (hs₁.extBut _ _ D.i2z e)))
   (LO.at λo e=>hs3.extBut _ _ D.l2TO (hs2.extBut _ _ D.l2i1 (hs₁.extBut _ _ D.l2z e))) hy λh₄ e hs4 he=>?_)
  obtain⟨oe,Lv,MO⟩:=he;have hz4:IsZip h₄ z TI TO .ellipsis:=hs4 _ _ D.i2z.symm (hs3.extBut _ _ D.TOz.symm (hs2.extBut _ _ D.i1z.symm hz₁));have hez:e≠z:=λx=>by subst x;rw[hz4] at Lv;cases Lv;simp at MO
  refine OU hz4 ↑13 λh₅ _ hs5=>hE h₅ e (λc o c1 c2 c3 c4 x=>hs5.extBut _ _ c1 (hs4 _ _ c4 (hs3.extBut _ _ c2 (hs2.extBut _ _ c3 (hs₁.extBut _ _ c1 x))))) ⟨oe,hs5.extBut _ _ hez Lv,MO⟩
def qM(hl:jX s.heap b l JZ)(h:∀o,o=({ cls:=.type (if b then "list_iterator" else "tuple_iterator"),data:=.fields #[.ref l,.int 0 0] }:Obj)->Q (.ref s.heap.objs.size) { s with heap:=s.heap.push o }):wpAny ↑11 A (pyIter (.ref l)) Q E s:=by
 cases b with
 | true=>exact PZ hl (h _ rfl)
 |false=>exact Pb hl (h _ rfl)
def j_{b1 b2:Bool}{z TI TO i1 i2 l1 l2:Addr}{xs:Array Value}{x y a b:Value}{Q:Option Value->Shared->Prop}(D:ZipApart z TI TO i1 i2 l1 l2)(hz:IsZip s.heap z TI TO .none)(Lg:IsPair s.heap TI (.ref i1) (.ref i2))(Lj:IsPair s.heap TO a b)(h1:jh s.heap b1 i1 l1 k1)(h2:jh s.heap b2 i2 l2 k2)(LN:jX s.heap b1 l1 xs)(LO:jX s.heap b2 l2 ys)(hx:xs[k1]?=some x)(hy:ys[k2]?=some y)(hQ:∀h',IsZip h' z TI TO (rawInt s.heap.objs.size)->IsPair h' TO x y->jh h' b1 i1 l1 (k1+1)->jh h' b2 i2 l2 (k2+1)->IsPair h' s.heap.objs.size x y->h'.objs.size=s.heap.objs.size+1 ->(∀c o,c≠z->c≠TO->c≠i1->c≠i2->s.heap.get? c=some o->h'.get? c=some o)->Q (some (.ref s.heap.objs.size)) { s with heap:=h' }):wpAny ↑11 A (pyNext (.ref z)) Q E s:=by
 have hT:s.TypeIs (.ref z) "zip" := ⟨_,hz,rfl⟩
 unfold pyNext;exact Na (Qp (N7 (name:=NF "__next__") hT F.slot_zip_next
  (OO F.slot_zip_next hT F.entry_zip_next
   (vq D hz Lg Lj h1 h2 LN LO hx hy λh' a1 a2 a3 a4 a5 a6 a7=>Nh (hQ h' a1 a2 a3 a4 a5 a6 a7)) (F.args_zip_next_1 _))))
def lE{b1 b2:Bool}{z TI TO i1 i2 l1 l2:Addr}{xs:Array Value}{a b:Value}{Q:Option Value->Shared->Prop}(hh:A.handled=none)(D:ZipApart z TI TO i1 i2 l1 l2)(hz:IsZip s.heap z TI TO .none)(Lg:IsPair s.heap TI (.ref i1) (.ref i2))(Lj:IsPair s.heap TO a b)(h1:jh s.heap b1 i1 l1 k1)(h2:jh s.heap b2 i2 l2 k2)(LN:jX s.heap b1 l1 xs)(LO:jX s.heap b2 l2 ys)(LY:xs[k1]?=none\/ys[k2]?=none)(hQ:∀h',(∀c o,c≠z->c≠TO->c≠i1->c≠i2->s.heap.get? c=some o->h'.get? c=some o)->Q none { s with heap:=h' }):wpAny ↑11 A (pyNext (.ref z)) Q E s:=by
 have hT:s.TypeIs (.ref z) "zip" := ⟨_,hz,rfl⟩
 unfold pyNext;refine Na (Qp (N7 (name:=NF "__next__") hT F.slot_zip_next
  (OO F.slot_zip_next hT F.entry_zip_next (xk hh D hz Lg Lj h1 h2 LN LO LY λh' e hk he=>?_) (F.args_zip_next_1 _))))
 obtain⟨o,ho,hc⟩:=he;refine Na (wpAny_isInstance (T := "StopIteration") (b:=true) ⟨o,ho,hc⟩ isSubtype_stop ?_);exact Nh (hQ _ hk)
abbrev FG(b:Bool)(l:Addr):Obj:={ cls:=.type (if b then "list_iterator" else "tuple_iterator"),data:=.fields #[.ref l,.int 0 0] }
abbrev Gp(h:Heap)(b1:Bool)(l1:Addr):Heap:=h.push (FG b1 l1)
abbrev GI(h:Heap)(b1 b2:Bool)(l1 l2:Addr):Heap:=(Gp h b1 l1).push (FG b2 l2)
abbrev Gz(h:Heap)(b1 b2:Bool)(l1 l2:Addr):Heap:=(GI h b1 b2 l1 l2).push { cls:=.type "tuple",data:=.seq #[.ref h.objs.size,.ref (Gp h b1 l1).objs.size] }
abbrev Gu(h:Heap)(b1 b2:Bool)(l1 l2:Addr):Heap:=(Gz h b1 b2 l1 l2).push { cls:=.type "tuple",data:=.seq #[.none,.none] }
abbrev Cj(h:Heap)(b1 b2:Bool)(l1 l2:Addr):Heap:=(Gu h b1 b2 l1 l2).push { cls:=.type "zip",data:=.fields #[.none,.bool false,.bool false,.ref (GI h b1 b2 l1 l2).objs.size,.ref (Gz h b1 b2 l1 l2).objs.size] }
end
def lb{E:Value->Shared->Prop}(hl:jX s.heap b l JZ)(h:Q (.ref s.heap.objs.size) { s with heap:=s.heap.push (FG b l) }):wpAny ↑11 A (pyIter (.ref l)) Q E s:=qM hl λo e=>by subst e;exact h
theorem jX.push{h:Heap}{b:Bool}{l:Addr}{xs:Array Value}(x:jX h b l xs)(o:Obj):jX (h.push o) b l xs:=x.at λ_ e=>Nc _ e
def mE(b1 b2:Bool)(l1 l2:Addr)(xs ys:Array Value):Meets (Builtin.«zip.__new__» ⟨[.type "zip",.ref l1,.ref l2],[]⟩) (λ_ R s=>jX s.heap b1 l1 xs/\jX s.heap b2 l2 ys ∧R (.ok (.ret (.ref (Gu s.heap b1 b2 l1 l2).objs.size))) { s with heap:=Cj s.heap b1 b2 l1 l2 }) :=
 .of_wp λprog w A R s h=>by
  obtain⟨hp,g,d,tk,os⟩:=s;obtain⟨LN,LO,h⟩:=h;have hsub:=sub_zip;have hL1:jX (Te ⟨hp,g,d,tk,os⟩) b1 l1 xs:=LN;have hL2:jX (Te ⟨hp.push (FG b1 l1),g,d,tk,os⟩) b2 l2 ys:=jX.push LO _
  wp_walk using lb hL1,lb hL2
  exact⟨_,rfl,h⟩
section
variable{E:Value->Shared->Prop}
def jh.new(h:Heap)(b:Bool)(it l:Addr)(e:h.get? it=some (FG b l)):jh h b it l 0:=by
 cases b with
 | true=>exact⟨_,e,rfl,rfl⟩
 |false=>exact⟨_,e,rfl,rfl⟩
def vB{b1 b2:Bool}{l1 l2:Addr}{xs:Array Value}(LN:jX s.heap b1 l1 xs)(LO:jX s.heap b2 l2 ys)(h:∀h',IsZip h' (s.heap.objs.size+4) (s.heap.objs.size+2) (s.heap.objs.size+3) .none->IsPair h' (s.heap.objs.size+2) (.ref s.heap.objs.size) (.ref (s.heap.objs.size+1)) ->IsPair h' (s.heap.objs.size+3) .none .none->jh h' b1 s.heap.objs.size l1 0->jh h' b2 (s.heap.objs.size+1) l2 0->h'.objs.size=s.heap.objs.size+5 ->(∀c o,s.heap.get? c=some o->h'.get? c=some o)->Q (.ref (s.heap.objs.size+4)) { s with heap:=h' }):wpAny ↑11 A (call (.type "zip") [.ref l1,.ref l2]) Q E s:=by
 refine callType_new F.called_zip ↑12 (F.typeCall_zip_2 _ _) (F.newCall_zip_2 _ _) (λobj=>F.args_object_init_3 obj _ _) F.entry_zip_new
  (mE b1 b2 l1 l2 xs ys) ⟨LN,LO,?_⟩
 have z1:(Gp s.heap b1 l1).objs.size=s.heap.objs.size+1:=N4 ..;have z2:(GI s.heap b1 b2 l1 l2).objs.size=s.heap.objs.size+2:=by rw[N4,z1]
 have z3:(Gz s.heap b1 b2 l1 l2).objs.size=s.heap.objs.size+3:=by rw[N4,z2]
 have z4:(Gu s.heap b1 b2 l1 l2).objs.size=s.heap.objs.size+4:=by rw[N4,z3]
 have z5:(Cj s.heap b1 b2 l1 l2).objs.size=s.heap.objs.size+5:=by rw[N4,z4]
 have g5:(Cj s.heap b1 b2 l1 l2).get? (Gu s.heap b1 b2 l1 l2).objs.size=some _:=Nq _ rfl;have g4:(Cj s.heap b1 b2 l1 l2).get? (Gz s.heap b1 b2 l1 l2).objs.size=some _:=Nc _ (Nq _ rfl);have g3:(Cj s.heap b1 b2 l1 l2).get? (GI s.heap b1 b2 l1 l2).objs.size=some _:=Nc _ (Nc _ (Nq _ rfl));have g2:(Cj s.heap b1 b2 l1 l2).get? (Gp s.heap b1 l1).objs.size=some _:=Nc _ (Nc _ (Nc _ (Nq _ rfl)));have g1:(Cj s.heap b1 b2 l1 l2).get? s.heap.objs.size=some _:=Nc _ (Nc _ (Nc _ (Nc _ (Nq _ rfl))));show _/\_;rw[z2,z3,z4] at g5;rw[z1,z2] at g3;rw[z3] at g4;rw[z1] at g2;rw[z4];exact⟨⟨_,g5,rfl⟩,h _ g5 g3 g4 (jh.new _ b1 _ _ g1) (jh.new _ b2 _ _ g2) z5 λc o x =>
  Nc _ (Nc _ (Nc _ (Nc _ (Nc _ x))))⟩
end
def rz(K:Nb)(H:Hp)(b:Bool)(a:Addr)(xs:List V):Prop:=match b with
 | true=>fj K H a xs
 |false=>fg K H a xs
variable{tl:TA}
def Inv.row{xs:List V}(I:Inv X JX σ H s)(h:rz X.K H b a xs):∃J2:List Value,Vals xs J2/\jX s.heap b a J2.toArray/\xs.length<=sizeLine:=by
 cases b with
 | true =>
  obtain⟨J2,r,p,z⟩:=I.list h;exact⟨J2,r,p.isList,z⟩
 | false =>
  obtain⟨J2,r,p,z⟩:=I.tuple h;exact⟨J2,r,p,z⟩
def Inv.u0{xs ys:List V}(I:Inv X JX σ H s)(h:rz X.K H b a xs)(h':rz X.K H b a ys):xs=ys:=by
 cases b with
 | true=>exact I.mz h h'
 |false=>exact I.kT h h'
def Inv.Ba(I:Inv X JX σ H s)(k:∀b u,b ∉ ch->s.heap.get? b=some u->h'.get? b=some u)(Lh:∀b∈ch,kb X JX H b):Inv X JX σ H { s with heap:=h',toks:=t' }:=by
 have L7:∀b u,H b=some u->b ∉ ch:=λb u e z=>by rw[(Lh b z).1] at e;cases e
 refine I.step (g':=s.gens) (d':=s.drawn) (ch:=ch) (λb hb=>?_) (λb u _ _ hc e _=>k b u hc e) (λb u _ _ hc e _=>⟨u.slots,k b u hc e⟩)
  (λb u _ e n=>n) (λb u hc e=>⟨u,k b u hc e⟩) (λb xs e=>e) (λb ob u e=>e) (λb ps e=>⟨#[],by rw[e];simp⟩) (λm hm=>?_) (λb u e=>?_) I.bare
 .obtain⟨_,f1,_,f3,f4,f5⟩:=Lh b hb;exact⟨f3,f1,f4,f5⟩
 .obtain⟨ob,es,ep,ho,r⟩:=hm;exact⟨ob,es,ep,k _ ob (λz=>(Lh _ z).2.1 rfl) ho,r⟩
 .refine(I.bo b u e).jd (λc v hc q=>k c v ?_ q) (λc q=>q) λc ys q=>q;rcases hc with z'|z'
  .rw[z'];exact L7 b u e
  .exact L7 c _ z'
def cL{c:Addr}{xs:List V}(I:Inv X JX σ H s)(h:rz X.K H b a xs)(f:kb X JX H c):a≠c:=by
 have rd:∀{u:HO},Rd H a u->a≠c:=λ{u} r=>by
  rcases r with r|⟨o,r⟩
  .exact bB r f.1
  .exact bB r f.1
 have mk:∀{o:Obj},X.K.lookup a=some o->a≠c:=λ{o} e z=>by
  subst z;have e':=I.ok.mod.D0 _ _ e;rcases f.2.2.2.1 with q|q
  .exact I.ok.qE _ _ e' q
  .exact absurd (Nr (Nk (I.ok.bs _ _ e').1) q) (OF _)
 cases b with
 | true =>
  rcases(show fj X.K H a xs from h) with r|⟨o,J2,n,e,_⟩
  .exact rd r
  .exact mk e
 | false =>
  rcases(show fg X.K H a xs from h) with r|⟨o,J2,n,e,_⟩
  .exact rd r
  .exact mk e
def HX (K : Nb)(b1 b2 : Bool)(a1 a2 : Addr) : It :=
  ⟨λi H => ∃xs ys x y,rz K H b1 a1 xs /\ rz K H b2 a2 ys /\ xs[i]? = some x /\ ys[i]? = some y,
   λi H v H' => ∃p x y,H p=none /\ v=.ref p /\ H'=upd H p (.tup [x,y]) /\ (∀xs,rz K H b1 a1 xs -> xs[i]? = some x) /\ (∀ys,rz K H b2 a2 ys -> ys[i]? = some y),
   λi H => ∃xs ys,rz K H b1 a1 xs /\ rz K H b2 a2 ys /\ (xs.length <= i \/ ys.length <= i)⟩
theorem xa{K:Nb}{tp:Pos}(b1 b2:Bool)(a1 a2 z TI TO i1 i2:Addr)(D:TI≠z/\TO≠z/\i1≠z/\i2≠z/\TI≠TO/\TI≠i1/\TI≠i2/\TO≠i1/\TO≠i2/\i1≠i2):Turn P w K (.Tuple elts x1 tp) (HX K b1 b2 a1 a2) [z,TO,i1,i2,TI] z (λi h=>IsZip h z TI TO .none/\IsPair h TI (.ref i1) (.ref i2)/\(∃a b,IsPair h TO a b)/\jh h b1 i1 a1 i/\jh h b2 i2 a2 i) where
 mem:=by simp
 obj:=λi h st b hb=>by
  obtain⟨hz,Lg,⟨a,c,Lj⟩,h1,h2⟩:=st;simp only[NB,O9,or_false] at hb;rcases hb with q|q|q|q|q<;>subst q
  .exact⟨_,hz,λv z=>by cases z⟩
  .exact⟨_,Lj,λv z=>by cases z⟩
  .obtain⟨o,vs,e,d⟩:=h1.obj;exact⟨o,e,λv z=>by rw[d] at z;cases z⟩
  .obtain⟨o,vs,e,d⟩:=h2.obj;exact⟨o,e,λv z=>by rw[d] at z;cases z⟩
  .exact⟨_,Lg,λv z=>by cases z⟩
 keep:=λi h h' st k=>by
  obtain⟨hz,Lg,⟨a,c,Lj⟩,h1,h2⟩:=st;exact⟨k z ↑13 _ hz,k TI ↑13 _ Lg,⟨a,c,k TO ↑13 _ Lj⟩,h1.at λo e=>k i1 ↑13 o e,h2.at λo e=>k i2 ↑13 o e⟩
 item:=by
  intro X hP hw hK hc i JX s σ H E I hf st hg;subst hP hw hK;obtain⟨xs,ys,x,y,K5,K6,hx,hy⟩:=hg;obtain⟨M5,rv1,p1,hz1⟩:=I.row K5;obtain⟨Ly,rv2,p2,hz2⟩:=I.row K6;obtain⟨u1,hu1,ru1⟩:=rv1.get hx;obtain⟨u2,hu2,ru2⟩:=rv2.get hy;obtain⟨hz,Lg,⟨a,c,Lj⟩,h1,h2⟩:=st;obtain⟨d1,d2,d3,d4,d5,d6,d7,d8,d9,d10⟩:=D;obtain⟨o1,n1,e1,dd1⟩:=p1.obj;obtain⟨o2,n2,e2,MI⟩:=p2.obj;obtain⟨oi1,vs1,ei1,di1⟩:=h1.obj;obtain⟨oi2,vs2,ei2,di2⟩:=h2.obj;have D:ZipApart z TI TO i1 i2 a1 a2:=⟨d1,d2,d3,d4,d5,d6,d7,d8,d9,d10,cL I K5 (hf z ↑13),cL I K5 (hf TO ↑13),cL I K5 (hf i1 ↑13),cL I K5 (hf i2 ↑13),
   cL I K6 (hf z ↑13),cL I K6 (hf TO ↑13),cL I K6 (hf i1 ↑13),cL I K6 (hf i2 ↑13)⟩
  refine j_ D hz Lg Lj h1 h2 p1 p2 (x:=u1) (y:=u2) (by simpa using hu1) (by simpa using hu2) λh' g1 g2 g3 g4 g5 g6 g7=>⟨_,rfl,?_⟩
  refine wpAny_letOwnedTupleGo_zip (s:={ s with heap:=h' }) g1 λh3 hz3 MD=>?_;have K4:H s.heap.objs.size=none:=I.bo.fresh (Np _);have lt:∀{c:Addr}{o:Obj},s.heap.get? c=some o->c≠s.heap.objs.size:=λe=>Ny (Nk e);have M6:∀b o,b ∉ [z,TO,i1,i2,TI]->s.heap.get? b=some o->h3.get? b=some o:=λb o hb q=>by
   simp only[NB,O9,or_false,not_or] at hb;exact(MD.2 b hb.1).trans (g7 b o hb.1 hb.2.1 hb.2.2.1 hb.2.2.2.1 q)
  have hT3:h3.get? s.heap.objs.size=some { cls:=.type "tuple",data:=.seq #[u1,u2] }:=(MD.2 _ (lt hz).symm).trans g5;have I3:Inv X JX σ (upd H s.heap.objs.size (.tup [x,y])) { s with heap:=h3,toks:=s.toks } :=
   I.kN (ch:=[z,TO,i1,i2,TI]) M6 hf (Np _) (λb hb=>by
    simp only[NB,O9,or_false] at hb;rcases hb with q|q|q|q|q<;>subst q
    .exact⟨_,hz⟩
    .exact⟨_,Lj⟩
    .exact⟨_,ei1⟩
    .exact⟨_,ei2⟩
    .exact⟨_,Lg⟩)
    ⟨by show 2<=sizeLine;decide,[u1,u2],.cons ru1 (.cons ru2 .nil),⟨_,hT3,rfl,_,rfl⟩⟩
  refine⟨.ref s.heap.objs.size,_,I3,rfl,⟨_,x,y,K4,rfl,rfl,λzs hzs=>by rwa[I.u0 hzs K5],λzs hzs=>by rwa[I.u0 hzs K6]⟩,
   ⟨hz3,(MD.2 TI d1).trans (g7 TI _ d1 d5 d6 d7 Lg),⟨_,_,(MD.2 TO d2).trans g2⟩,g3.at λo e=>(MD.2 i1 d3).trans e,g4.at λo e=>(MD.2 i2 d4).trans e⟩,λb hb=>?_⟩
  have nb:b≠s.heap.objs.size:=by
   simp only[NB,O9,or_false] at hb;rcases hb with q|q|q|q|q<;>subst q
   .exact lt hz
   .exact lt Lj
   .exact lt ei1
   .exact lt ei2
   .exact lt Lg
  rw[aq nb];exact(hf b hb).1
 done:=by
  intro X hP hw hK hc i JX s σ H E I hf st hg;subst hP hw hK;obtain⟨xs,ys,K5,K6,LY⟩:=hg;obtain⟨M5,rv1,p1,hz1⟩:=I.row K5;obtain⟨Ly,rv2,p2,hz2⟩:=I.row K6;obtain⟨hz,Lg,⟨a,c,Lj⟩,h1,h2⟩:=st;obtain⟨d1,d2,d3,d4,d5,d6,d7,d8,d9,d10⟩:=D;have D:ZipApart z TI TO i1 i2 a1 a2:=⟨d1,d2,d3,d4,d5,d6,d7,d8,d9,d10,cL I K5 (hf z ↑13),cL I K5 (hf TO ↑13),cL I K5 (hf i1 ↑13),cL I K5 (hf i2 ↑13),
   cL I K6 (hf z ↑13),cL I K6 (hf TO ↑13),cL I K6 (hf i1 ↑13),cL I K6 (hf i2 ↑13)⟩
  have l1:=rv1.length;have l2:=rv2.length;refine lE (I.ok.hd hc) D hz Lg Lj h1 h2 p1 p2 ?_ λh' k=>⟨rfl,?_⟩
  .rcases LY with q|q
   .exact .inl (by simp;lia)
   .exact .inr (by simp;lia)
  .exact I.Ba (t':=s.toks) (ch:=[z,TO,i1,i2,TI]) (λb u hb e=>by
    simp only[NB,O9,or_false,not_or] at hb;exact k b u hb.1 hb.2.1 hb.2.2.1 hb.2.2.2.1 e) hf
 self:=λ_ _ _ _ _ st h=>by
  obtain⟨hz,_⟩:=st;exact wpAny_pyIter_zip hz h
theorem CB(n:Nat):n+2≠n+4/\n+3≠n+4/\n≠n+4/\n+1≠n+4/\n+2≠n+3/\n+2≠n/\n+2≠n+1/\n+3≠n/\n+3≠n+1/\n≠n+1:=by
 refine⟨?_,?_,?_,?_,?_,?_,?_,?_,?_,?_⟩<;>lia
def Fu(K:Nb)(tl:TA):TI:=fun σ H R=>tl σ H λvs H1=>∃b1 b2 a1 a2,vs=[.ref a1,.ref a2]/\(∃xs,rz K H1 b1 a1 xs)/\(∃ys,rz K H1 b2 a2 ys)/\R (HX K b1 b2 a1 a2) H1
def tw{tp:Pos}{l1 l2:Expr}{p:Pos}(hg:Gl X "zip")(hm:X.mg "zip"=none)(hl:PA X [l1,l2] tl)(hs:autoParam (starEach [l1,l2] X.env=[(false,eval l1 X.env),(false,eval l2 X.env)]) aR._auto_1)(KQ:autoParam (starEach [l2] X.env=[(false,eval l2 X.env)]) aR._auto_1):PI X (.Tuple elts x1 tp) (.Call (.Name "zip" p) [l1,l2] [] pos) (Fu X.K tl):=by
 intro JX s σ H R I h;refine Call_ (kF I hg hm PyProof.Rows.boot_zip (OM (cn (hl pos JX s σ H _ I h) λus s1 ⟨vs,H1,I1,r1,q1⟩=>?_) (by rw[hs,KQ]) (by rw[KQ];rfl)));obtain⟨b1,b2,a1,a2,e,⟨xs,K5⟩,⟨ys,K6⟩,q⟩:=q1;subst e;cases r1 with
 | cons r rr =>
  cases rr with
  | cons r' rr =>
   cases rr;cases (show _=Nj a1 from r);cases (show _=Nj a2 from r');obtain⟨M5,rv1,p1,hz1⟩:=I1.row K5;obtain⟨Ly,rv2,p2,hz2⟩:=I1.row K6;refine vB p1 p2 λh' g1 g2 g3 g4 g5 g6 g7=>?_;have I2:Inv X JX σ H1 { s1 with heap:=h' }:=I1.kept (t':=s1.toks) g7;refine wpAny_pyIter_zip (s:={ s1 with heap:=h' }) g1 ?_;refine⟨s1.heap.objs.size+4,[s1.heap.objs.size+4,s1.heap.objs.size+3,s1.heap.objs.size,s1.heap.objs.size+1,s1.heap.objs.size+2],_,_,H1,rfl,I2,
    xa b1 b2 a1 a2 _ _ _ _ _ (CB s1.heap.objs.size),⟨g1,g2,⟨_,_,g3⟩,g4,g5⟩,λb hb=>?_,q⟩
   have hle:s1.heap.objs.size<=b:=by
    simp only[NB,O9,or_false] at hb;rcases hb with q|q|q|q|q
    .rw[q];exact Qm _ 4
    .rw[q];exact Qm _ 3
    .rw[q];exact Np _
    .rw[q];exact Qm _ 1
    .rw[q];exact Qm _ 2
   exact I1.sD hle (I1.bo.fresh hle)
def HL(K:Nb)(b:Bool)(a:Addr):It:=match b with
 | true=>ID K a
 |false=>Jp K a
def Gf(K:Nb)(tl:TE):TI:=fun σ H R=>tl σ H λx H1=>∃b a,x=.ref a/\(∃xs,rz K H1 b a xs)/\R (HL K b a) H1
def gU{l:Expr}{tl:TE}(hl:PE X l tl):PI X tg l (Gf X.K tl):=by
 intro JX s σ H R I h;refine cn (hl JX s σ H _ I h) λv s1 ⟨x,H1,I1,r1,q1⟩=>?_;obtain⟨b,a,e,⟨xs,hq⟩,q⟩:=q1;subst e;cases r1;cases b with
 | true =>
  obtain⟨J2,rv,p,hz⟩:=I1.list hq;refine PZ p.isList ?_;refine⟨s1.heap.objs.size,[s1.heap.objs.size],_,_,H1,rfl,I1.kept (t':=s1.toks) λb o e=>Nc _ e,oZ a _,⟨_,Nq _ rfl,rfl,rfl⟩,λb hb=>?_,q⟩;have e:b=s1.heap.objs.size:=by simpa using hb
  subst e;exact I1.sD (Np _) (I1.bo.fresh (Np _))
 | false =>
  obtain⟨J2,rv,p,hz⟩:=I1.tuple hq;refine Pb (show s1.heap.IsTuple a J2.toArray from p) ?_;refine⟨s1.heap.objs.size,[s1.heap.objs.size],_,_,H1,rfl,I1.kept (t':=s1.toks) λb o e=>Nc _ e,ui a _,⟨_,Nq _ rfl,rfl,rfl⟩,λb hb=>?_,q⟩;have e:b=s1.heap.objs.size:=by simpa using hb
  subst e;exact I1.sD (Np _) (I1.bo.fresh (Np _))
structure cS (K:Nb) (C:Addr):Prop where
 ga:NO K (.ref C) "__getattribute__"=some (some (.builtin "BaseException.__getattribute__"))
 gn:NO K (.ref C) "__getattr__"=some none
 hd:P5 K C=true
 sa:NO K (.ref C) "__setattr__"=some (some (.builtin "object.__setattr__"))
 mb:Rf K C (.type "BaseException")=some true
 mo:Rf K C (.type "object")=some true
 ca:NO K (.ref C) "__class__"=some (some (.builtin "object.__class__"))
 cg:P7 K (.builtin "object.__class__") "__get__"=some (some (.builtin "getset_descriptor.__get__"))
 ct:QB K (.builtin "object.__class__")=some true
variable{name:Str}{ox:Obj}
variable{tk:Tok}
section
variable{E:Value->Shared->Prop}{K:Nb}{x:Addr}{od:Option Obj}
def yw:builtinKind "BaseException.__getattribute__"=some .slot:=by decide +kernel
def vj:splitId "BaseException.__getattribute__"=some ("BaseException","__getattribute__"):=by decide +kernel
def zc{fill expr:Bool}(c:cS K C)(X:K.In s.heap)(I:OQ s.heap x ox C od)(h:wpAny ↑11 A.in1 (Builtin.«object.__getattribute__» ⟨[.ref x,.str name tk],[]⟩) (λfin s'=>match fin with|.done (.ret v)=>wpAny ↑11 A (handedOut v) Q E s'|_=>False) (λ_ _=>False) s):wpAny ↑11 A (getAttrBy (.ref x) (.str name tk) fill expr) Q E s:=by
 have KU:(Qq "BaseException.__getattribute__" == Qq "object.__getattribute__")=false:=by decide +kernel
 have Ml:(onTheHeap (Nj C)&&Qq "BaseException.__getattribute__" == Qq "object.__getattribute__")=false:=by rw[KU];rfl
 have hx0:(expr&&onTheHeap (Qq "BaseException.__getattribute__"))=false:=by cases expr<;>rfl
 have sub:PB ↑11 s.heap (isInstance (.ref x) (.type "BaseException")) true:=I.type.andThen (QK X c.mb);unfold getAttrBy;refine Ou (Na (I.type.here (Na ((Pg X c.ga).here ?_))));dsimp only;rw[Ml,if_neg N1];unfold getAttrByItsOwn hookBefore;refine Na ?_;show wpAny _ _ (typeLookup (.ref C) "__getattr__") _ _ _;refine(Pg X c.gn).here ?_;refine Na (Qp (Ou ?_));unfold callGetattribute;rw[hx0,if_neg N1];unfold boundAndCalled;refine Na (wpAny_of_eq (Rn.ga.bind _) ?_);refine Q3 (RO Rn.ga.plain PySem.F.entry_bexc_ga (@R_ ↑11 _ _ s "BaseException.__getattribute__" "BaseException" "__getattribute__" (.ref x) [.str name tk] [] _ yw vj sub (PySem.F.args_bexc_ga _ _) ?_));refine Ow h (λfin s' z=>?_) (λ_ _ z=>z.elim);rcases fin with (v|_|_|_)|_<;>first|exact z|exact z.elim
def vV{v:Value}(c:cS K C)(X:K.In s.heap)(I:OQ s.heap x ox C od)(hf:QD K C od name=some (.value v))(hh:handedOut v=pure v)(h:Q v { s with toks:=s.toks+1 }):wpAny ↑11 A (getAttr (.ref x) name b) Q E s:=by
 unfold getAttr;refine Na (wpAny_mkText (zc (s:={ s with toks:=s.toks+1 }) c X I ?_));unfold Builtin.«object.__getattribute__»;refine Na (Nh ?_);dsimp only;refine Na (Nh ?_);refine Na (I.type.here (s:={ s with toks:=s.toks+1 }) (Na ((Sa X I hf).here (s:={ s with toks:=s.toks+1 }) ?_)));refine Nh ?_;show wpAny _ _ (handedOut v) _ _ _;rw[hh];exact Nh h
end
variable{newId:String}{dd:Option Addr}
variable{f:Addr}
section
open PySem.Builtin.ObjectAttr (storeInOwnDict storeTaker? setByDescriptor)
abbrev eg:List Value:=[.type "ValueError",.type "Exception",.type "BaseException",.type "object"]
def ff:List Value->Bool
 | .ref _::r=>ff r
 |l=>l==eg
def l7(self:Value):refuseLoop self "__setattr__" eg=pure ():=by kernel_rfl
theorem la(self:Value):∀{l:List Value},ff l=true->refuseLoop self "__setattr__" l=pure ()
 | .ref c::r,e=>by rw[PySem.refuseLoop_ref];exact la self e
 | [],e=>by cases (show false=true from e)
 | .type n::r,e=>by rw[show Ov n::r=eg from beq_iff_eq.mp e];exact l7 self
 |.none::r,e=>by rw[show NQ::r=eg from beq_iff_eq.mp e];exact l7 self
section
variable{E:Value->Shared->Prop}{K:Nb}{x:Addr}{od:Option Obj}
def nL{a g:Value}(hc:(O4 K C).isSome=true)(ha:NO K (.ref C) name=some (some a))(hg:P7 K a "__get__"=some (some g))(ht:QB K a=some true):QD K C od name=some (.bind g a):=by
 obtain⟨cd,hc⟩:=Px.mp hc;unfold QD;rw[hc,S5,ha,S5];simp[hg,ht]
def vM{Q:Option Value->Shared->Prop}(c:cS K C)(X:K.In s.heap)(I:OQ s.heap x ox C od)(h:Q (some (.ref C)) { s with toks:=s.toks+1 }):wpAny ↑11 A (getAttr? (.ref x) "__class__") Q E s:=by
 have hc:(O4 K C).isSome=true:=by obtain⟨cd,hc,_⟩:=O8 c.hd;rw[hc];rfl
 have hf:QD K C od "__class__"=some (.bind (.builtin "getset_descriptor.__get__") (.builtin "object.__class__")):=nL hc c.ca c.cg c.ct;unfold getAttr? getAttrBy?;refine Na (wpAny_mkText (Na (Qp ?_)));refine zc (s:={ s with toks:=s.toks+1 }) c X I ?_;unfold Builtin.«object.__getattribute__»;refine Na (Nh ?_);dsimp only;refine Na (Nh ?_);refine Na (I.type.here (s:={ s with toks:=s.toks+1 }) (Na ((Sa X I hf).here (s:={ s with toks:=s.toks+1 }) ?_)));show wpAny _ _ (holding [.builtin "object.__class__"] (call (.builtin "getset_descriptor.__get__") [.builtin "object.__class__",.ref x,.ref C]) >>= ret) _ _ _;refine Na (Ou (Q3 (PySem.W.class_get (s:={ s with toks:=s.toks+1 }) (ox:=ox) (od:=od) X I c.mo ?_)));refine Nh ?_;exact PySem.W.handed_on rfl (Nh h)
def jU(c:cS K C):TY K (.ref x) (.ref C) (λh=>OQ h x ox C od) where
 ty:=λ_ _ _ I=>I.type
 it:=λ_ _ X _=>by
  obtain⟨cdD,LV,_⟩:=O8 c.hd;unfold O4 at LV
  split at LV
  .rename_i c' d' cd' sl' ho;intro A' Q' E' s' k q;unfold isType loadHead;exact Na (P6 (k _ _ (X _ _ ho)) (Nh q))
  .cases LV
 ne:=λh tp dd J2 n sl X Mu=>by
  obtain⟨cdD,LV,_⟩:=O8 c.hd;refine Bool.eq_false_iff.mpr λq=>?_;have e:C=tp:=Value.ref.inj (beq_iff_eq.mp q);subst e;unfold O4 at LV
  split at LV
  .rename_i c' d' cd' sl' ho;have z:=(X _ _ ho).symm.trans Mu;cases z
  .cases LV
 ca:=λX I k=>vM c X I k
def Ac{v:Value}{R:Result->Shared->Prop}(po:((O4 K C).any λcd=>ff cd.mro)=true)(c:cS K C)(X:K.In s.heap)(I:OQ s.heap x ox C od)(ht:PF K C name=some none)(h:∀b,wpAny ↑11 A.in1 (storeInOwnDict (.ref x) (.ref C) (.str name tk) name v b) (λfin s'=>match fin with|.done f=>R (.ok f) s'|.again c'=>c'.quiet=true/\codeAny ↑11 A c' R s') (λe s'=>R (.error e) s') s):codeAny ↑11 A (.call (.builtin "object.__setattr__") ⟨[.ref x,.str name tk,v],[]⟩) R s:=by
 have SF:=PySem.F.store_object;obtain⟨cd,hc,ho⟩:=O8 po;have sub:PB ↑11 s.heap (isInstance (.ref x) (.type "object")) true:=I.type.andThen (QK X c.mo);refine RO SF.slot.plain SF.entry (@R_ ↑11 _ _ s "object.__setattr__" "object" "__setattr__" (.ref x) [.str name tk,v] [] _ SF.kind SF.split sub (SF.args (.ref x) (.str name tk) v) ?_);obtain⟨attr,ha,hr⟩:=Oq.mp ht;have hm:PB ↑11 s.heap (mroOf (.ref C)) cd.mro:=(QJ X hc).andThen .now;have L3:PB ↑11 s.heap (storeTaker? attr) none:=by
  cases attr with
  | none=>cases hr;exact .now
  | some a =>
   obtain⟨b,hb,e⟩:=Nf.mp hr;refine(PySem.W.looks_takesIn X hb).andThen ?_;cases b with
   | true=>cases e
   | false=>exact .now
 rw[PySem.W.osa_eq,PySem.refuse_eq];refine Na (Na (I.type.here (Na (hm.here ?_))));rw[la _ ho];refine Nh (Na (I.type.here (Na ((Pg X ha).here (Na (L3.here ?_))))));exact h _
def zL{vs:Array Value}{v:Value}{Q:Unit->Shared->Prop}(po:((O4 K C).any λcd=>ff cd.mro)=true)(c:cS K C)(X:K.In s.heap)(hx:s.heap.get? x=some ⟨.ref C,none,.fields vs,#[]⟩)(ht:PF K C name=some none)(h:∀h' tk d,h'.get? x=some ⟨.ref C,some d,.fields vs,#[]⟩->s.heap.get? d=none->h'.Ns1 d (λy=>if y=name then some v else none)->(∀b o,b≠x->s.heap.get? b=some o->h'.get? b=some o)->Q () { s with heap:=h',toks:=tk }):wpAny ↑11 A (setAttr (.ref x) name v) Q E s:=by
 have I:OQ s.heap x ⟨.ref C,none,.fields vs,#[]⟩ C none:=⟨hx,rfl,rfl,trivial⟩
 refine So X I c.sa (Ac (s:={ s with toks:=s.toks+1 }) po c X I ht λb=>?_);obtain⟨cd,hc,MP⟩:=O8 c.hd;have KJ:=Nk hx;refine Na (Nh (Na (Na (P6 hx (Na (R5 (s:={ s with toks:=s.toks+1 }) (QJ X hc) ?_))))));rw[MP];refine Na (wpAny_alloc ?_);have Ml:(s.heap.push { cls:=.type "dict",data:=.dict #[] }).get? x=some ⟨.ref C,none,.fields vs,#[]⟩:=Nc _ hx;refine Na (wpAny_update Ml ?_);refine Nh (a:=some s.heap.objs.size) (Na (Nh (Na ?_)));have KU:((s.heap.push { cls:=.type "dict",data:=.dict #[] }).update x λo=>{ o with dict:=some s.heap.objs.size }).get? x=some ⟨.ref C,some s.heap.objs.size,.fields vs,#[]⟩:=OE _ Ml rfl;have e1:(s.heap.push { cls:=.type "dict",data:=.dict #[] }).get? s.heap.objs.size=some { cls:=.type "dict",data:=.dict #[] }:=Nq s.heap rfl;have nxd:s.heap.objs.size≠x:=O_ KJ;have e2:((s.heap.push { cls:=.type "dict",data:=.dict #[] }).update x λo=>{ o with dict:=some s.heap.objs.size }).get? s.heap.objs.size=some { cls:=.type "dict",data:=.dict #[] }:=by
  rwa[N2 _ _ (OL nxd)]
 have e3:((s.heap.push { cls:=.type "dict",data:=.dict #[] }).update x λo=>{ o with dict:=some s.heap.objs.size }).Ns s.heap.objs.size (λ_=>none):=⟨_,#[],_,e2,rfl,(λe he=>absurd he ↑13),λ_=>rfl⟩
 refine wpAny_nsSet1 (s:={ s with heap:=(s.heap.push { cls:=.type "dict",data:=.dict #[] }).update x λo=>{ o with dict:=some s.heap.objs.size },toks:=s.toks+1 }) (Su e3) λh' Mf KQ=>?_;obtain⟨oD,esD,epD,hoD,hdD,LV⟩:=Mf.count (Sq (ns:=[]) name v (λy hy=>absurd rfl hy));refine Na (wpAny_lookBehind hoD (by rw[hdD];exact pastItsLine_dict (NZ LV (by show 1<=sizeLine+1;exact Nat.le_add_left _ _))) ?_);refine Nh (h h' _ s.heap.objs.size ((KQ.2 x (OL nxd)).trans KU) (Pe (Np _)) Mf λb o hb e=>?_);refine(KQ.2 b (Ny (Nk e))).trans ?_;rw[N2 _ _ (OL hb)];exact Nc _ e
end
def mC(K:Nb)(C:Addr)(newId:String)(f:Addr):Bool:=match K.lookup C with
 | some ⟨.type "type",_,.cls cd,sl⟩=>(match cd.mro,sl.toList with
  | .ref C'::bm,[_,_,_,_,some (.builtin n),_]=>C'==C&&n==newId&&!cd.hasDel&&PySem.W.tailIn K eg bm&&PySem.W.nsOkIn K cd.ns&&RC K cd.ns "__init__" == some (some (.ref f))
  | _,_=>false)
 |_=>false
section
variable{E:Value->Shared->Prop}{g:Array GenState}{d:Drawn}{t:Nat}{os:OsState}
variable{nm q:Str}{N:Addr}{bs bm:List Value}{Lw:Bool}{sn:List Str}{sub:List Value}{ab:Bool}{col:Option Bool}{k0 k1 k2 k3 k5:Option Value}{Mv:String}
def mK(F:ExcBaseFacts "ValueError" newId Mv eg)(T:OwnTail h eg bm){mN:Str->Option Value}{rest:List Value}{Q:Fin->Shared->Prop}(hC:h.get? C=some (excClassObj nm q C N bs bm Lw sn sub ab col dd k0 k1 k2 k3 k5 newId))(hn:h.Ns N mN)(LK:mN "__init__"=some (.ref f))(hb:∀h':Heap,(∀b o,h.get? b=some o->h'.get? b=some o)->∀self,PB ↑11 h' (bindSpecial (.ref f) self) (.ref f,[self]))(hq:∀h':Heap,(∀b o,h.get? b=some o->h'.get? b=some o)->h'.get? h.objs.size=some { cls:=.type "tuple",data:=.seq rest.toArray } ->h'.get? (h.objs.size+1)=some { cls:=.ref C,data:=.fields #[.ref h.objs.size,.none,.none,.none,.bool false,.none] }->h'.objs.size=h.objs.size+2 ->wpAny ↑11 A (call (.ref f) (.ref (h.objs.size+1)::rest)) (λv s'=>v=.none/\Q (.done (.ret (.ref (h.objs.size+1)))) s') E ⟨h',g,d,t,os⟩)(xN:rest.length<=sizeLine:=by size_fits):wpAny ↑11 A (Builtin.«type.__call__» ⟨.ref C::rest,[]⟩) Q E ⟨h,g,d,t,os⟩:=by
 repeat (first|with_reducible refine Rb hC ?_|with_reducible refine wpAny_madeBy_exc hC ?_|wp_step)
 refine codeAny_call_builtin_code (Sb _ F.quiet) (wpAny_check_new_subT F T hC ?_);refine codeAny_exc_new_subT F T hC ?_ xN;show wpAny _ _ _ _ _ _;have kp:∀b o,h.get? b=some o->((h.push { cls:=.type "tuple",data:=.seq rest.toArray }).push { cls:=.ref C,data:=.fields #[.ref h.objs.size,.none,.none,.none,.bool false,.none] }).get? b=some o:=λb o e=>Nc _ (Nc _ e);have hC1:=kp _ _ hC;have hn1:((h.push { cls:=.type "tuple",data:=.seq rest.toArray }).push { cls:=.ref C,data:=.fields #[.ref h.objs.size,.none,.none,.none,.bool false,.none] }).Ns N mN:=hn.keeps kp;have MS:((h.push { cls:=.type "tuple",data:=.seq rest.toArray }).push
   { cls:=.ref C,data:=.fields #[.ref h.objs.size,.none,.none,.none,.bool false,.none] }).get? (h.objs.size+1)=some
   { cls:=.ref C,data:=.fields #[.ref h.objs.size,.none,.none,.none,.bool false,.none] }:=by heap_get
 have htup:((h.push { cls:=.type "tuple",data:=.seq rest.toArray }).push
   { cls:=.ref C,data:=.fields #[.ref h.objs.size,.none,.none,.none,.bool false,.none] }).get? h.objs.size=some { cls:=.type "tuple",data:=.seq rest.toArray }:=Nc _ (Nq _ rfl)
 have La:((h.push { cls:=.type "tuple",data:=.seq rest.toArray }).push { cls:=.ref C,data:=.fields #[.ref h.objs.size,.none,.none,.none,.bool false,.none] }).objs.size=h.objs.size+2:=by rw[N4,N4]
 have hcC:(Nj C::bm).contains (.ref C)=true:=by simp
 have T1:=T.keeps kp;have hb₁:=hb _ kp (.ref (h.objs.size+1));have fin:=hq _ kp htup MS La;generalize ((h.push { cls:=.type "tuple",data:=.seq rest.toArray }).push { cls:=.ref C,data:=.fields #[.ref h.objs.size,.none,.none,.none,.bool false,.none] })=h1 at *;unfold isInstance
 repeat (first|with_reducible refine Rb MS ?_|(with_reducible refine wpAny_isSubtype_exc hC1 ?_;rw[hcC])|wp_step)
 show wpAny _ _ (typeLookup (.ref C) _) _ _ _;refine wpAny_typeLookup_tail hC1 hn1 T1 F.mroIs F.init.lookup ?_;rw[LK];refine Ou (Na (hb₁.here ?_));refine Na (Ow fin (λv s' z=>?_) λ_ _ z=>z);obtain⟨rfl,z⟩:=z
 wp_walk
 exact z
end
end
def fz(C:Addr)(dd:Option Addr)(e:Addr):HO:=.ext λh=>∃vs,h.get? e=some ⟨.ref C,dd,.fields vs,#[]⟩
def Ar{e:Addr}{vs:Array Value}(he:h.get? e=some ⟨.ref C,dd,.fields vs,#[]⟩):bz P w H h e (fz C dd e) :=
 ⟨⟨vs,he⟩,⟨_,he⟩,λ_ _ ⟨vs,q⟩ k=>⟨vs,k _ q⟩⟩
def ExcAt(H:Hp)(e C:Addr)(fo:Option (List (Str×V))):Prop:=match fo with
 | none=>H e=some (fz C none e)
 |some fs=>∃d,H e=some (fz C (some d) e)/\H d=some (.xd fs)
def Inv.mL(I:Inv X JX σ H s){e:Addr}(he:H e=some (fz C dd e)):∃vs,s.heap.get? e=some ⟨.ref C,dd,.fields vs,#[]⟩:=(I.bo e _ he).1
def Inv.lM(I:Inv X JX σ H s){e:Addr}{fo:Option (List (Str×V))}(h:ExcAt H e C fo):∃ox od,OQ s.heap e ox C od/\(fo=none->od=none) ∧∀fs,fo=some fs->∃(o:Obj)(mA:Str->Option Value),od=some o/\(∀n,P4 n o=some (mA n))/\∀f,jD (fs.lookup f) (mA f):=by
 cases fo with
 | none =>
  obtain⟨vs,q⟩:=I.mL h;exact⟨_,none,⟨q,rfl,rfl,trivial⟩,λ_=>rfl,λfs z=>(by cases z)⟩
 | some fs =>
  obtain⟨d,h1,h2⟩:=h;obtain⟨vs,q⟩:=I.mL h1;obtain⟨mA,n,r⟩:=(show ∃mA,s.heap.Ns1 d mA/\∀f,jD (fs.lookup f) (mA f) from I.bo d _ h2)
  obtain⟨o,ho,hl⟩:=kz n;refine⟨_,some o,⟨q,rfl,rfl,ho⟩,λz=>(by cases z),λfs' z=>?_⟩;cases z;exact⟨o,mA,rfl,hl,r⟩
def Inv.ql(I:Inv X JX σ H s)(hn:s.heap.get? a=none):H a=none:=by
 cases q:H a with
 | none=>rfl
 | some u =>
  exfalso;have:∀(u:HO),bz X.prog X.w H s.heap a u->∃ob,s.heap.get? a=some ob:=by
   intro u
   induction u with
   | lst xs=>intro ⟨_,_,_,_,e⟩;exact⟨_,e⟩
   | tup xs=>intro ⟨_,_,_,p⟩;obtain⟨ob,e,_⟩:=p;exact⟨ob,e⟩
   | dK Kj=>intro ⟨_,_,_,_,p⟩;obtain⟨ob,_,_,e,_⟩:=p;exact⟨ob,e⟩
   | dT Kj=>intro ⟨_,_,_,_,ob,_,_,e,_⟩;exact⟨ob,e⟩
   | set S n=>intro p;obtain⟨es,ob,xs,ep,e,_⟩:=p;exact⟨_,e⟩
   | ins C dx fs=>intro ⟨_,_,_,e,_⟩;exact⟨_,e⟩
   | own x=>intro ⟨ob,e⟩;exact⟨ob,e⟩
   | xd fs=>intro ⟨mA,n,_⟩;obtain⟨ob,e,_⟩:=kz n;exact⟨ob,e⟩
   | met f x=>intro e;exact⟨_,e⟩
   | Ak lo hi=>intro ⟨_,_,_,e⟩;exact⟨_,e⟩
   | k9 o u _=>intro ⟨e,_⟩;exact⟨_,e⟩
   | BS ps=>intro e;exact⟨_,e⟩
   | ext φ=>intro ⟨_,⟨ob,e⟩,_⟩;exact⟨ob,e⟩
  obtain⟨ob,e⟩:=this u (I.bo a u q);rw[hn] at e;cases e
def Inv.BG(I:Inv X JX σ H s)(k:∀b u,s.heap.get? b=some u->h'.get? b=some u)(hn:s.heap.get? a=none)(new:bz X.prog X.w (upd H a o) h' a o):Inv X JX σ (upd H a o) { s with heap:=h',toks:=t' }:=by
 have ne:∀b u,s.heap.get? b=some u->b≠a:=λb u e z=>by rw[z,hn] at e;cases e
 have LZ:H a=none:=I.ql hn;have L6:∀b u,H b=some u->b≠a:=λb u e z=>by rw[z,LZ] at e;cases e
 refine I.un ⟨λb u e _ _ _=>k b u e,λb u e _ _ _=>⟨u.slots,k b u e⟩,λb u e n _=>by rwa[aq (ne b u e)],λb u e _=>⟨u,k b u e⟩,
  λb xs e=>by rwa[aq (L6 b _ e)],λb ob u e=>by rwa[aq (L6 b _ e)],λb ps e=>⟨#[],by rw[aq (L6 b _ e),e];simp⟩⟩ λb u e=>?_
 by_cases z:b=a
 .subst z;rw[av] at e;cases e;exact new
 .rw[aq z] at e;refine(I.bo b u e).jd (λc v _ q=>k c v q) (λc q=>?_) λc ys q=>?_
  .rw[aq (L6 c _ q)];exact q
  .rw[aq (L6 c _ q)];exact q
variable{apos:Pos}{m:Str}{ta:TE}
section
variable{o:Expr}{f:Str}
def Ib(K:Nb):List V->Hp->VK->Prop:=λxs H Q=>∃e C fo b,cS K C/\ExcAt H e C fo ∧
 ((∃T,xs=[.ref e,.ty T]/\Ng K (.ref C) (.type T)=some b)\/(∃D,xs=[.ref e,.ref D]/\Ng K (.ref C) (.ref D)=some b))/\Q (.bl b) H
def mD:bX X (.builtin "isinstance") (Ib X.K):=by
 intro JX s σ H xs us Q I r h;obtain⟨e,C,fo,b,c,ha,hc,q⟩:=h;obtain⟨ox,od,J,_⟩:=I.lM ha;rcases hc with ⟨T,rfl,hk⟩|⟨D,rfl,hk⟩
 .cases r with
  | cons r1 r2 =>
   cases r2 with
   | cons r3 r4 =>
    cases r4;cases (show _=Nj e from r1);cases (show _=Ov T from r3);exact NW (jU c) I.gi J hk (λz=>nomatch z) λtk=>⟨.bl b,H,I.tok tk,rfl,q⟩
 .cases r with
  | cons r1 r2 =>
   cases r2 with
   | cons r3 r4 =>
    cases r4;cases (show _=Nj e from r1);cases (show _=Nj D from r3);exact NW (jU c) I.gi J hk (λz=>nomatch z) λtk=>⟨.bl b,H,I.tok tk,rfl,q⟩
def FF(K:Nb)(ta:TE)(f:Str):TE:=fun σ H Q=>ta σ H λx H1=>∃e C fs v,x=.ref e/\ExcAt H1 e C (some fs)/\cS K C/\bM K C f/\fs.lookup f=some v/\Q v H1
def AW(he:PE X o ta)(hb:attributeBase o f X.env (eval o X.env)=eval o X.env):PE X (.Attribute o f pos) (FF X.K ta f):=by
 intro JX s σ H Q I h;refine uS hb (cn (he JX s σ H _ I h) λu s1 ⟨x,H1,I1,rx,e,C,fs,v,ex,ha,c,n,l,q⟩=>?_);subst ex;obtain rfl:u=Nj e:=rx;obtain⟨ox,od,J,_,hfo⟩:=I1.lM ha;obtain⟨o',mA,rfl,hl,hr⟩:=hfo fs rfl;obtain⟨u',hu,ru⟩:=jD.some_of (v:=v) (o:=mA f) (by rw[<- l];exact hr f);exact vV c I1.gi J (RU c.hd n rfl (by rw[hl,hu])) (PySem.W.handedOut_of (og ru)) ⟨v,H1,I1.tok _,ru,q⟩
end
variable{mg:Str->Option Value}
def tR{K:Nb}{N:Addr}{n:Str}{v:Value}(X:K.In h)(G:h.Ns N mg)(e:RC K N n=some (some v)):mg n=some v:=by
 obtain⟨o,es,ep,ho,hd,_,hf⟩:=G;unfold RC at e
 split at e
 .rename_i c d es' n' sl q;have:=X _ _ q;rw[ho] at this;cases this;cases hd
  split at e
  .rename_i en he;cases e;rw[<- hf];unfold nsFind findBy;rw[<- R4,he];rfl
  .split at e<;>cases e
 .cases e
def Au{K:Nb}(X:K.In h)(q:Qs K C eg newId=true):∃bm N nm qn bs Lw sn sub ab col dd k0 k1 k2 k3 k5 mN,h.get? C=some (excClassObj nm qn C N bs bm Lw sn sub ab col dd k0 k1 k2 k3 k5 newId)/\h.Ns N mN/\mN "__init__"=none/\OwnTail h eg bm:=by
 unfold Qs at q
 split at q
 .rename_i dd cd sl ho
  split at q
  .rename_i C' bm k0 k1 k2 k3 n k5 hm hs;simp only[Oo,beq_iff_eq,SJ] at q;obtain⟨⟨⟨⟨⟨rfl,rfl⟩,LW⟩,ht⟩,bo⟩,LK⟩:=q;obtain⟨nm,bs,mro,ns,qn,hd,sn,sub,ab,col,del⟩:=cd;dsimp only at hm LW bo LK;subst hm LW;have hsl:sl=#[k0,k1,k2,k3,some (.builtin n),k5]:=by
    obtain⟨l⟩:=sl;simp only at hs;rw[hs]
   subst hsl;exact⟨bm,ns,nm,qn,bs,hd,sn,sub,ab,col,dd,k0,k1,k2,k3,k5,_,X _ _ ho,.of_isNs (Sd X bo),PySem.W.nsMap_none_of_in X bo LK,Se X ht⟩
  .cases q
 .cases q
def zt{K:Nb}(X:K.In h)(q:mC K C newId f=true):∃bm N nm qn bs Lw sn sub ab col dd k0 k1 k2 k3 k5 mN,h.get? C=some (excClassObj nm qn C N bs bm Lw sn sub ab col dd k0 k1 k2 k3 k5 newId)/\h.Ns N mN/\mN "__init__"=some (.ref f)/\OwnTail h eg bm:=by
 unfold mC at q
 split at q
 .rename_i dd cd sl ho
  split at q
  .rename_i C' bm k0 k1 k2 k3 n k5 hm hs;simp only[Oo,beq_iff_eq,SJ] at q;obtain⟨⟨⟨⟨⟨rfl,rfl⟩,LW⟩,ht⟩,bo⟩,LK⟩:=q;obtain⟨nm,bs,mro,ns,qn,hd,sn,sub,ab,col,del⟩:=cd;dsimp only at hm LW bo LK;subst hm LW;have hsl:sl=#[k0,k1,k2,k3,some (.builtin n),k5]:=by
    obtain⟨l⟩:=sl;simp only at hs;rw[hs]
   subst hsl;have hN:=Heap.Ns.of_isNs (Sd X bo);exact⟨bm,ns,nm,qn,bs,hd,sn,sub,ab,col,dd,k0,k1,k2,k3,k5,_,X _ _ ho,hN,tR X hN LK,Se X ht⟩
  .cases q
 .cases q
variable{k:Nat}{t:TA}{es:List Expr}{e:Expr}{sp:Sp}{ps:List Str}{fd:FuncData}
section
variable{p:Pos}
end
section
open PySem.SeqAt (shaped noMix noMixAll)
end
section
open PySem.SeqAt (shaped noMix noMixAll)
def Bu{x:V}{u t:Value}(I:Inv X JX σ H s)(rx:RelV x u)(ty:gm X.K H x t):∃HH:Heap->Prop,TY X.K u t HH/\HH s.heap/\u≠.builtin "__main__.__loader__#opaque" := by
 cases ty with
 | aJ=>cases (show u=NQ from rx);exact⟨_,Sv,OI,λz=>nomatch z⟩
 | bl y=>cases (show u=OP y from rx);exact⟨_,Sw,OI,λz=>nomatch z⟩
 | int i=>obtain⟨t,q⟩:=(show ∃t,u=Rj i t from rx);cases q;exact⟨_,SS,OI,λz=>nomatch z⟩
 | str y=>obtain⟨t,q⟩:=(show ∃t,u=Rk y t from rx);cases q;exact⟨_,SW,OI,λz=>nomatch z⟩
 | B1 y=>obtain⟨t,q⟩:=(show ∃t,u=RM y t from rx);cases q;exact⟨_,R6,OI,λz=>nomatch z⟩
 | @lst a xs ea =>
  cases (show u=Nj a from rx);obtain⟨_,_,n,_,h1⟩:=(show bz X.prog X.w H s.heap a (.lst xs) from I.bo a _ ea)
  exact⟨_,P8,⟨_,h1,rfl⟩,λz=>nomatch z⟩
 | @k9 a ob xs ea =>
  cases (show u=Nj a from rx);obtain⟨_,_,_,n,_,h1⟩:=(show bz X.prog X.w H s.heap a (.k9 ob (.lst xs)) from I.bo a _ ea)
  exact⟨_,P8,⟨_,h1,rfl⟩,λz=>nomatch z⟩
 | @tup a xs ea =>
  cases (show u=Nj a from rx);obtain⟨_,_,_,o,h1,h2,_⟩:=(show bz X.prog X.w H s.heap a (.tup xs) from I.bo a _ ea)
  exact⟨_,R7,⟨o,h1,h2⟩,λz=>nomatch z⟩
 | @dK a Kj ea =>
  cases (show u=Nj a from rx);obtain⟨_,_,vs,_,o,es,ep,h1,h2,_⟩:=(show bz X.prog X.w H s.heap a (.dK Kj) from I.bo a _ ea)
  exact⟨_,P9,⟨o,h1,h2.1⟩,λz=>nomatch z⟩
 | @dT a Kj ea =>
  cases (show u=Nj a from rx);obtain⟨_,_,xs,_,o,es,ep,h1,h2,_⟩:=(show bz X.prog X.w H s.heap a (.dT Kj) from I.bo a _ ea)
  exact⟨_,P9,⟨o,h1,h2.1⟩,λz=>nomatch z⟩
 | @ins a C dx fs ea cl ha hn EI hm =>
  cases (show u=Nj a from rx);obtain⟨mA,O,_⟩:=ju I.bo ea;obtain⟨od,J,_⟩:=O.look;exact⟨_,SX (cl.get _) cl.hd ha hn EI hm,J,λz=>nomatch z⟩
def FI(K:Nb):List V->Hp->VK->Prop:=λxs H Q=>∃(x:V)(tp:Addr)(Ts:List String)(t:Value)(b:Bool),xs=[x,.ref tp]/\H tp=some (.tup (Ts.map V.ty))/\gm K H x t/\Oi K t (Ts.map Ov)=some b/\Q (.bl b) H
theorem vd:∀{Ts:List String}{us:List Value},Vals (Ts.map V.ty) us->us=Ts.map Ov
 | [],us,r=>by rw[QT] at r;cases r;rfl
 | T::Ts,us,r=>by
  rw[NJ] at r;cases r with
  | cons r1 r2 =>
   cases (show _=Ov T from r1);rw[vd r2];rfl
def wm:bX X (.builtin "isinstance") (FI X.K):=by
 intro JX s σ H xs us Q I r h;obtain⟨x,tp,Ts,t,b,rfl,Mu,ty,e,q⟩:=h;cases r with
 | cons r1 r2 =>
  cases r2 with
  | cons r3 r4 =>
   cases r4;cases (show _=Nj tp from r3);obtain⟨HH,Z,p,ne⟩:=Bu I r1 ty;obtain⟨_,J2,rv,o,h1,h2,n,h3⟩:=(show bz X.prog X.w H s.heap tp (.tup (Ts.map V.ty)) from I.bo tp _ Mu)
   have ei:=vd rv;subst ei;obtain⟨cls,dd,data,sl⟩:=o;dsimp only at h2 h3;subst h2 h3;exact RH Z I.gi p h1 e ne λtk=>⟨.bl b,H,I.tok tk,rfl,q⟩
theorem uv:∀{bs:List Bool}{us:List Value},Vals (bs.map V.bl) us->us=bs.map OP
 | [],us,r=>by rw[QT] at r;cases r;rfl
 | b::bs,us,r=>by
  rw[NJ] at r;cases r with
  | cons r1 r2 =>
   cases (show _=OP b from r1);rw[uv r2];rfl
def C1:bootBuiltins "all"=some (.builtin "all"):=by decide +kernel
def vX(hc:X.calm=true):bX X (.builtin "all") (λxs H Q=>∃(a:Addr)(bs:List Bool),xs=[.ref a]/\fj X.K H a (bs.map V.bl)/\Q (.bl (bs.all id)) H):=by
 intro JX s σ H xs us Q I r h;obtain⟨a,bs,rfl,hq,q⟩:=h;cases r with
 | cons r1 r2 =>
  cases r2;cases (show _=Nj a from r1);obtain⟨J2,rv,p,hz⟩:=I.list hq;have ei:=uv rv;subst ei;have hl:=p.isList;have KJ:a<s.heap.objs.size:=by obtain⟨_,e,_⟩:=hl;exact Nk e
  refine call_all_walk (PZ hl ?_);refine⟨s.heap.objs.size,[s.heap.objs.size,a],[s.heap.objs.size],(bs.map OP).toArray.size,_,_,λi=>(bs[i]?).getD true,rfl,Walks.list (A:=X.A.in1) (I.ok.hd hc) _ a (Ny KJ) (bs.map OP).toArray,
   ⟨⟨_,Nq _ rfl,rfl,rfl⟩,hl.push _⟩,λi v s' Q' E' hP hQ=>?_,λh' tk hk=>?_⟩
  .have hP':(bs.map OP)[i]?=some v:=by simpa using hP
   rw[NP] at hP';obtain⟨b,e1,e2⟩:=Nf.mp hP';subst e2;simp only[e1,Ro] at hQ;exact O0 hQ
  .have e:((ND (bs.map OP).toArray.size).all λi=>(bs[i]?).getD true)=bs.all id:=by
    rw[Nn,Nm];rw[QE,Ob,Ob];constructor
    .intro h b hb;obtain⟨i,hi,e⟩:=QL hb;have:=h i (NR.mpr hi);simp only[Nd hi,Ro,e] at this;exact this
    .intro h i hi;have hi':=NR.mp hi;simp only[Nd hi',Ro];exact h _ (Rp hi')
   rw[e];refine⟨.bl _,H,I.kept (t':=tk) (λb x e=>?_),rfl,q⟩;exact hk b x (λhm=>by rw[N3.mp hm] at e;exact OF _ (Nk e)) (Nc _ e)
end
section
open PySem.MeetsSeq PySem.MeetsSeq2 PySem.MeetsSeq3
def kE:fillsNumberSlot (.type "tuple") "mul"=pure false :=
 PySem.fillsNumberSlot_seq (id := "tuple.__mul__") (r:=some (.builtin "tuple.__rmul__")) F.slot_tuple_mul.lookup (by decide +kernel) F.slot_tuple_rmul.lookup (by decide +kernel)
def pG:seqRepeat? (.type "tuple")=pure (some (.builtin "tuple.__mul__")):=by
 unfold seqRepeat?;rw[S6 (T := "tuple") (name := "__mul__") (id := "tuple.__mul__") F.slot_tuple_mul.lookup (by decide +kernel),S6 (T := "tuple") (name := "__rmul__") (id := "tuple.__rmul__") F.slot_tuple_rmul.lookup (by decide +kernel)];rfl
def pA(a:Int)(t:Tok)(l:Addr)(JZ:Array Value)(n:Nat)(dd:Option Addr)(sl:Array (Option Value)):Meets (Builtin.«int.__rmul__» ⟨[.int a t,.ref l],[]⟩) (λ_ R s=>s.heap.get? l=some ⟨.type "tuple",dd,.seq JZ n,sl⟩/\R (.ok (.ret Value.notImplemented)) s) :=
 .of_wp λprog w A R s h=>by obtain⟨hp,g,d,tk,os⟩:=s;obtain⟨hl,h⟩:=h;wp_walk;exact⟨_,rfl,h⟩
def vk(l:Addr)(JZ:Array Value)(n:Nat)(dd:Option Addr)(sl:Array (Option Value))(u:Tok):Meets (Builtin.«tuple.__mul__» ⟨[.ref l,.int 1 u],[]⟩) (λ_ R s=>s.heap.get? l=some ⟨.type "tuple",dd,.seq JZ n,sl⟩/\R (.ok (.ret (.ref l))) s) :=
 .of_wp λprog w A R s h=>by
  obtain⟨hp,g,d,tk,os⟩:=s;obtain⟨hl,h⟩:=h;have f1:=Rq;have f2:=PC
  wp_walk using Oj hl
  exact⟨_,rfl,h⟩
def vD(l:Addr)(JZ:Array Value)(n:Nat)(dd:Option Addr)(sl:Array (Option Value))(x:Int)(u:Tok)(c0:¬ (decide (x < -2^63)||decide (x>=2^63))=true)(c1:¬ (JZ.isEmpty||x==1)=true)(c2:¬ (decide (x<=0)||JZ.isEmpty)=true)(c3:¬ (JZ.size:Int)*x>(2^63-1)/8)(c4:¬ Q4 ((JZ.size:Int)*x)=true)(La:(Q0 (λx1 x2=>x1++x2) #[] (Ni x.toNat JZ)).size<=sizeLine):Meets (Builtin.«tuple.__mul__» ⟨[.ref l,.int x u],[]⟩) (λ_ R s=>s.heap.get? l=some ⟨.type "tuple",dd,.seq JZ n,sl⟩/\R (.ok (.ret (.ref s.heap.objs.size))) { s with heap:=s.heap.push { cls:=.type "tuple",data:=.seq (Q0 (λx1 x2=>x1++x2) #[] (Ni x.toNat JZ)) },toks:=s.toks }) :=
 .of_wp λprog w A R s h=>by
  obtain⟨hp,g,d,tk,os⟩:=s;obtain⟨hl,h⟩:=h;have f1:=Rq;have f2:=PC
  wp_walk using Oj hl
  refine RI (decide_eq_false c0) ?_;wp_walk using Oj hl;refine RI (decide_eq_false c3) ?_;wp_walk using Oj hl;exact⟨_,rfl,h⟩
def vP(l:Addr)(JZ:Array Value)(n:Nat)(dd:Option Addr)(sl:Array (Option Value))(x:Int)(u:Tok)(c0:¬ (decide (x < -2^63)||decide (x>=2^63))=true)(c1:¬ (JZ.isEmpty||x==1)=true)(c2:(decide (x<=0)||JZ.isEmpty)=true):Meets (Builtin.«tuple.__mul__» ⟨[.ref l,.int x u],[]⟩) (λ_ R s=>s.heap.get? l=some ⟨.type "tuple",dd,.seq JZ n,sl⟩/\R (.ok (.ret (.ref s.heap.objs.size))) { s with heap:=s.heap.push { cls:=.type "tuple",data:=.seq #[] },toks:=s.toks }) :=
 .of_wp λprog w A R s h=>by
  obtain⟨hp,g,d,tk,os⟩:=s;obtain⟨hl,h⟩:=h;have f1:=Rq;have f2:=PC
  wp_walk using Oj hl
  refine RI (decide_eq_false c0) ?_;wp_walk using Oj hl;exact⟨_,rfl,h⟩
def B2(K:Nb):R2:=λx y H Q=>∃a k xs,x=.ref a/\y=.int k/\fg K H a xs/\xs≠[]/\-(2^63)<=k/\k<2^63/\xs.length*k.toNat<=sizeLine/\(k=1->Q (.ref a) H)/\(k≠1->∀p,H p=none->Q (.ref p) (upd H p (.tup (Ni k.toNat xs).flatten)))
theorem AH:fm X (binaryOp .Mult) (B2 X.K):=by
 intro JX s σ H x y v u Q I rx ry h;obtain⟨a,k,xs,rfl,rfl,hq,LP,h1,h2,hz,q1,q2⟩:=h;cases rx;obtain⟨t,rfl⟩:=ry;obtain⟨J2,r,⟨o,e,hc,n,hd⟩,_⟩:=I.tuple hq;obtain⟨cls,dd,data,sl⟩:=o;dsimp only at hc hd;subst hc hd;have hl:=r.length;refine Q8 (T := "tuple") (U := "int") ↑12 ⟨_,e,rfl⟩ (λs'=>RA s' k t) kE F.fills_int_mul F.slot_int_rmul pG F.slot_int_index.lookup
  (PL F.slot_int_rmul (RA s k t) F.entry_int_rmul (F.args_int_rmul_2 _ _) (pA k t a J2.toArray n dd sl) ⟨e,rfl,⟨_,e,rfl⟩,?_⟩)
 by_cases hk1:k=1
 .subst hk1;exact PL F.slot_tuple_mul ⟨_,e,rfl⟩ F.entry_tuple_mul (F.args_tuple_mul_2 _ _) (vk a J2.toArray n dd sl t) ⟨e,⟨.ref a,H,I,rfl,q1 rfl⟩⟩
 .have hb1:(k==1)=false:=by simpa using hk1
  have LK:J2≠[]:=λz=>LP (r.jm.mp z);have hie:J2.toArray.isEmpty=false:=by cases J2 with|nil=>exact absurd rfl LK|cons _ _=>rfl
  have c0:¬ (decide (k < -2^63)||decide (k>=2^63))=true:=by simp;lia
  have c1:¬ (J2.toArray.isEmpty||k==1)=true:=by rw[hie,hb1];simp
  have fin:∀ys,ys=(Ni k.toNat J2).flatten.toArray->EP X JX σ Q (.ref s.heap.objs.size) { s with heap:=s.heap.push { cls:=.type "tuple",data:=.seq ys },toks:=s.toks }:=λys ey=>by
   subst ey;refine⟨.ref s.heap.objs.size,_,I.laid (t':=s.toks) (o:=.tup (Ni k.toNat xs).flatten) (λb ob q=>Nc _ q) (Np _) ?_,rfl,q2 hk1 _ (I.bo.fresh (Np _))⟩;exact⟨by rwa[len_rep,QS],_,r.rep k.toNat,SY _ _⟩
  have K4:Q0 (λx1 x2=>x1++x2) #[] (Ni k.toNat J2.toArray)=(Ni k.toNat J2).flatten.toArray:=by
   have:=foldl_rep J2 k.toNat [];rwa[Tj] at this
  by_cases hk0:k<=0
  .have c2:(decide (k<=0)||J2.toArray.isEmpty)=true:=by rw[decide_eq_true hk0];rfl
   refine PL F.slot_tuple_mul ⟨_,e,rfl⟩ F.entry_tuple_mul (F.args_tuple_mul_2 _ _) (vP a J2.toArray n dd sl k t c0 c1 c2) ⟨e,fin _ ?_⟩;rw[show k.toNat=0 by lia];rfl
  .have c2:¬ (decide (k<=0)||J2.toArray.isEmpty)=true:=by rw[decide_eq_false hk0,hie];simp
   have em:((J2.toArray.size:Nat):Int)*k=((xs.length*k.toNat:Nat):Int):=by
    rw[Nn,<- hl,Int.natCast_mul,QM ⋯]
   have hs:(sizeLine:Int)<=(2^63-1)/8:=by decide
   refine PL F.slot_tuple_mul ⟨_,e,rfl⟩ F.entry_tuple_mul (F.args_tuple_mul_2 _ _) (vD a J2.toArray n dd sl k t c0 c1 c2 ?_ ?_ ?_) ⟨e,fin _ K4⟩
   .rw[em];lia
   .rw[em];unfold Q4;simp only[decide_eq_true_eq];lia
   .rw[K4,Nn,len_rep,QS,<- hl];exact hz
end
structure bC (K:Nb) (x qual:Str) (st:Stmt) (dv:Value) (f:Addr) (fd:FuncData):Prop where
 ex:∃(oc:Value)(od:Option Addr)(kV doc pm:Value)(an:Option Addr)(J6 ct:Value)(LM:Array (Option Value)),
  fd=N6 x qual (fJ st) (cK st) (aA st) dv kV doc pm an J6 ct/\K.lookup f=some ⟨oc,od,.func fd,LM⟩/\OG K J6 qual=true
 kp:NS K (.ref f)=true
variable{base:Heap}
variable{ds:List Value}{T:Addr}{qual:Str}
section
variable{K:Nb}
def bC.binds{st:Stmt}{o:Obj}(F:bC K x qual st (.ref T) f fd)(ho:K.lookup T=some o)(hs:o.data=.seq JZ n)(h:∀(kV doc pm:Value)(an:Option Addr)(J6 ct:Value)(us:List Value),(us++ds).length=ps.length->∃k,bindArgs (N6 x qual (fJ st) (cK st) (aA st) (.ref T) kV doc pm an J6 ct) ⟨us,[]⟩=seqItems? (.ref T) >>= k/\k (some JZ)=pure (ps.zip (us++ds))):Binds K fd ps ds:=by
 obtain⟨oc,od,kV,doc,pm,an,J6,ct,LM,rfl,lk,Ko⟩:=F.ex;intro s us X hl;obtain⟨k,h1,h2⟩:=h kV doc pm an J6 ct us hl;exact BindsTo.of_defaults rfl (X _ _ ho) hs h1 h2
end
variable{v:V}
def Fg(hg:Gl X x)(hm:∃u,X.mg x=some u/\RelV v u)(hd:autoParam ↑7 aD._auto_1):PE X (.Name x pos) (tC v):=by
 obtain⟨u,h1,h2⟩:=hm;exact jC hg h1 h2 hd
def zC:bootBuiltins "max"=some (.builtin "max"):=by decide +kernel
variable{y:Str}
def ux{cl:List (Str×Addr)}{Lf py:Pos}{wi:TI}{g:TG}{fs:List Str}(hN:X.N.Nodup)(MT:X.N[i]?=some y)(hy:Loc X.env.scope y)(J3:X.calm=true)(Ka:closureFor scope X.env=pure cl)(hk:scope.kind=.function)(nc:dM scope.names=true)(lo:e8 scope.names=true)(fh:fc cl scope.names=true)(ag:cX X cl)(fr:fI X scope cl fs js)(hi:PI X tg iter wi)(hg:∀C s₀ H₀ ex JX,PG (lQ X scope cl (ts++fs) C s₀ H₀ ex JX) tg g)(he:∀C s₀ H₀ ex JX,PE (lQ X scope cl (ts++fs) C s₀ H₀ ex JX) elt te)(hs:autoParam ↑5 aI._auto_1)(Mt:autoParam (swapsWith (.ListComp elt [⟨tg,iter,[],0⟩] scope pos) (some (.Name y py)) Lf.line X.env=pure true) aR._auto_1)(hf:autoParam (X.fn y=true\/X.env.scope.names.lookup y=some .local) aF._auto_1):PS X (.Assign [.Name y py] (.ListComp elt [⟨tg,iter,[],0⟩] scope pos) Lf) (CM (uq wi g te ts js) (bw i)):=by
 intro JX s σ H D I h;rw[exec_Assign_Name_used _ _ _ _ Mt];refine Na (Pw (Na ?_));show wpAny _ X.A (do let _ <- comprehension (.ListComp elt [⟨tg,iter,[],0⟩] scope pos) scope X.env _ (newList []) false (eval iter X.env) (some (assign (.Name y py) X.env))) _ _ s;refine Na (Ow (sC (tt:=none) J3 Ka hk nc lo fh ag fr hi hg (λ_ _ _ _ _=>trivial) he hs I (show yj wi g none te ts js σ H (λx H1=>D.nx (σ.set i (some x)) H1) from h) (some (assign (.Name y py) X.env)) (λ_ s'=>SP X JX D .next s') λDd H' s' C Io q hm f=>?_) (λ_ s' hq=>Nh (Nh hq)) λ_ _ e=>e);show wpAny _ X.A (assign (.Name y py) X.env (.ref Dd)) _ _ s';refine Sm (oH Io hN MT hy (v:=.ref Dd) rfl (λs'' I'' ⟨a,sb,ha⟩=>?_) hf);obtain⟨m,hn⟩:=hm;obtain⟨f0,f1,f2,f3,f4,f5⟩:=f;have naC:a≠C:=by
  rcases ha with z|z
  .rw[z];exact λw=>f1 w.symm
  .exact f4 y a z
 refine⟨m,hn.sameBut sb (OL naC),λh' MC=>?_⟩;exact⟨_,H',I''.other ⟨f0,f1,f2,f3,f4,f5⟩ MC,q⟩
section
variable{E:Value->Shared->Prop}
variable{b1 b2 b3:Bool}{z TI TO i1 i2 i3 l1 l2 l3:Addr}{k3:Nat}{xs zs:Array Value}{x y v a b c:Value}
end
section
variable{E:Value->Shared->Prop}
variable{b1 b2 b3:Bool}{z TI TO i1 i2 i3 l1 l2 l3:Addr}{k3:Nat}{xs zs:Array Value}{x y v a b c:Value}
end
section
variable{E:Value->Shared->Prop}
end
variable{oe:Obj}{outer:List Env}
variable{to:Option Addr}
section
variable{M:Model}{E:Value->Shared->Prop}
def n_{env:Env}{L e:Addr}{vs:Array Value}{head:Value}{Mc:Bool}{Q:Unit->Shared->Prop}
  (LZ:A.frames=some (env::outer)) (hl:s.heap.FunFrames base (env::outer)) (hf:env.frame=some L)
  (he:s.heap.get? e=some oe) (hd:oe.data=.fields vs) (La:1<vs.size)
  (h:∀h' T oT ts,h'.get? e=some (ON (·.setIfInBounds 1 (.ref T)) oe)->s.heap.objs.size<=T->T≠e->h'.get? T=some oT->oT.data=.fields ts->ts[3]?=some (rawInt L) ->
   (∀b o,b≠e->b ∉ sM (env::outer)->s.heap.get? b=some o->h'.get? b=some o)->(∀b o,b≠e->s.heap.get? b=some o->∃sl,h'.get? b=some { o with slots:=sl })->Q () { s with heap:=h' }) :
  wpAny M A (do let a <- frameOf env;let pl <- entryPlaceOf L Mc;let b <- RX head a .none (rawInt L) .none pl;setField (.ref e) 1 b) Q E s:=by
 have hene:e ∉ (env::outer).filterMap (·.frame):=λhm=>by
  obtain⟨_,o,ho,MY⟩:=hl.mem hm;rw[he] at ho;injection ho with ho;subst ho;exact MY vs hd
 refine Na (wpAny_frameOf_fun LZ hl hf λh₁ hs₁=>?_);refine Na (wpAny_entryPlaceOf λpl Kb=>?_);unfold RX newFields;refine Na (Oz ?_ (Kb.sizeOk5 _ _ _ _ _));have he1:h₁.get? e=some oe:=(hs₁.2.1 e hene).trans he;have he₂:=Nc (h:=h₁) { cls:=.type "traceback",dict:=none,data:=.fields ([head,.ref L,.none,rawInt L,.none]++(if pl.isEmpty then Ni 6 NQ else pl)).toArray } he1;have hTe:h₁.objs.size≠e:=O_ (Nk he1);have hd3:=OT hd (·.setIfInBounds 1 (Nj h₁.objs.size));have he3:=OE (ON (·.setIfInBounds 1 (Nj h₁.objs.size))) he₂ (Pd hd3);have hT₃:=(N2 (h₁.push { cls:=.type "traceback",dict:=none,data:=.fields ([head,.ref L,.none,rawInt L,.none]++(if pl.isEmpty then Ni 6 NQ else pl)).toArray })
  (ON (·.setIfInBounds 1 (Nj h₁.objs.size))) (OL hTe)).trans (Nq h₁ rfl)
 have keep:∀b o,b≠e->h₁.get? b=some o ->
   ((h₁.push { cls:=.type "traceback",dict:=none,data:=.fields ([head,.ref L,.none,rawInt L,.none]++(if pl.isEmpty then Ni 6 NQ else pl)).toArray }).update e (ON (·.setIfInBounds 1 (Nj h₁.objs.size)))).get? b=some o:=λb o LJ hb=>by
  rw[N2 _ _ (OL LJ)];exact Nc _ hb
 refine Qc he₂ hd La (h _ h₁.objs.size _ _ he3 ?_ hTe hT₃ rfl (by first|(simp;done)|(rcases Kb with rfl|⟨_,_,_,_,_,_,_,rfl⟩<;>simp)) ?_ ?_)
 .exact Ss hs₁.1.symm
 .intro b o LJ hbf hb;exact keep b o LJ ((hs₁.2.1 b hbf).trans hb)
 .intro b o LJ hb;obtain⟨sl,hs⟩:=hs₁.2.2 b o hb;exact⟨sl,keep b _ LJ hs⟩
def Lies(h:Heap)(e:Addr)(vs:Array Value)(to:Option Addr):Prop:=match to with
 | none=>vs[1]?=some .none
 |some T=>vs[1]?=some (.ref T)/\T≠e/\∃oT ts,h.get? T=some oT/\oT.data=.fields ts/\ts[3]?=some .none
def vY{env:Env}{L e:Addr}{vs:Array Value}{Q:Unit->Shared->Prop}(LZ:A.frames=some (env::outer))(hl:s.heap.FunFrames base (env::outer))(hf:env.frame=some L)(he:s.heap.get? e=some oe)(hd:oe.data=.fields vs)(hto:Lies s.heap e vs to)(h:∀h' T oT ts,h'.get? e=some (ON (·.setIfInBounds 1 (.ref T)) oe)->s.heap.objs.size<=T->T≠e->h'.get? T=some oT->oT.data=.fields ts->ts[3]?=some (rawInt L) ->(∀b o,b≠e->(∀T,to=some T->b≠T)->b ∉ sM (env::outer)->s.heap.get? b=some o->h'.get? b=some o) ->(∀b o,b≠e->(∀T,to=some T->b≠T)->s.heap.get? b=some o->∃sl,h'.get? b=some { o with slots:=sl })->(∀b o,s.heap.get? b=some o->∃o',h'.get? b=some o')->Q () { s with heap:=h' }):wpAny M A (noteFrame (.ref e) env) Q E s:=by
 unfold noteFrame;simp only[hf];cases to with
 | none =>
  have h1:vs[1]?=some .none:=hto;refine Na (NK he hd h1 ?_);rw[if_neg ↑12];refine n_ LZ hl hf he hd (N9.mp h1).1 λh' T oT ts a1 a2 a3 a4 a5 a6 a7 a8=>?_;refine h h' T oT ts a1 a2 a3 a4 a5 a6 (λb o n1 _ n2 q=>a7 b o n1 n2 q) (λb o n1 _ q=>a8 b o n1 q) λb o q=>?_
  by_cases z:b=e
  .subst z;exact⟨_,a1⟩
  .obtain⟨sl,r⟩:=a8 b o z q;exact⟨_,r⟩
 | some T0 =>
  obtain⟨h1,hTe,oT,ts,hT,hdT,h3⟩:=hto;refine Na (NK he hd h1 ?_);rw[if_pos (show (Nj T0 != NQ)=true from by simp)];refine Na (NK hT hdT h3 ?_);rw[if_neg (show ¬ ((NQ==rawInt L)=true) from by simp[rawInt])];refine Na (Qc hT hdT (N9.mp h3).1 ?_);have other:∀b,b≠T0->(s.heap.update T0 (ON (·.setIfInBounds 3 NQ))).get? b=s.heap.get? b:=λb hb=>N2 _ _ (OL hb);have L8:∀b o,s.heap.get? b=some o->(∀vs,o.data≠.fields vs)->b≠T0:=λb o hb MY q=>by
   rw[q,hT] at hb;injection hb with hb;subst hb;exact MY ts hdT
  have Mb:=OE (ON (·.setIfInBounds 3 NQ)) hT (Pd (OT hdT _));refine n_ LZ (hl.of_keeps λb o hb MY=>⟨o,(other b (L8 b o hb MY)).trans hb,rfl⟩) hf ((other e (OL hTe)).trans he) hd (N9.mp h1).1 λh' T oT' ts' a1 a2 a3 a4 a5 a6 a7 a8=>?_;refine h h' T oT' ts' a1 (by simpa [Heap.update] using a2) a3 a4 a5 a6 (λb o n1 n2 n3 q=>a7 b o n1 n3 ((other b (n2 T0 rfl)).trans q)) (λb o n1 n2 q=>a8 b o n1 ((other b (n2 T0 rfl)).trans q)) λb o q=>?_
  by_cases z:b=e
  .subst z;exact⟨_,a1⟩
  .by_cases z2:b=T0
   .subst z2;obtain⟨sl,r⟩:=a8 b _ z Mb;exact⟨_,r⟩
   .obtain⟨sl,r⟩:=a8 b o z ((other b z2).trans q);exact⟨_,r⟩
end
def iF(C:Addr)(dd:Option Addr)(e:Addr):HO:=.ext λh=>∃t,h.get? e=some ⟨.ref C,dd,.fields #[.ref t,.none,.none,.none,.bool false,.none],#[]⟩
def EM(C:Addr)(dd:Option Addr)(e T:Addr):HO:=.ext λh=>∃vs,h.get? e=some ⟨.ref C,dd,.fields vs,#[]⟩/\vs[1]?=some (.ref T)
def Jx(fl:Value)(T:Addr):HO:=.ext λh=>∃oT ts,h.get? T=some oT/\oT.data=.fields ts/\ts[3]?=some fl
def kc(Hc:Hp)(e T C:Addr)(dd:Option Addr)(fl:Value):Hp:=upd (upd Hc T (Jx fl T)) e (EM C dd e T)
variable{Hc:Hp}
def nq{e:Addr}{fl:Value}:kc Hc e T C dd fl e=some (EM C dd e T):=av
def mU{e:Addr}{fl:Value}(n:T≠e):kc Hc e T C dd fl T=some (Jx fl T):=by unfold kc;rw[aq n,av]
def gK{e b:Addr}{fl:Value}(n:b≠e)(n2:b≠T):kc Hc e T C dd fl b=Hc b:=by unfold kc;rw[aq n,aq n2]
def Inv.note{e:Addr}{vs:Array Value}{φ:Heap->Prop}{Q:Unit->Shared->Prop}{E:Value->Shared->Prop}(I:Inv X JX σ H s)(KA:X.stack=X.env::X.outer)(hf:X.env.frame=some X.env.locals)(he:H e=some (.ext φ))(hx:s.heap.get? e=some ⟨.ref C,dd,.fields vs,#[]⟩)(lies:Lies s.heap e vs to)(hT:∀T,to=some T->(∃ψ,H T=some (.ext ψ))/\Hc T=none)(hc:∀b,b≠e->(∀T,to=some T->b≠T)->Hc b=H b)(h:∀h' T,Hc T=none->T≠e->Inv X JX σ (kc Hc e T C dd (rawInt X.env.locals)) { s with heap:=h' }->Q () { s with heap:=h' }):wpAny ↑8 X.A (noteFrame (.ref e) X.env) Q E s:=by
 have hl:=I.stack;have LZ:=I.ok.frames;have sf:=I.p5;rw[KA] at hl LZ sf;refine vY (base:=X.base) LZ hl hf hx rfl lies λh' T oT ts a1 a2 a3 a4 a5 a6 a7 a8 a9=>?_;have hTn:H T=none:=I.bo.fresh a2;have nT:∀b u,H b=some u->b≠T:=λb u q z=>by rw[z,hTn] at q;cases q
 have LR:∀b u,H b=some u->(∀ψ,u≠.ext ψ)->b≠e/\∀T0,to=some T0->b≠T0:=by
  intro b u q hu;refine⟨λz=>?_,λT0 z w=>?_⟩
  .rw[z,he] at q;exact hu _ (Nx q).symm
  .obtain⟨⟨ψ,q2⟩,_⟩:=hT T0 z;rw[w,q2] at q;exact hu _ (Nx q).symm
 have old:∀b u,H b=some u->(∀ψ,u≠.ext ψ)->kc Hc e T C dd (rawInt X.env.locals) b=some u:=λb u q hu=>by
  obtain⟨n1,n2⟩:=LR b u q hu;rwa[gK n1 (nT b u q),hc b n1 n2]
 have hcT:Hc T=none:=by
  by_cases z:∃T0,to=some T0/\T=T0
  .obtain⟨T0,z1,z2⟩:=z;rw[z2];exact(hT T0 z1).2
  .rw[hc T a3 λT0 z1 z2=>z ⟨T0,z1,z2⟩];exact hTn
 have un:∀b o,s.heap.get? b=some o->H b=none->b≠e/\(∀T0,to=some T0->b≠T0)/\b≠T:=by
  intro b o q n;refine⟨λz=>?_,λT0 z w=>?_,Ny (Nr (Nk q) a2)⟩
  .rw[z,he] at n;cases n
  .obtain⟨⟨ψ,q2⟩,_⟩:=hT T0 z;rw[w,q2] at n;cases n
 refine h h' T hcT a3 ?_;have U:Un (sM X.stack) [] H (kc Hc e T C dd (rawInt X.env.locals)) s.heap h':=by
  rw[KA];refine⟨λb o q n nf _=>?_,λb o q n _ _=>?_,λb o q n _=>?_,λb o q _=>a9 b o q,λb xs q=>old b _ q (λ_ z=>nomatch z),λb ob u q=>old b _ q (λ_ z=>nomatch z),λb ps q=>⟨#[],?_⟩⟩
  .obtain⟨n1,n2,_⟩:=un b o q n;exact a7 b o n1 n2 nf q
  .obtain⟨n1,n2,_⟩:=un b o q n;exact a8 b o n1 n2 q
  .obtain⟨n1,n2,n3⟩:=un b o q n;rwa[gK n1 n3,hc b n1 n2]
  .rw[old b _ q (λ_ z=>nomatch z)];simp
 have ok:j9 X.prog X.w (kc Hc e T C dd (rawInt X.env.locals)) h':=λb u q=>by
  by_cases z:b=e
  .subst z;rw[nq] at q;cases q;refine⟨⟨_,a1,?_⟩,⟨_,a1⟩,λh1 h2 ⟨ws,q1,q2⟩ k=>⟨ws,k _ q1,q2⟩⟩;have La:1<vs.size:=by
    cases to with
    | none=>exact(N9.mp (show vs[1]?=some .none from lies)).1
    | some T0=>exact(N9.mp lies.1).1
   simp[La]
  .by_cases z2:b=T
   .subst z2;rw[mU a3] at q;cases q;exact⟨⟨oT,ts,a4,a5,a6⟩,⟨_,a4⟩,λh1 h2 ⟨o1,t1,q1,q2,q3⟩ k=>⟨o1,t1,k _ q1,q2,q3⟩⟩
   .rw[gK z z2] at q;have z3:∀T0,to=some T0->b≠T0:=λT0 w w2=>by rw[w2,(hT T0 w).2] at q;cases q
    rw[hc b z z3] at q;have nf:∀c u',H c=some u'->c ∉ sM (X.env::X.outer):=λc u' q' hm=>by have:=sf c hm;rw[q'] at this;cases this
    refine(I.bo b u q).jd (λc v Md q'=>?_) (λc q'=>old c _ q' (λ_ z=>nomatch z)) λc xs q'=>old c _ q' (λ_ z=>nomatch z);rcases Md with rfl|Md
    .exact a7 c v z z3 (nf c u q) q'
    .obtain⟨n1,n2⟩:=LR c _ Md (λ_ z=>nomatch z);exact a7 c v n1 n2 (nf c _ Md) q'
 exact I.call (ch:=[]) U ok I.bare (λb z=>absurd z ↑13)
def Inv.wG{e:Addr}{fl:Value}(I:Inv X JX σ (kc Hc e T C dd fl) s)(n:T≠e):∃vs oT ts,s.heap.get? e=some ⟨.ref C,dd,.fields vs,#[]⟩/\vs[1]?=some (.ref T)/\s.heap.get? T=some oT/\oT.data=.fields ts/\ts[3]?=some fl:=by
 obtain⟨vs,h1,h2⟩:=(I.bo e _ nq).1;obtain⟨oT,ts,q⟩:=(I.bo T _ (mU n)).1;exact⟨vs,oT,ts,h1,h2,q⟩
def Inv.Fj{e:Addr}{fl:Value}{Q:Unit->Shared->Prop}{E:Value->Shared->Prop}(I:Inv X JX σ (kc Hc e T C dd fl) s)(hfl:fl=.none\/fl=rawInt X.env.locals)(n:T≠e)(hcT:Hc T=none)(KA:X.stack=X.env::X.outer)(hf:X.env.frame=some X.env.locals)(h:∀h' T,Hc T=none->T≠e->Inv X JX σ (kc Hc e T C dd (rawInt X.env.locals)) { s with heap:=h' }->Q () { s with heap:=h' }):wpAny ↑8 X.A (noteFrame (.ref e) X.env) Q E s:=by
 obtain⟨vs,oT,ts,hx,h1,hT,hd,h3⟩:=I.wG n;rcases hfl with rfl|rfl
 .refine I.note (Hc:=Hc) (to:=some T) KA hf nq hx ⟨h1,n,oT,ts,hT,hd,h3⟩ (λT0 z=>?_) (λb n1 n2=>(gK n1 (n2 T rfl)).symm) h;cases z;exact⟨⟨_,mU n⟩,hcT⟩
 .unfold noteFrame;simp only[hf];refine Na (NK hx rfl h1 ?_);rw[if_pos (show (Nj T != NQ)=true from by simp)];refine Na (NK hT hd h3 ?_);rw[if_pos (show (rawInt X.env.locals==rawInt X.env.locals)=true from by simp)];exact Nh (h s.heap T hcT n I)
def Inv.Gg{e:Addr}{Q:Unit->Shared->Prop}{E:Value->Shared->Prop}(I:Inv X JX σ H s)(he:H e=some (iF C dd e))(KA:X.stack=X.env::X.outer)(hf:X.env.frame=some X.env.locals)(h:∀h' T,upd H e (fz C dd e) T=none->T≠e->Inv X JX σ (kc (upd H e (fz C dd e)) e T C dd (rawInt X.env.locals)) { s with heap:=h' }->Q () { s with heap:=h' }):wpAny ↑8 X.A (noteFrame (.ref e) X.env) Q E s:=by
 obtain⟨t,hx⟩:=(I.bo e _ he).1;exact I.note (Hc:=upd H e (fz C dd e)) (to:=none) KA hf he hx rfl (λ_ z=>by cases z) (λb n1 _=>aq n1) h
def Inv.mr{e:Addr}{fl:Value}{fr:Option Addr}{Q:Unit->Shared->Prop}{E:Value->Shared->Prop}(I:Inv X JX σ (kc Hc e T C dd fl) s)(n:T≠e)(h:∀h',Inv X JX σ (kc Hc e T C dd (fr.elim .none λf=>rawInt f)) { s with heap:=h' }->Q () { s with heap:=h' }):wpAny ↑8 X.A (setFlight (.ref e) fr) Q E s:=by
 obtain⟨vs,oT,ts,hx,h1,hT,hd,h3⟩:=I.wG n;unfold setFlight;refine Na (NK hx rfl h1 ?_);rw[if_pos (show (Nj T != NQ)=true from by simp)];have La:3<ts.size:=(N9.mp h3).1;refine Qc hT hd La (h _ ?_);have other:∀b,b≠T->(s.heap.update T (ON (·.setIfInBounds 3 (fr.elim NQ λf=>rawInt f)))).get? b=s.heap.get? b:=λb hb=>N2 _ _ (OL hb);have Mb:=OE (ON (·.setIfInBounds 3 (fr.elim NQ λf=>rawInt f))) hT (Pd (OT hd _));have nT:∀b,kc Hc e T C dd fl b=none->b≠T:=λb q z=>by rw[z,mU n] at q;cases q
 have same:∀b,b≠T->kc Hc e T C dd (fr.elim .none λf=>rawInt f) b=kc Hc e T C dd fl b:=λb z=>by
  by_cases w:b=e
  .subst w;rw[nq,nq]
  .rw[gK w z,gK w z]
 have ne:∀b u,kc Hc e T C dd fl b=some u->(∀ψ,u≠.ext ψ)->b≠T:=λb u q hu z=>by rw[z,mU n] at q;exact hu _ (Nx q).symm
 refine I.un (t':=s.toks) ⟨λb o q z _ _=>(other b (nT b z)).trans q,λb o q z _ _=>⟨o.slots,(other b (nT b z)).trans q⟩,λb o q z _=>by rwa[same b (nT b z)],λb o q _=>?_,λb xs q=>?_,λb ob u q=>?_,λb ps q=>⟨#[],?_⟩⟩ λb u q=>?_
 .by_cases z:b=T
  .subst z;exact⟨_,Mb⟩
  .exact⟨o,(other b z).trans q⟩
 .rw[same b (ne b _ q λ_ z=>nomatch z)];exact q
 .rw[same b (ne b _ q λ_ z=>nomatch z)];exact q
 .rw[same b (ne b _ q λ_ z=>nomatch z),q];simp
 .by_cases z:b=T
  .subst z;rw[mU n] at q;cases q;refine⟨⟨_,_,Mb,OT hd _,?_⟩,⟨_,Mb⟩,λh1 h2 ⟨o1,t1,q1,q2,q3⟩ k=>⟨o1,t1,k _ q1,q2,q3⟩⟩;simp[La]
  .rw[same b z] at q;refine(I.bo b u q).jd (λc v hc q'=>(other c ?_).trans q') (λc q'=>?_) λc xs q'=>?_
   .rcases hc with rfl|hc
    .exact z
    .exact ne c _ hc λ_ z=>nomatch z
   .rw[same c (ne c _ q' λ_ z=>nomatch z)];exact q'
   .rw[same c (ne c _ q' λ_ z=>nomatch z)];exact q'
def cf(P:Program)(w:World):EG:=λouter H s E e s'=>∃(ea T C:Addr)(dd:Option Addr)(Hc:Hp),e=.ref ea/\s'.os=s.os/\AllBare s'.gens/\Un (sM outer) [] H (kc Hc ea T C dd .none) s.heap s'.heap/\j9 P w (kc Hc ea T C dd .none) s'.heap ∧
 Hc ea=some (fz C dd ea)/\Hc T=none/\T≠ea/\E (.ref ea) none Hc
def Zx (X : Cx)(E : St -> XK)(e : Value)(s : Shared) : Prop := ∃(ea C : Addr)(dd : Option Addr)(JX : List (Addr × Obj))(σ : St),e=.ref ea ∧
  ((∃H,Inv X JX σ H s /\ H ea=some (iF C dd ea) /\ E σ (.ref ea) none (upd H ea (fz C dd ea))) ∨
   (∃Hc T fl,Inv X JX σ (kc Hc ea T C dd fl) s /\ (fl=.none \/ fl=rawInt X.env.locals) /\ Hc ea=some (fz C dd ea) /\ Hc T=none /\ T ≠ ea /\ E σ (.ref ea) none Hc))
variable{E:St->XK}
def Zx.note{e:Value}{Q:Unit->Shared->Prop}{F:Value->Shared->Prop}(z:Zx X E e s)(KA:X.stack=X.env::X.outer)(hf:X.env.frame=some X.env.locals)(h:∀s' ea C dd JX σ Hc T,e=.ref ea->Inv X JX σ (kc Hc ea T C dd (rawInt X.env.locals)) s'->Hc ea=some (fz C dd ea)->Hc T=none->T≠ea->E σ (.ref ea) none Hc->Q () s'):wpAny ↑8 X.A (noteFrame e X.env) Q F s:=by
 obtain⟨ea,C,dd,JX,σ,rfl,⟨H,I,h1,h2⟩|⟨Hc,T,fl,I,h1,h2,h3,h4,h5⟩⟩:=z
 .exact I.Gg h1 KA hf λh' T q1 q2 I2=>h _ ea C dd JX σ _ T rfl I2 av q1 q2 h2
 .exact I.Fj h1 h4 h3 KA hf λh' T q1 q2 I2=>h _ ea C dd JX σ _ T rfl I2 h2 q1 q2 h5
def Zx.Dn{E:XK}{e:Value}{F:Value->Shared->Prop}(z:Zx X (λ_=>E) e s)(KA:X.stack=X.env::X.outer)(hf:X.env.frame=some X.env.locals)(hex:X.ex=[]):wpAny ↑8 X.A (leaving X.env e) (λ_ s'=>cf X.prog X.w X.outer X.H₀ X.s₀ E e s') F s:=by
 unfold leaving;refine Na (z.note KA hf λs' ea C dd JX σ Hc T he I h1 h2 h3 h4=>?_);subst he;refine I.mr h3 λh' I2=>⟨ea,T,C,dd,Hc,rfl,I2.os,I2.bare,?_,I2.bo,h1,h2,h3,h4⟩
 have:=I2.base;rwa[hex] at this
def Zx.own(KA:X.stack=X.env::X.outer)(hf:X.env.frame=some X.env.locals):PassesOwn ↑8 X.A X.env (Zx X E):=by
 intro e s z;refine z.note KA hf λs' ea C dd JX σ Hc T he I h1 h2 h3 h4=>?_;subst he;obtain⟨vs,oT,ts,hx,q1,_⟩:=I.wG h3;show wpAny _ _ _ _ _ _;refine Na (NK hx rfl q1 ?_);rw[if_neg (show ¬ ((Nj T==NQ)=true) from by simp)];rw[hf];refine I.mr h3 λh' I2=>⟨ea,C,dd,JX,σ,rfl,.inr ⟨Hc,T,_,I2,.inr rfl,h1,h2,h3,h4⟩⟩
structure dG (X:Cx) (E:St->XK):Prop where
 pass:∀(JX:List (Addr×Obj))(σ:St)(H:Hp)(s:Shared)(e:Value)(s':Shared),Inv X JX σ H s->cf X.prog X.w X.stack H s (E σ) e s'->X.xe e s'
 new:∀(JX:List (Addr×Obj))(σ:St)(H:Hp)(s:Shared)(e C:Addr)(dd:Option Addr),Inv X JX σ H s->H e=some (iF C dd e)->E σ (.ref e) none (upd H e (fz C dd e))->X.xe (.ref e) s
 own:PassesOwn ↑8 X.A X.env X.xe
abbrev Cx.out(X:Cx)(E:St->XK):Cx:=X.l9 (Zx X E)
def qX(KA:X.stack=X.env::X.outer)(hf:X.env.frame=some X.env.locals):dG (X.out E) E where
 pass:=by
  intro JX σ H s e s' I h;obtain⟨ea,T,C,dd,Hc,rfl,os,bare,un,bo,h1,h2,h3,hE⟩:=h;have I':=I.dj.xo (ch:=[]) os un bo bare (λb z=>absurd z ↑13);exact⟨ea,C,dd,JX,σ,rfl,.inr ⟨Hc,T,.none,I',.inl rfl,h1,h2,h3,hE⟩⟩
 new:=λJX σ H s e C dd I he hE=>⟨e,C,dd,JX,σ,rfl,.inl ⟨H,I.dj,he,hE⟩⟩
 own:=Zx.own KA hf
variable{N:List Str}{LM:Array (Option Value)}{an od:Option Addr}{body:List Stmt}{params:Arguments}
def mF{K:Nb}{dV kV doc pm J6 ct oc:Value}(lk:K.lookup f=some ⟨oc,od,.func (N6 name qual params body scope dV kV doc pm an J6 ct),LM⟩)(Ko:OG K J6 qual=true)(S:bD N ps scope)(len:∀vs H Q E,sp vs H Q E->vs.length=ps.length)(LU:∀(A:Around)(outer:List Env)(s:Shared)(H:Hp)(vs:List V)(Q:VK)(E:XK),bH k (A.deeper (envOfC qual scope s.heap.objs.size f J6))->sp vs H Q E ->∃t,gP ((gS (cf P w) P w K mg base N qual scope f J6 A outer s H E).out λ_=>E) body t/\t { nx:=λ_ H'=>Q .aJ H',rt:=Q } (start N vs) H):aV P w K mg base (cf P w) (k+1) f (N6 name qual params body scope dV kV doc pm an J6 ct) ps sp:=by
 refine E5 lk Ko S len λA outer s H vs Q E hr hs=>?_;obtain⟨t,h1,h2⟩:=LU A outer s H vs Q E hr hs;refine⟨t,λJX s1 σ H1 D I q=>?_,h2⟩;refine Ow (h1 JX s1 σ H1 D (I.l9 _) q) (λf s' z=>z.dj) λe s' z=>?_;exact z.Dn rfl rfl rfl
variable{pos':Pos}
section
open PySem.Builtin.ObjectAttr (storeInOwnDict storeTaker? setByDescriptor)
def p4{e t:Addr}(he:h.get? e=some ⟨.ref C,dd,.fields #[.ref t,.none,.none,.none,.bool false,.none],#[]⟩):bz P w H h e (iF C dd e) :=
 ⟨⟨t,he⟩,⟨_,he⟩,λ_ _ ⟨t,q⟩ k=>⟨t,k _ q⟩⟩
section
variable{p:Pos}
def Fv(C:Addr)(t:TA):TE:=fun σ H Q=>t σ H λvs H1=>vs.length<=sizeLine/\∀a,H1 a=none->Q (.ref a) (upd H1 a (iF C none a))
def AA(hc:Qs X.K C eg "ValueError.__new__"=true)(kp:NS X.K (.ref C)=true)(hg:Gl X x)(hm:X.mg x=some (.ref C))(ha:PA X (e::es) t)(Kt:autoParam ↑7 aD._auto_1)(he:autoParam ↑0 aR._auto_1)(Kb:autoParam ↑2 aR._auto_1):PE X (.Call (.Name x p) (e::es) [] pos) (Fv C t):=by
 intro JX s σ H Q I h;refine OR (gq I hg hm ?_ Kt);refine PM (h₀:=X.base) I.ok.mod.D0 kp (cn (ha pos JX s σ H _ I h) λus s1 ⟨vs,H1,I1,r,hl,q⟩=>⟨I1.gi,?_⟩) he Kb;obtain⟨bm,N,nm,qn,bs,Lw,sn,sub,ab,col,dd,k0,k1,k2,k3,k5,mN,hC,hN,LK,T⟩:=Au I1.gi hc;obtain⟨hp,g,d,tk,os⟩:=s1;refine wpAny_call_exc_subT Q5 T hC hN LK (λh' a M=>?_) (by show us.length<=sizeLine;rwa[<- r.length]);obtain⟨t',e1,_,_⟩:=M.there;have I2:Inv X JX σ (upd H1 a (iF C none a)) ⟨h',g,d,tk,os⟩:=I1.BG (t':=tk) M.keeps M.new (p4 e1);have hn:H1 a=none:=I1.ql M.new;exact⟨.ref a,_,I2,rfl,q a hn⟩
def DW(C:Addr)(sp:Sp)(t:TA):TE:=fun σ H Q=>t σ H λvs H1=>vs.length<=sizeLine/\∀a,H1 a=none->sp (.ref a::vs) (upd H1 a (iF C none a)) (λv H2=>v=.aJ/\Q (.ref a) H2) E0
def wW(hc:mC X.K C "ValueError.__new__" f=true)(hf:Pk X.K (.ref f)=true)(kp:NS X.K (.ref C)=true)(F:aV X.prog X.w X.K X.mg X.base (cf X.prog X.w) k f fd ps sp)(hr:bH (k+1) X.A)(hb:Binds X.K fd ps [])(hg:Gl X x)(hm:X.mg x=some (.ref C))(ha:PA X (e::es) t)(Kt:autoParam ↑7 aD._auto_1)(he:autoParam ↑0 aR._auto_1)(Kb:autoParam ↑2 aR._auto_1):PE X (.Call (.Name x p) (e::es) [] pos) (DW C sp t):=by
 intro JX s σ H Q I h;refine OR (gq I hg hm ?_ Kt);refine PM (h₀:=X.base) I.ok.mod.D0 kp (cn (ha pos JX s σ H _ I h) λus s1 ⟨vs,H1,I1,r,hl,q⟩=>⟨I1.gi,?_⟩) he Kb;have X1:=I1.gi;obtain⟨bm,N,nm,qn,bs,Lw,sn,sub,ab,col,dd,k0,k1,k2,k3,k5,mN,hC,hN,LK,T⟩:=zt X1 hc;obtain⟨hp,g,d,tk,os⟩:=s1;have f1:=tc_lookup;have f2:=tc_bind (.ref C);have hT:(⟨hp,g,d,tk,os⟩:Shared).TypeIs (.ref C) "type" := ⟨_,hC,rfl⟩
 refine Q3 (codeAny_of_tree ?_);show wpAny _ _ (callAny (.ref C) _) _ _ _
 repeat (any_goals (first|assumption|with_reducible refine Rb hC ?_|wp_step))
 refine⟨rfl,?_⟩;refine codeAny_call_builtin_at (Sb _ (by decide +kernel)) entry_typeCall (wpAny_check_type_call_sub hC (mK Q5 T hC hN LK
  (λh' kk self=>Ti (λb o z=>kk b o (X1 b o z)) self (beq_iff_eq.mp hf)) (λh' kk ht hx hz=>?_) (by show us.length<=sizeLine;rwa[<- r.length])))
 have I2:Inv X JX σ (upd H1 (hp.objs.size+1) (iF C none (hp.objs.size+1))) ⟨h',g,d,tk,os⟩:=I1.BG (t':=tk) kk (Pe (Qx _)) (p4 hx);have hq:=q (hp.objs.size+1) (I1.ql (Pe (Qx _)));have r2:Vals (V.ref (hp.objs.size+1)::vs) (Nj (hp.objs.size+1)::us):=.cons rfl r;have hlen:(Nj (hp.objs.size+1)::us++[]).length=ps.length:=by
  rw[NX,<- r2.length];exact F.len _ _ _ _ hq
 refine Q3 (QU (F.run _ X.stack _ _ ⟨Nj (hp.objs.size+1)::us,[]⟩ (Nj (hp.objs.size+1)::us) _ _ E0 (hr.make C us []) (I2.eM.make C us []) (by have:=hb _ (Nj (hp.objs.size+1)::us) I2.gi hlen;rwa [NX] at this) r2 hq) λr s' L4=>?_);cases r with
 | error e =>
  obtain⟨_,_,_,_,_,_,_,_,_,_,_,_,_,z⟩:=L4;exact z.elim
 | ok fl =>
  cases fl with
  | ret u =>
   obtain⟨v,H',I3,rv,ev,q3⟩:=I2.after L4;subst ev;exact⟨rv,⟨V.ref (hp.objs.size+1),H',I3,rfl,q3⟩⟩
  | next=>exact Ox L4
  | brk=>exact Ox L4
  |cont=>exact Ox L4
def Dl(K:Nb)(ta tv:TE)(f:Str):TS:=λD σ H=>tv σ H λy H1=>ta σ H1 λx H2=>∃a C,x=.ref a/\H2 a=some (iF C none a)/\cS K C/\((O4 K C).any λcd=>ff cd.mro)=true/\bM K C f ∧
 ∀d,H2 d=none->d≠a->D.nx σ (upd (upd H2 d (.xd [(f,y)])) a (iF C (some d) a))
def w6{o value:Expr}{tv:TE}{n:Str}(ha:PE X o ta)(hv:PE X value tv)(hs:swapsWith value (some (.Attribute o n pos')) pos.line X.env=pure false):PS X (.Assign [.Attribute o n pos'] value pos) (Dl X.K ta tv n):=by
 intro JX s σ H D I h;refine Qi (cn (hv JX s σ H _ I h) λu s1 ⟨y,H1,I1,ry,q⟩=>cn (ha JX s1 σ H1 _ I1 q) λov s2 ⟨x,H2,I2,rx,a,C,ex,ea,c,po,na,q2⟩=>?_) hs;subst ex;obtain rfl:ov=Nj a:=rx;obtain⟨tt,hx⟩:=(I2.bo a _ ea).1;refine zL po c I2.gi hx na.B7 λh' tk d e1 e2 e3 e4=>?_;have hd:H2 d=none:=I2.ql e2;have nda:d≠a:=λz=>by rw[z,ea] at hd;cases hd
 refine⟨σ,_,?_,q2 d hd nda⟩;have up:∀b,b≠a->b≠d->upd (upd H2 d (.xd [(n,y)])) a (iF C (some d) a) b=H2 b:=λb h1 h2=>by rw[aq h1,aq h2]
 have nd:∀b u,s2.heap.get? b=some u->b≠d:=λb u e z=>by rw[z,e2] at e;cases e
 have nH:∀b u,H2 b=some u->b≠d:=λb u e z=>by rw[z,hd] at e;cases e
 have nE:∀b u,H2 b=some u->(∀C dd,u≠iF C dd a)->b≠a:=λb u e hu z=>by
  rw[z,ea] at e;exact hu C none (Nx e).symm
 refine I2.un (t':=tk) ⟨λb u e z _ _=>e4 b u (λw=>by rw[w,ea] at z;cases z) e,λb u e z _ _=>⟨u.slots,e4 b u (λw=>by rw[w,ea] at z;cases z) e⟩,λb u e z _=>?_,λb u e _=>?_,λb xs e=>?_,λb ob u e=>?_,λb ps e=>?_⟩ λb u e=>?_
 .rw[up b (λw=>by rw[w,ea] at z;cases z) (nd b u e)];exact z
 .by_cases w:b=a
  .rw[w];exact⟨_,e1⟩
  .exact⟨u,e4 b u w e⟩
 .rw[up b (nE b _ e λ_ _ z=>by cases z) (nH b _ e)];exact e
 .rw[up b (nE b _ e λ_ _ z=>by cases z) (nH b _ e)];exact e
 .exact⟨#[],by rw[up b (nE b _ e λ_ _ z=>by cases z) (nH b _ e),e];simp⟩
 .by_cases w:b=a
  .subst w;rw[av] at e;cases e;exact p4 e1
  .rw[aq w] at e
   by_cases w2:b=d
   .subst w2;rw[av] at e;cases e;refine⟨_,e3,λg=>?_⟩;show jD (Ph g [(n,y)]) (if g=n then some _ else none);rw[Oa]
    by_cases z:g=n
    .rw[if_pos z,show (g==n)=true from by simp[z]];exact ry
    .rw[if_neg z,show (g==n)=false from by simp[z]];exact OI
   .rw[aq w2] at e;refine(I2.bo b u e).jd (λc v hc z=>e4 c v ?_ z) (λc z=>?_) λc ys z=>?_
    .rcases hc with z'|z'
     .rw[z'];exact w
     .exact nE c _ z' λ_ _ z=>by cases z
    .rw[up c (nE c _ z λ_ _ z=>by cases z) (nH c _ z)];exact z
    .rw[up c (nE c _ z λ_ _ z=>by cases z) (nH c _ z)];exact z
end
end
section
variable{M:Model}{E:Value->Shared->Prop}
def xS{e:Addr}{o:Obj}(hx:s.heap.get? e=some o)(h:Q o.cls s):wpAny M A (typeOf (.ref e)) Q E s:=by
 unfold typeOf;exact Na (P6 hx (Nh h))
def uJ{e:Addr}{o:Obj}{vs:Array Value}{Q:Bool->Shared->Prop}(hx:s.heap.get? e=some o)(hd:o.data=.fields vs)(h:Q false s):wpAny M A (isType (.ref e)) Q E s:=by
 unfold isType loadHead;refine Na (P6 hx (Nh ?_));rwa[hd]
end
def CG(K:Nb)(E:St->XK)(te:TE):TS:=λD σ H=>te σ H λv H1=>∃e C dd,v=.ref e/\H1 e=some (iF C dd e)/\cS K C/\Pf K (.ref C)=some (.type "type")/\E σ (.ref e) none (upd H1 e (fz C dd e))
def rA{exc:Expr}(O:dG X E)(J3:X.calm=true)(he:PE X exc te):PS X (.Raise (some exc) none pos) (CG X.K E te):=by
 intro JX s σ H D I h;rw[arm_exec_Raise];refine Na (Pw ?_);unfold raiseStmt;dsimp only [evalOpt,Option.map];refine Na (Na (cn (he JX s σ H _ I h) λu s1 hq=>Na (Pw (Nh ?_))));obtain⟨v,H1,I1,rv,e,C,dd,ev,hN,c,ht,hE⟩:=hq;subst ev;obtain rfl:u=Nj e:=rv;obtain⟨t,hx⟩:=(I1.bo e _ hN).1;have X1:=I1.gi;refine Na (Nh ?_);refine Na (Ou ?_);unfold excFromValue isExcClass;refine Na (Na (uJ hx rfl ?_));refine Nh ?_;refine Na ?_;unfold isInstance;refine Na (xS hx ((QK X1 c.mb).here ?_));refine Nh ?_;dsimp only;refine Na (uJ hx rfl ?_);unfold raisedInstance;refine Na (Na (xS hx (Na ((PySem.W.looks_typeIn X1 ht).here ?_))));refine Nh ?_;unfold setFlight;refine Na (Na (NK hx rfl (x:=.none) rfl ?_));refine Nh ?_;exact wpAny_raiseNew_none (I1.ok.hd J3) (O.new JX σ H1 s1 e C dd I1 hN hE)
inductive PV where
 | aJ|bl (b:Bool)|int (i:Int)|str (x:Str)
 | tup (xs:List PV)|lst (xs:List PV)
 | aY (xs:List PV)
 | obj (C:Addr) (fs:List (Str×PV))
 | exc (C:Addr) (fo:Option (List (Str×PV)))
 | emp
 | t8 (Kj:List (List Int×PV))
 | fn (a:Addr)
 deriving Inhabited
mutual
inductive Rep (H:Hp):PV->V->Prop where
 | aJ:Rep H .aJ .aJ
 | bl (b:Bool):Rep H (.bl b) (.bl b)
 | int (i:Int):Rep H (.int i) (.int i)
 | str (x:Str):Rep H (.str x) (.str x)
 | tup {a:Addr} {xs:List PV} {vs:List V}:H a=some (.tup vs)->aB H xs vs->Rep H (.tup xs) (.ref a)
 | lst {a:Addr} {xs:List PV} {vs:List V}:H a=some (.lst vs)->aB H xs vs->Rep H (.lst xs) (.ref a)
 | aY {a:Addr} {o:Obj} {xs:List PV} {vs:List V}:H a=some (.k9 o (.lst vs))->aB H xs vs->Rep H (.aY xs) (.ref a)
 | obj {a C dx:Addr} {fs:List (Str×PV)} {vs:List (Str×V)}:H a=some (.ins C dx vs)->eV H fs vs->Rep H (.obj C fs) (.ref a)
 | pM {a C:Addr}:H a=some (fz C none a)->Rep H (.exc C none) (.ref a)
 | nF {a C d:Addr} {fs:List (Str×PV)} {vs:List (Str×V)}:H a=some (fz C (some d) a)->H d=some (.xd vs)->eV H fs vs->Rep H (.exc C (some fs)) (.ref a)
 | emp {a:Addr}:H a=some (.dK [])->Rep H .emp (.ref a)
 | t8 {a:Addr} {o:Obj} {Kj:List (List Int×PV)} {us:List (List Key×V)}:H a=some (.k9 o (.dT us))->sA H Kj us->Rep H (.t8 Kj) (.ref a)
 |fn (a:Addr):Rep H (.fn a) (.ref a)
inductive aB (H:Hp):List PV->List V->Prop where
 | nil:aB H [] []
 |cons {p:PV} {v:V} {ps:List PV} {vs:List V}:Rep H p v->aB H ps vs->aB H (p::ps) (v::vs)
inductive eV (H:Hp):List (Str×PV)->List (Str×V)->Prop where
 | nil:eV H [] []
 |cons {n:Str} {p:PV} {v:V} {ps:List (Str×PV)} {vs:List (Str×V)}:Rep H p v->eV H ps vs->eV H ((n,p)::ps) ((n,v)::vs)
inductive sA (H:Hp):List (List Int×PV)->List (List Key×V)->Prop where
 | nil:sA H [] []
 |cons {k:List Int} {p:PV} {v:V} {ps:List (List Int×PV)} {vs:List (List Key×V)}:Rep H p v->sA H ps vs->sA H ((k,p)::ps) ((k.map Rv,v)::vs)
end
mutual
theorem Rep.mono{H H':Hp}(s:aW H H'):∀{p:PV}{v:V},Rep H p v->Rep H' p v
 | _,_,.aJ=>.aJ
 | _,_,.bl b=>.bl b
 | _,_,.int i=>.int i
 | _,_,.str x=>.str x
 | _,_,.tup h r=>.tup (s _ _ h) (r.mono s)
 | _,_,.lst h r=>.lst (s _ _ h) (r.mono s)
 | _,_,.aY h r=>.aY (s _ _ h) (r.mono s)
 | _,_,.obj h r=>.obj (s _ _ h) (r.mono s)
 | _,_,.pM h=>.pM (s _ _ h)
 | _,_,.nF h h2 r=>.nF (s _ _ h) (s _ _ h2) (r.mono s)
 | _,_,.emp h=>.emp (s _ _ h)
 | _,_,.t8 h r=>.t8 (s _ _ h) (r.mono s)
 |_,_,.fn a=>.fn a
theorem aB.mono{H H':Hp}(s:aW H H'):∀{p:List PV}{v:List V},aB H p v->aB H' p v
 | _,_,.nil=>.nil
 |_,_,.cons h r=>.cons (h.mono s) (r.mono s)
theorem eV.mono{H H':Hp}(s:aW H H'):∀{p:List (Str×PV)}{v:List (Str×V)},eV H p v->eV H' p v
 | _,_,.nil=>.nil
 |_,_,.cons h r=>.cons (h.mono s) (r.mono s)
theorem sA.mono{H H':Hp}(s:aW H H'):∀{p:List (List Int×PV)}{v:List (List Key×V)},sA H p v->sA H' p v
 | _,_,.nil=>.nil
 |_,_,.cons h r=>.cons (h.mono s) (r.mono s)
end
theorem aB.length{H:Hp}:∀{p:List PV}{v:List V},aB H p v->p.length=v.length
 | _,_,.nil=>rfl
 |_,_,.cons _ r=>by simp[r.length]
theorem aB.get{H:Hp}:∀{p:List PV}{v:List V}{i:Nat}{x:PV},aB H p v->p[i]?=some x->∃u,v[i]?=some u/\Rep H x u
 | _,_,_,_,.nil,e=>by simp at e
 | _,_,0,_,.cons h _,e=>by simp at e;subst e;exact⟨_,rfl,h⟩
 | _,_,i+1,x,.cons _ r,e=>by
  obtain⟨u,h1,h2⟩:=aB.get (i:=i) (x:=x) r (by simpa using e);exact⟨u,by simpa using h1,h2⟩
theorem aB.append{H:Hp}:∀{p q:List PV}{v u:List V},aB H p v->aB H q u->aB H (p++q) (v++u)
 | _,_,_,_,.nil,s=>s
 |_,_,_,_,.cons h r,s=>.cons h (r.append s)
theorem aB.take{H:Hp}:∀{p:List PV}{v:List V}(n:Nat),aB H p v->aB H (p.take n) (v.take n)
 | _,_,0,_=>.nil
 | _,_,_+1,.nil=>.nil
 |_,_,n+1,.cons h r=>.cons h (r.take n)
theorem aB.drop{H:Hp}:∀{p:List PV}{v:List V}(n:Nat),aB H p v->aB H (p.drop n) (v.drop n)
 | _,_,0,r=>r
 | _,_,_+1,.nil=>.nil
 |_,_,n+1,.cons _ r=>r.drop n
theorem aB.set{H:Hp}{x:PV}{u:V}(h:Rep H x u):∀{p:List PV}{v:List V}(i:Nat),aB H p v->aB H (p.set i x) (v.set i u)
 | _,_,_,.nil=>.nil
 | _,_,0,.cons _ r=>.cons h r
 |_,_,i+1,.cons q r=>.cons q (r.set h i)
def aB.snoc{p:List PV}{v:List V}{x:PV}{u:V}(r:aB H p v)(h:Rep H x u):aB H (p++[x]) (v++[u]):=r.append (.cons h .nil)
theorem eV.look{H:Hp}{f:Str}:∀{p:List (Str×PV)}{v:List (Str×V)}{x:PV},eV H p v->p.lookup f=some x->∃u,v.lookup f=some u/\Rep H x u
 | _,_,_,.nil,e=>by simp at e
 | (n,_)::_,_,x,.cons h r,e=>by
  rw[Oa] at e ⊢;cases q:f==n with
  | true=>rw[q] at e;cases e;exact⟨_,rfl,h⟩
  |false=>rw[q] at e;exact r.look e
theorem eV.none{H:Hp}{f:Str}:∀{p:List (Str×PV)}{v:List (Str×V)},eV H p v->p.lookup f=none->v.lookup f=none
 | _,_,.nil,_=>rfl
 | (n,_)::_,_,.cons h r,e=>by
  rw[Oa] at e ⊢;cases q:f==n with
  | true=>rw[q] at e;cases e
  |false=>rw[q] at e;exact r.none e
theorem aB.Jw{H:Hp}:∀{ns:List Bool}{v:List V},aB H (ns.map PV.bl) v->v=ns.map V.bl
 | [],_,.nil=>rfl
 |_::_,_,.cons (.bl i) r=>by rw[r.Jw];rfl
structure aP (Hs H J1 H':Hp):Prop where
 st:aW Hs J1
 al:aW H H'
 sub:aW J1 H'
 nw:∀a o,Hs a=none->H a=some o->(∀ws,o≠.tup ws)->J1 a=none
variable{Hs:Hp}
def aP.refl(s:aW Hs H):aP Hs H Hs H:=⟨λ_ _ e=>e,λ_ _ e=>e,s,λ_ _ e _ _=>e⟩
variable{J4:Hp}
def aP.trans{H1 J5 H2:Hp}(a:aP Hs H J4 H1)(b:aP J4 H1 J5 H2):aP Hs H J5 H2 :=
 ⟨λc o e=>b.st c o (a.st c o e),λc o e=>b.al c o (a.al c o e),b.sub,λc o e q t=>b.nw c o (a.nw c o e q t) (a.al c o q) t⟩
def aP.new{p:Addr}(s:aW Hs H)(n:H p=none):aP Hs H (upd Hs p o) (upd H p o):=by
 have ne:∀c u,H c=some u->c≠p:=λc u e z=>by rw[z,n] at e;cases e
 refine⟨λc u e=>?_,λc u e=>?_,λc u e=>?_,λc u e q _=>?_⟩
 .rw[aq (ne c u (s c u e))];exact e
 .rw[aq (ne c u e)];exact e
 .by_cases z:c=p
  .subst z;rw[av] at e ⊢;exact e
  .rw[aq z] at e ⊢;exact s c u e
 .rw[aq (ne c u q)];exact e
inductive SV where
 | sh (p:PV)
 | ow (xs:List PV)
 | bd (a C:Addr) (fs:List (Str×PV))
 |dw (Kj:List (List Int×PV))
abbrev aa:=List (Option SV)
def eR:SV->Bool
 | .sh _=>false
 |_=>true
def Ho(H₀ Hs H:Hp):SV->V->Prop
 | .sh p,v=>Rep Hs p v
 | .ow xs,v=>∃a vs,v=.ref a/\H a=some (.lst vs)/\Hs a=none/\H₀ a=none/\aB Hs xs vs
 | .bd a C fs,v=>∃dx vs,v=.ref a/\H a=some (.ins C dx vs)/\Hs a=none/\H₀ a=none/\eV Hs fs vs
 |.dw Kj,v=>∃a us,v=.ref a/\H a=some (.dT us)/\Hs a=none/\H₀ a=none/\sA Hs Kj us
structure SR (B H₀ Hs H:Hp) (σ:St) (env:aa):Prop where
 gr:aP B H₀ Hs H
 len:σ.length=env.length
 at_:∀(i:Nat)(x:SV),env[i]?=some (some x)->∃v,σ[i]?=some (some v)/\Ho H₀ Hs H x v
 ap:∀(i j:Nat)(x y:SV)(a:Addr),i≠j->env[i]?=some (some x)->env[j]?=some (some y)->eR x=true->eR y=true->σ[i]?=some (some (.ref a))->σ[j]?≠some (some (.ref a))
variable{H₀:Hp}
variable{j:Nat}
section
variable{B B' H₀' J1 H':Hp}{σ':St}{env J0:aa}{x:Option SV}{v:Option V}
theorem SR.sh(r:SR B H₀ Hs H σ env)(i:Nat)(p:PV)(e:env[i]?=some (some (.sh p))):∃v,σ[i]?=some (some v)/\Rep Hs p v:=r.at_ i _ e
theorem SR.ow(r:SR B H₀ Hs H σ env)(i:Nat)(xs:List PV)(e:env[i]?=some (some (.ow xs))):∃a vs,σ[i]?=some (some (.ref a))/\H a=some (.lst vs)/\Hs a=none/\H₀ a=none/\aB Hs xs vs :=
 let ⟨_,h1,a,vs,z,h⟩:=r.at_ i _ e;⟨a,vs,z▸h1,h⟩
theorem SR.bd(r:SR B H₀ Hs H σ env)(i:Nat)(a C:Addr)(fs:List (Str×PV))(e:env[i]?=some (some (.bd a C fs))):∃dx vs,σ[i]?=some (some (.ref a))/\H a=some (.ins C dx vs)/\Hs a=none/\H₀ a=none/\eV Hs fs vs :=
 let ⟨_,h1,dx,vs,z,h⟩:=r.at_ i _ e;⟨dx,vs,z▸h1,h⟩
def Ho.lh{x:SV}{v:V}(h:Ho H₀ Hs H x v)(o:eR x=true):∃a u,v=.ref a/\H a=some u/\Hs a=none/\H₀ a=none/\∀ws,u≠.tup ws:=by
 cases x with
 | sh p=>cases o
 | ow xs=>obtain⟨a,vs,z,h1,h2,h3,_⟩:=h;exact⟨a,_,z,h1,h2,h3,λ_=>nofun⟩
 | bd a C fs=>obtain⟨dx,vs,z,h1,h2,h3,_⟩:=h;exact⟨a,_,z,h1,h2,h3,λ_=>nofun⟩
 |dw Kj=>obtain⟨a,vs,z,h1,h2,h3,_⟩:=h;exact⟨a,_,z,h1,h2,h3,λ_=>nofun⟩
theorem Ho.mono{x:SV}{v:V}(h:Ho H₀ Hs H x v)(s:aW Hs J1)(k:∀a u,eR x=true->v=.ref a->H a=some u->Hs a=none->H₀ a=none->(∀ws,u≠.tup ws)->H' a=some u/\J1 a=none/\H₀' a=none):Ho H₀' J1 H' x v:=by
 cases x with
 | sh p=>exact Rep.mono s h
 | ow xs=>obtain⟨a,vs,z,h1,h2,h3,h4⟩:=h;obtain⟨q1,q2,q3⟩:=k a _ rfl z h1 h2 h3 (λ_=>nofun);exact⟨a,vs,z,q1,q2,q3,h4.mono s⟩
 | bd a C fs=>obtain⟨dx,vs,z,h1,h2,h3,h4⟩:=h;obtain⟨q1,q2,q3⟩:=k a _ rfl z h1 h2 h3 (λ_=>nofun);exact⟨dx,vs,z,q1,q2,q3,h4.mono s⟩
 |dw Kj=>obtain⟨a,vs,z,h1,h2,h3,h4⟩:=h;obtain⟨q1,q2,q3⟩:=k a _ rfl z h1 h2 h3 (λ_=>nofun);exact⟨a,vs,z,q1,q2,q3,h4.mono s⟩
def SR.mv(r:SR B H₀ Hs H σ env)(gr:aP B' H₀' J1 H')(hl:σ'.length=J0.length)(s:aW Hs J1)(c:∀(j:Nat)(x:SV),J0[j]?=some (some x)->env[j]?=some (some x)/\σ'[j]?=σ[j]?/\∀a u,eR x=true->σ[j]?=some (some (.ref a))->H a=some u->Hs a=none->H₀ a=none->(∀ws,u≠.tup ws)->H' a=some u/\J1 a=none/\H₀' a=none):SR B' H₀' J1 H' σ' J0 where
 gr:=gr
 len:=hl
 at_:=λj x e=>by
  obtain⟨e1,e2,k⟩:=c j x e;obtain⟨v,h1,h2⟩:=r.at_ j x e1;exact⟨v,e2.trans h1,h2.mono s λa u o z=>k a u o (z▸h1)⟩
 ap:=λj k x y a n e1 e2 o1 o2=>by
  rw[(c j x e1).2.1,(c k y e2).2.1];exact r.ap j k x y a n (c j x e1).1 (c k y e2).1 o1 o2
def qo{y:SV}(e:(env.set i x)[j]?=some (some y)):(i≠j/\env[j]?=some (some y))\/(i=j/\x=some y/\i<env.length):=by
 rw[Oe] at e
 by_cases z:i=j
 .rw[if_pos z] at e
  split at e
  .exact .inr ⟨z,Nx e,by assumption⟩
  .cases e
 .rw[if_neg z] at e;exact .inl ⟨z,e⟩
def SR.chg(r:SR B H₀ Hs H σ env)(gr:aP B H₀ J1 H')(s:aW Hs J1)(new:∀y,x=some y->∃w,v=some w/\Ho H₀ J1 H' y w)(kp:∀(j:Nat)(y:SV)(a:Addr)(u:HO),i≠j->env[j]?=some (some y)->eR y=true->σ[j]?=some (some (.ref a))->H a=some u->Hs a=none->(∀ws,u≠.tup ws)->H' a=some u/\J1 a=none)(sp:∀y,x=some y->eR y=true->∀(k:Nat)(z:SV),i≠k->env[k]?=some (some z)->eR z=true->σ[k]?≠some v):SR B H₀ J1 H' (σ.set i v) (env.set i x) where
 gr:=gr
 len:=by rw[OZ,OZ];exact r.len
 at_:=λj y e=>by
  rcases qo e with ⟨n,e⟩|⟨rfl,e,l⟩
  .obtain⟨w,h1,h2⟩:=r.at_ j y e;refine⟨w,by rwa[Oe,if_neg n],h2.mono s λa u o z q1 q2 q3 t=>?_⟩;obtain⟨p1,p2⟩:=kp j y a u n e o (z▸h1) q1 q2 t;exact⟨p1,p2,q3⟩
  .obtain⟨w,rfl,h⟩:=new y e;exact⟨w,by rw[Oe,if_pos rfl,if_pos (by rwa[r.len])],h⟩
 ap:=λj k y z a n e1 e2 o1 o2 q1 q2=>by
  rw[Oe] at q1 q2;rcases qo e1 with ⟨n1,e1⟩|⟨rfl,e1,l⟩
  .rw[if_neg n1] at q1;rcases qo e2 with ⟨n2,e2⟩|⟨rfl,e2,l⟩
   .rw[if_neg n2] at q2;exact r.ap j k y z a n e1 e2 o1 o2 q1 q2
   .rw[if_pos rfl,if_pos (by rwa[r.len])] at q2;exact sp z e2 o2 j y n1 e1 o1 (q1.trans q2.symm)
  .rw[if_pos rfl,if_pos (by rwa[r.len])] at q1;rcases qo e2 with ⟨n2,e2⟩|⟨z2,_,_⟩
   .rw[if_neg n2] at q2;exact sp y e1 o1 k z n2 e2 o2 (q2.trans q1.symm)
   .exact n z2
def SR.xl(r:SR B H₀ Hs H σ env)(hv:σ[i]?=some v)(gr:aP B H₀ J1 H')(s:aW Hs J1)(new:∀y,x=some y->∃w,v=some w/\Ho H₀ J1 H' y w)(kp:∀(j:Nat)(y:SV)(a:Addr)(u:HO),i≠j->env[j]?=some (some y)->eR y=true->σ[j]?=some (some (.ref a))->H a=some u->Hs a=none->(∀ws,u≠.tup ws)->H' a=some u/\J1 a=none)(sp:∀y,x=some y->eR y=true->∀(k:Nat)(z:SV),i≠k->env[k]?=some (some z)->eR z=true->σ[k]?≠some v):SR B H₀ J1 H' σ (env.set i x):=by
 have e:σ.set i v=σ:=List.ext_getElem? λj=>by
  rw[Oe]
  by_cases z:i=j
  .subst z;rw[if_pos rfl,if_pos (NY.mp hv).1,hv]
  .rw[if_neg z]
 have:=r.chg gr s new kp sp
 rwa [e] at this
def SR.held{p:Addr}(r:SR B H₀ Hs H σ env)(n:H p=none):∀(j:Nat)(y:SV),env[j]?=some (some y)->eR y=true->σ[j]?≠some (some (.ref p)):=λj y e o z=>by
 obtain⟨v,h1,h2⟩:=r.at_ j y e;obtain⟨a,u,rfl,q,_⟩:=h2.lh o;rw[h1] at z;cases z;rw[n] at q;cases q
def SR.free{p:Addr}(r:SR B H₀ Hs H σ env)(n:H p=none):Hs p=none/\H₀ p=none:=by
 refine⟨?_,?_⟩
 .cases q:Hs p with
  | none=>rfl
  | some o=>have:=r.gr.sub _ _ q;rw[n] at this;cases this
 .cases q:H₀ p with
  | none=>rfl
  |some o=>have:=r.gr.al _ _ q;rw[n] at this;cases this
def aP.lh{p:Addr}(g:aP B H₀ Hs H)(h1:Hs p=none)(h2:H₀ p=none):aP B H₀ Hs (upd H p o) :=
 ⟨g.st,λc u q=>by rw[aq (λz=>by rw[z,h2] at q;cases q)];exact g.al c u q,λc u q=>by rw[aq (λz=>by rw[z,h1] at q;cases q)];exact g.sub c u q,g.nw⟩
def aP.into{p:Addr}(g:aP B H₀ Hs H)(h:H p=some o)(h1:Hs p=none)(h2:H₀ p=none):aP B H₀ (upd Hs p o) H/\aW Hs (upd Hs p o):=by
 have st:aW Hs (upd Hs p o):=λc u q=>by rwa[aq (λz=>by rw[z,h1] at q;cases q)]
 refine⟨⟨λc u q=>st c u (g.st c u q),g.al,λc u q=>?_,λc u q1 q2 q3=>?_⟩,st⟩
 .by_cases z:c=p
  .subst z;rw[av] at q;rw[h,q]
  .rw[aq z] at q;exact g.sub c u q
 .rw[aq (λz=>by rw[z,h2] at q2;cases q2)];exact g.nw c u q1 q2 q3
def SR.grow(r:SR B H₀ Hs H σ env)(g:aP Hs H J1 H'):SR B H₀ J1 H' σ env :=
 r.mv (r.gr.trans g) r.len g.st λ_ _ e=>⟨e,rfl,λa u _ _ h1 h2 h3 t=>⟨g.al _ _ h1,g.nw _ _ h2 h1 t,h3⟩⟩
end
abbrev EX:=Addr×Option (List (Str×PV))
abbrev M(α:Type):=Option (Except EX α)
def M.ok{α:Type}(a:α):M α:=some (.ok a)
variable{α:Type}
noncomputable def M.bind{β:Type}(x:M α)(f:α->M β):M β:=match x with
 | some (.ok a)=>f a
 | some (.error e)=>some (.error e)
 |none=>none
instance:Monad M where
 pure:=M.ok
 bind:=M.bind
def ak(r:M α)(Q:α->Prop)(E:EX->Prop):Prop:=match r with
 | some (.ok a)=>Q a
 | some (.error e)=>E e
 |none=>False
variable{E':EX->Prop}
def ak.imp{r:M α}{Q Q':α->Prop}{E:EX->Prop}(h:ak r Q E)(hq:∀a,Q a->Q' a)(he:∀e,E e->E' e):ak r Q' E':=by
 cases r with
 | none=>exact h
 | some x=>cases x with
  | ok a=>exact hq a h
  |error e=>exact he e h
theorem ak.bind{α β:Type}{x:M α}{f:α->M β}{Q:β->Prop}{E:EX->Prop}(h:ak (x.bind f) Q E):ak x (λa=>ak (f a) Q E) E:=by
 cases x with
 | none=>exact h
 | some x=>cases x with
  | ok a=>exact h
  |error e=>exact h
def XW(E:XK)(Hs H:Hp)(x:EX):Prop:=∀ea J1 H',aP Hs H J1 H'->Rep J1 (.exc x.1 x.2) (.ref ea)->E (.ref ea) none H'
def XW.grow{E:XK}{J1 H':Hp}{x:EX}(h:XW E Hs H x)(g:aP Hs H J1 H'):XW E J1 H' x:=λea J5 H2 g2 r=>h ea J5 H2 (g.trans g2) r
def tE(E:St->XK)(f:aa->M PV):TE:=fun σ H Q=>∃B H₀ Hs env,SR B H₀ Hs H σ env/\ak (f env) (λp=>∀v J1 H',aP Hs H J1 H'->Rep J1 p v->Q v H') (XW (E σ) Hs H)
def PE.imp{t t':TE}(h:PE X e t)(i:∀σ H Q,t' σ H Q->t σ H Q):PE X e t':=λJX s σ H Q I q=>h JX s σ H Q I (i σ H Q q)
def uU{f:aa->M PV}{g:aa->PV->M PV}{Q R:VK}(h:tE E (λenv=>(f env).bind (g env)) σ H Q)(k:∀B H₀ Hs H1 env p v,SR B H₀ Hs H1 σ env->Rep Hs p v->ak (g env p) (λq=>∀u J1 H',aP Hs H1 J1 H'->Rep J1 q u->Q u H') (XW (E σ) Hs H1)->R v H1):tE E f σ H R:=by
 obtain⟨B,H₀,Hs,env,sr,h⟩:=h;refine⟨B,H₀,Hs,env,sr,(ak.bind h).imp (λp hp v J1 H' g r=>?_) λe he=>he⟩;exact k B H₀ J1 H' env p v (sr.grow g) r (hp.imp (λq hq u J5 H2 g2 r2=>hq u J5 H2 (g.trans g2) r2) λe he=>he.grow g)
def u4{f g:aa->M PV}{op:PV->PV->M PV}{r:R2}{Q:VK}(h:tE E (λenv=>(f env).bind λp=>(g env).bind λq=>op p q) σ H Q)(k:∀Hs H1 p q v u,aW Hs H1->Rep Hs p v->Rep Hs q u->ak (op p q) (λz=>∀w J1 H',aP Hs H1 J1 H'->Rep J1 z w->Q w H') (XW (E σ) Hs H1)->r v u H1 Q):ES r (tE E f) (tE E g) σ H Q:=by
 refine uU h λB H₀ Hs H1 env p v sr rp hp=>?_;refine⟨B,H₀,Hs,env,sr,(ak.bind hp).imp (λq hq u J1 H' g ru=>?_) λe he=>he⟩;exact k J1 H' p q v u (sr.grow g).gr.sub (rp.mono g.st) ru (hq.imp (λz hz w J5 H2 g2 r2=>hz w J5 H2 (g.trans g2) r2) λe he=>he.grow g)
def F_{f:aa->M PV}{op:PV->M PV}{r:V->Hp->VK->Prop}{Q:VK}(h:tE E (λenv=>(f env).bind op) σ H Q)(k:∀Hs H1 p v,aW Hs H1->Rep Hs p v->ak (op p) (λz=>∀w J1 H',aP Hs H1 J1 H'->Rep J1 z w->Q w H') (XW (E σ) Hs H1)->r v H1 Q):Jq r (tE E f) σ H Q :=
 uU h λB H₀ Hs H1 env p v sr rp hp=>k Hs H1 p v sr.gr.sub rp hp
def CC(sp:Sp)(Ku:List V)(E:St->XK)(t:TA):TE:=fun σ H Q=>t σ H λvs H1=>sp (vs++Ku) H1 Q (E σ)
def D3(C:Addr)(m:Str)(sp:Sp)(Ku:List V)(E:St->XK)(ta:TE)(t:TA):TE:=fun σ H Q=>ta σ H λx H1=>∃a dx fs,x=.ref a/\H1 a=some (.ins C dx fs)/\fs.lookup m=none ∧
 t σ H1 λvs H2=>sp (x::(vs++Ku)) H2 Q (E σ)
def Eg(C:Addr)(sp:Sp)(Ku:List V)(E:St->XK)(t:TA):TE:=fun σ H Q=>t σ H λvs H1=>∀x dx,H1 x=none->H1 dx=none->dx≠x ->
 sp (.ref x::(vs++Ku)) (upd (upd H1 dx (.own x)) x (.ins C dx [])) (λv H2=>v=.aJ/\Q (.ref x) H2) (E σ)
variable{Ku:List V}
variable{vs:List V}{us:List Value}
variable{pl:Sem Bool}
section
variable{p:Pos}{o:Expr}
def uR{Q:VK}(F:aV X.prog X.w X.K X.mg X.base (cf X.prog X.w) k f fd ps sp)(hr:bH k X.A)(hb:Binds X.K fd ps ds)(hd:Vals Ku ds)(hx:dG X E)(I:Inv X JX σ H s)(r:Vals vs us)(h:sp (vs++Ku) H Q (E σ)):wpAny ↑8 X.A (call (.ref f) us) (EP X JX σ Q) X.xe s:=by
 have r2:Vals (vs++Ku) (us++ds):=r.append hd;have hl:(us++ds).length=ps.length:=by rw[<- r2.length];exact F.len _ _ _ _ h
 refine Q3 (QU (F.run X.A X.stack s H ⟨us,[]⟩ (us++ds) (vs++Ku) Q (E σ) hr I.eM (hb s us I.gi hl) r2 h) λr s' hq=>?_);cases r with
 | error e=>exact hx.pass JX σ H s e s' I hq
 | ok fl =>
  cases fl with
  | ret u=>exact I.after hq
  | next=>exact Ox hq
  | brk=>exact Ox hq
  |cont=>exact Ox hq
def q_(F:aV X.prog X.w X.K X.mg X.base (cf X.prog X.w) k f fd ps sp)(hr:bH k X.A)(hg:Gl X x)(hm:X.mg x=some (.ref f))(hk:NS X.K (.ref f)=true)(hb:Binds X.K fd ps ds)(hd:Vals Ku ds)(hx:dG X E)(ha:PA X (e::es) t)(Kt:autoParam ↑7 aD._auto_1)(he:autoParam ↑0 aR._auto_1)(Kb:autoParam ↑2 aR._auto_1):PE X (.Call (.Name x p) (e::es) [] pos) (CC sp Ku E t):=by
 intro JX s σ H Q I h;refine OR (gq I hg hm ?_ Kt);refine PM (h₀:=X.base) I.ok.mod.D0 hk (cn (ha pos JX s σ H _ I h) λus s1 ⟨vs,H1,I1,r,q⟩=>⟨I1.gi,?_⟩) he Kb;exact uR F hr hb hd hx I1 r q
def wg(he:PE X o ta)(c:nV X.K C)(hm:Meth X.K C m f)(F:aV X.prog X.w X.K X.mg X.base (cf X.prog X.w) k f fd ps sp)(hr:bH k X.A)(hb:Binds X.K fd ps ds)(hd:Vals Ku ds)(hx:dG X E)
  (ht:autoParam (eval (.Call (.Attribute o m apos) [] [] pos) X.env=(do
   let ov <- eval o X.env
   standAt apos.atName
   let (f,first) <- holding [ov] (getMethod ov m pl)
   callWith pos f first (backTo pos (starEach [] X.env)) (backToKw pos (keywordEach [] X.env)))) aR._auto_1) :
  PE X (.Call (.Attribute o m apos) [] [] pos) (D3 C m sp Ku E ta D9):=by
 intro JX s σ H Q I h;refine PySem.W.methodCall_KW (pl:=pl) (cn (he JX s σ H _ I h) λu s1 ⟨x,H1,I1,rx,a,dx,fs,ex,ea,l,q⟩=>?_) ht;subst ex;obtain rfl:u=Nj a:=rx;refine um I1 ea c hm l ?_;exact PySem.W.callWith_K0 (first:=[.ref a]) I1.gi hm.kp (uR (us:=[.ref a]) (vs:=[.ref a]) F hr hb hd hx I1 (.cons rfl .nil) q)
def v7{Q:VK}(M:Mk X.K C f)(F:aV X.prog X.w X.K X.mg X.base (cf X.prog X.w) k f fd ps sp)(hr:bH (k+1) X.A)(hb:Binds X.K fd ps ds)(hd:Vals Ku ds)(hx:dG X E)(I:Inv X JX σ H s)(r:Vals vs us)(h:∀x dx,H x=none->H dx=none->dx≠x->sp (.ref x::(vs++Ku)) (upd (upd H dx (.own x)) x (.ins C dx [])) (λv H2=>v=.aJ/\Q (.ref x) H2) (E σ)):wpAny ↑8 X.A (call (.ref C) us) (EP X JX σ Q) X.xe s:=by
 have hq:=h (s.heap.objs.size+1) s.heap.objs.size (I.bo.fresh (Qx _)) (I.bo.fresh (Np _)) (Ny (Om _));have I2:=Inv.made (C:=C) I;have r2:Vals (V.ref (s.heap.objs.size+1)::(vs++Ku)) (Nj (s.heap.objs.size+1)::(us++ds)):=.cons rfl (r.append hd);have hl:(Nj (s.heap.objs.size+1)::us++ds).length=ps.length:=by
  have e:=r2.length;rw[F.len _ _ _ _ hq] at e;exact e.symm
 refine Q3 (xY (f:=f) I.gi M.makes M.init (beq_iff_eq.mp M.fn) (QU (F.run _ X.stack _ _ ⟨Nj (s.heap.objs.size+1)::us,[]⟩ (Nj (s.heap.objs.size+1)::(us++ds)) _ _ (E σ) (hr.make C us [])
  (I2.eM.make C us []) (hb _ (Nj (s.heap.objs.size+1)::us) I2.gi hl) r2 hq) λr s' L4=>?_))
 cases r with
 | error e=>exact hx.pass JX σ _ _ e s' I2 L4
 | ok fl =>
  cases fl with
  | ret u =>
   obtain⟨v,H',I3,rv,ev,q3⟩:=I2.after L4;subst ev;exact⟨rv,⟨V.ref (s.heap.objs.size+1),H',I3,rfl,q3⟩⟩
  | next=>exact Ox L4
  | brk=>exact Ox L4
  |cont=>exact Ox L4
def x6(M:Mk X.K C f)(F:aV X.prog X.w X.K X.mg X.base (cf X.prog X.w) k f fd ps sp)(hr:bH (k+1) X.A)(hg:Gl X x)(hm:X.mg x=some (.ref C))(hb:Binds X.K fd ps ds)(hd:Vals Ku ds)(hx:dG X E)(ha:PA X (e::es) t)(Kt:autoParam ↑7 aD._auto_1)(he:autoParam ↑0 aR._auto_1)(Kb:autoParam ↑2 aR._auto_1):PE X (.Call (.Name x p) (e::es) [] pos) (Eg C sp Ku E t):=by
 intro JX s σ H Q I h;refine OR (gq I hg hm ?_ Kt);refine PM (h₀:=X.base) I.ok.mod.D0 M.kp (cn (ha pos JX s σ H _ I h) λus s1 ⟨vs,H1,I1,r,q⟩=>⟨I1.gi,?_⟩) he Kb;exact v7 M F hr hb hd hx I1 r q
end
abbrev cA(Hs H:Hp)(Q:VK):PV->Prop:=λz=>∀w J1 H',aP Hs H J1 H'->Rep J1 z w->Q w H'
variable{p:PV}
def cA.flat{Q:VK}(h:cA Hs H Q p)(s:aW Hs H)(r:Rep Hs p v):Q v H:=h v Hs H (.refl s) r
theorem cA.tup{Hs H:Hp}{Q:VK}{xs:List PV}{vs:List V}(h:cA Hs H Q (.tup xs))(s:aW Hs H)(r:aB Hs xs vs):∀p,H p=none->Q (.ref p) (upd H p (.tup vs)) :=
 λp n=>h _ (upd Hs p (.tup vs)) _ (aP.new s n) (.tup av (r.mono (aP.new s n).st))
theorem cA.lst{Hs H:Hp}{Q:VK}{xs:List PV}{vs:List V}(h:cA Hs H Q (.lst xs))(s:aW Hs H)(r:aB Hs xs vs):∀p,H p=none->Q (.ref p) (upd H p (.lst vs)) :=
 λp n=>h _ (upd Hs p (.lst vs)) _ (aP.new s n) (.lst av (r.mono (aP.new s n).st))
namespace HT
def zp{prog:Program}{w:World}{A:Around}{E:Value->Shared->Prop}{s:Shared}{t b:Addr}{ws:List Value}{Q:Value->Shared->Prop}(ht:IsTup s.heap t #[])(hb:IsTup s.heap b ws.toArray)(h1:Q (.ref b) s):wpAny ↑11 A (binaryOp .Add (.ref t) (.ref b)) Q E s:=by
 obtain⟨⟨cls,dd,data,sl⟩,ho,hc,n,hd⟩:=id ht;obtain⟨⟨cls2,MI,data2,sl2⟩,LL,MN,n2,hd2⟩:=id hb;simp only at hc hd MN hd2;subst hc hd MN hd2;exact SA ⟨_,ho,rfl⟩ ⟨_,LL,rfl⟩ Rl RZ P_ PR (Py _ _)
   (tuple_addW0 t b #[] ws.toArray n n2 dd MI sl sl2 rfl) ⟨ho,LL,h1⟩
end HT
def x9(K:Nb):R2:=λx y H Q=>∃a b ys,x=.ref a/\y=.ref b/\fg K H a []/\fg K H b ys/\Q (.ref b) H
def zB:fm X (binaryOp .Add) (x9 X.K):=by
 intro JX s σ H x y v u Q I rx ry h;obtain⟨a,b,ys,rfl,rfl,ha,hb,q1⟩:=h;cases rx;cases ry;obtain⟨J2,r1,p1,_⟩:=I.tuple ha;obtain⟨Ly,r2,p2,_⟩:=I.tuple hb;have e:J2=[]:=r1.jm.mpr rfl;subst e;exact HT.zp p1 p2 ⟨.ref b,H,I,rfl,q1⟩
def bT(c:Prop)[Decidable c](x:M α):M α:=if c then x else none
theorem ak.bT{α:Type}{c:Prop}[Decidable c]{x:M α}{Q:α->Prop}{E:EX->Prop}(h:ak (L2.bT c x) Q E):c/\ak x Q E:=by
 unfold L2.bT at h
 by_cases hc:c
 .rw[if_pos hc] at h;exact⟨hc,h⟩
 .rw[if_neg hc] at h;exact h.elim
def fu(o:Option PV):M PV:=match o with
 | some x=>M.ok x
 |none=>none
def ak.opt{o:Option PV}{Q:PV->Prop}{E:EX->Prop}(h:ak (fu o) Q E):∃x,o=some x/\Q x:=by
 cases o with
 | none=>exact h.elim
 |some x=>exact⟨x,rfl,h⟩
variable{op:CmpOp}
section
variable{a b:Expr}{f g h:aa->M PV}
def af(i:Nat)(env:aa):M PV:=match env[i]? with
 | some (some (.sh p))=>M.ok p
 |_=>none
def CD(hN:X.N[i]?=some x)(hv:vI X.env.scope x)(hd:autoParam ↑7 aD._auto_1)(Ko:autoParam ↑6 aD._auto_1):PE X (.Name x pos) (tE E (af i)):=by
 refine(fq hN hv hd Ko).imp fun σ H Q q=>?_;obtain⟨B,H₀,Hs,env,sr,q⟩:=q;unfold af at q
 split at q
 .rename_i p e;obtain⟨v,h1,h2⟩:=sr.sh i p e;exact⟨v,h1,cA.flat q sr.gr.sub h2⟩
 .exact q.elim
def jB(he:PE X e (tC v))(r:∀H,Rep H p v):PE X e (tE E λ_=>M.ok p):=by
 refine he.imp fun σ H Q q=>?_;obtain⟨B,H₀,Hs,env,sr,q⟩:=q;exact cA.flat q sr.gr.sub (r Hs)
def Cz{i:Int}:PE X (.Constant (.int i) j pos) (tE E λ_=>M.ok (.int i)):=jB CU λ_=>.int i
def Fl{i:Bool}:PE X (.Constant (.bool i) j pos) (tE E λ_=>M.ok (.bl i)):=jB FH λ_=>.bl i
def Ew:PE X (.Constant .none j pos) (tE E λ_=>M.ok .aJ):=jB DQ λ_=>.aJ
def Dy{i:Str}:PE X (.Constant (.str i) j pos) (tE E λ_=>M.ok (.str i)):=jB CK λ_=>.str i
def ah(op:PV->PV->M PV)(f g:aa->M PV):aa->M PV:=λenv=>(f env).bind λp=>(g env).bind λq=>op p q
def jg(E:St->XK)(r:R2)(op:PV->PV->M PV):Prop:=∀(σ:St)(Hs H:Hp)(p q:PV)(v u:V)(Q:VK),aW Hs H->Rep Hs p v->Rep Hs q u->ak (op p q) (cA Hs H Q) (XW (E σ) Hs H)->r v u H Q
def ka{op:Operator}{r:R2}{o:PV->PV->M PV}(ho:fm X (binaryOp op) r)(hv:jg E r o)(ha:PE X a (tE E f))(hb:PE X b (tE E g)):PE X (.BinOp a op b pos) (tE E (ah o f g)) :=
 (BY ho ha hb).imp fun σ H Q q=>u4 q λHs H1 p q v u s rp rq h=>hv σ Hs H1 p q v u Q s rp rq h
def fV{r:R2}{o:PV->PV->M PV}(ho:fm X (compareOp op) r)(hv:jg E r o)(ha:PE X a (tE E f))(hb:PE X b (tE E g))(hm:behindInMarks op b=false):PE X (.Compare a [op] [b] pos) (tE E (ah o f g)) :=
 (By ho ha hb hm).imp fun σ H Q q=>u4 q λHs H1 p q v u s rp rq h=>hv σ Hs H1 p q v u Q s rp rq h
def dc:PV->PV->M PV
 | .int i,.int j=>M.ok (.int (i+j))
 | .str x,.str y=>bT (x.length+y.length<=sizeLine) (M.ok (.str (x++y)))
 | .tup xs,.tup ys=>bT (xs.length+ys.length<=sizeLine) (M.ok (.tup (xs++ys)))
 | .lst xs,.lst ys=>bT (xs.length+ys.length<=sizeLine) (M.ok (.lst (xs++ys)))
 |_,_=>none
def Cd(K:Nb):R2:=λx y H Q=>(∃i j,x=.int i/\y=.int j/\Q (.int (i+j)) H)\/(∃i j,x=.str i/\y=.str j/\i.length+j.length<=sizeLine/\Q (.str (i++j)) H)\/BK K x y H Q\/Fs x y H Q\/x9 K x y H Q
def Ai:fm X (binaryOp .Add) (Cd X.K):=fm.or C8 (fm.or s_ (fm.or Bt (fm.or xp zB)))
def DS{K:Nb}:jg E (Cd K) dc:=by
 intro σ Hs H p q v u Q s rp rq h;cases rp with
 | int i=>cases rq with
  | int j=>exact .inl ⟨i,j,rfl,rfl,cA.flat h s (.int _)⟩
  | _=>exact h.elim
 | str i=>cases rq with
  | str j =>
   obtain⟨hz,h⟩:=ak.bT h;exact .inr (.inl ⟨i,j,rfl,rfl,hz,cA.flat h s (.str _)⟩)
  | _=>exact h.elim
 | @tup a xs vs ha hx=>cases rq with
  | @tup b ys us hb hy =>
   obtain⟨hz,h⟩:=ak.bT h;cases hx with
   | nil=>exact .inr (.inr (.inr (.inr ⟨a,b,us,rfl,rfl,fg.of (s _ _ ha),fg.of (s _ _ hb),cA.flat h s (.tup hb hy)⟩)))
   | cons Ml KU =>
    have hx:=aB.cons Ml KU;refine .inr (.inr (.inl ⟨a,b,_,us,rfl,rfl,fg.of (s _ _ ha),fg.of (s _ _ hb),(λz=>nomatch z),by rwa[<- hx.length,<- hy.length],λz=>?_,λz=>cA.tup h s (hx.append hy)⟩));have e:ys=[]:=by cases hy with|nil=>rfl|cons _ _=>cases z
    subst e;rw[NX] at h;exact cA.flat h s (.tup ha hx)
  | _=>exact h.elim
 | @lst a xs vs ha hx=>cases rq with
  | @lst b ys us hb hy =>
   obtain⟨hz,h⟩:=ak.bT h;exact .inr (.inr (.inr (.inl ⟨a,b,vs,us,rfl,rfl,s _ _ ha,s _ _ hb,by rwa[<- hx.length,<- hy.length],cA.lst h s (hx.append hy)⟩)))
  | _=>exact h.elim
 |_=>exact h.elim
def ua(c:Int->Int->Bool)(o:Int->Int->Int):PV->PV->M PV
 | .int i,.int j=>bT (c i j=true) (M.ok (.int (o i j)))
 |_,_=>none
def sW{C:Int->Int->Prop}{c:Int->Int->Bool}{o:Int->Int->Int}(hc:∀i j,c i j=true->C i j):jg E (rI C λi j=>.int (o i j)) (ua c o):=by
 intro σ Hs H p q v u Q s rp rq h;cases rp with
 | int i=>cases rq with
  | int j =>
   obtain⟨hz,h⟩:=ak.bT h;exact⟨i,j,rfl,rfl,hc i j hz,cA.flat h s (.int _)⟩
  | _=>exact h.elim
 |_=>exact h.elim
def jS:PV->PV->M PV
 | .int i,.int j=>M.ok (.int (i-j))
 |_,_=>none
def Et:jg E (u6 λi j=>.int (i-j)) jS:=by
 intro σ Hs H p q v u Q s rp rq h;cases rp with
 | int i=>cases rq with
  | int j=>exact⟨i,j,rfl,rfl,cA.flat h s (.int _)⟩
  | _=>exact h.elim
 |_=>exact h.elim
def xx(o:Int->Int->Bool):PV->PV->M PV
 | .int i,.int j=>M.ok (.bl (o i j))
 |_,_=>none
def pq{o:Int->Int->Bool}:jg E (u6 λi j=>.bl (o i j)) (xx o):=by
 intro σ Hs H p q v u Q s rp rq h;cases rp with
 | int i=>cases rq with
  | int j=>exact⟨i,j,rfl,rfl,cA.flat h s (.bl _)⟩
  | _=>exact h.elim
 |_=>exact h.elim
def aC:PV->PV->M PV
 | .tup xs,.int i=>fu (oQ xs i)
 | .lst xs,.int i=>fu (oQ xs i)
 | .aY xs,.int i=>fu (oQ xs i)
 | .str z,.int i=>bT (z.length<=sizeLine) (fu ((oQ z.cps.toList i).map λc=>.str ⟨#[c]⟩))
 |_,_=>none
theorem aB.oQ{H:Hp}{xs:List PV}{vs:List V}{i:Int}{x:PV}(r:aB H xs vs)(e:L2.oQ xs i=some x):∃v,L2.oQ vs i=some v/\Rep H x v:=by
 unfold L2.oQ at e ⊢;rw[<- r.length];obtain⟨j,h1,h2⟩:=Oq.mp e;obtain⟨v,h3,h4⟩:=r.get h2;exact⟨v,by rwa[h1],h4⟩
def CO{K:Nb}:jg E (Jo K) aC:=by
 intro σ Hs H p q v u Q s rp rq h;cases rp with
 | @tup a xs vs ha hx=>cases rq with
  | int i =>
   obtain⟨x,ex,h⟩:=ak.opt h;obtain⟨v,h1,h2⟩:=hx.oQ ex;exact .inr (.inl ⟨a,vs,i,v,rfl,rfl,fg.of (s _ _ ha),h1,cA.flat h s h2⟩)
  | _=>exact h.elim
 | @lst a xs vs ha hx=>cases rq with
  | int i =>
   obtain⟨x,ex,h⟩:=ak.opt h;obtain⟨v,h1,h2⟩:=hx.oQ ex;exact .inl ⟨a,vs,i,v,rfl,rfl,fj.of (s _ _ ha),h1,cA.flat h s h2⟩
  | _=>exact h.elim
 | @aY a o xs vs ha hx=>cases rq with
  | int i =>
   obtain⟨x,ex,h⟩:=ak.opt h;obtain⟨v,h1,h2⟩:=hx.oQ ex;exact .inl ⟨a,vs,i,v,rfl,rfl,.inl (.inr ⟨o,s _ _ ha⟩),h1,cA.flat h s h2⟩
  | _=>exact h.elim
 | str z=>cases rq with
  | int i =>
   obtain⟨hz,h⟩:=ak.bT h;obtain⟨x,ex,h⟩:=ak.opt h;obtain⟨c,ec,rfl⟩:=Nf.mp ex;exact .inr (.inr ⟨z,i,c,rfl,rfl,hz,ec,cA.flat h s (.str _)⟩)
  | _=>exact h.elim
 |_=>exact h.elim
def Ci(ha:PE X a (tE E f))(hb:PE X b (tE E g))(hs:lK b):PE X (.Subscript a b pos) (tE E (ah aC f g)) :=
 (BH xQ ha hb hs).imp fun σ H Q q=>u4 q λHs H1 p q v u s rp rq h=>CO σ Hs H1 p q v u Q s rp rq h
end
def tG(E:St->XK)(f:aa->M α)(K:Hp->Hp->α->Prop):St->Hp->Prop:=fun σ H=>∃B H₀ Hs env,SR B H₀ Hs H σ env/\ak (f env) (K Hs H) (XW (E σ) Hs H)
def KG(K:Hp->Hp->α->Prop):Prop:=∀Hs H J1 H' b,K Hs H b->aP Hs H J1 H'->K J1 H' b
abbrev KB(Q:Bool->Hp->Prop):Hp->Hp->Bool->Prop:=λHs H k=>∀J1 H',aP Hs H J1 H'->Q k H'
abbrev gu(Q:VK):Hp->Hp->PV->Prop:=λHs H p=>cA Hs H Q p
abbrev KL(Q:List V->Hp->Prop):Hp->Hp->List PV->Prop:=λHs H ps=>∀vs J1 H',aP Hs H J1 H'->aB J1 ps vs->Q vs H'
theorem KB.g{Q:Bool->Hp->Prop}:KG (KB Q):=λHs H J1 H' b k g J5 H2 g2=>k J5 H2 (g.trans g2)
theorem gu.g{Q:VK}:KG (gu Q):=λHs H J1 H' b k g w J5 H2 g2 r=>k w J5 H2 (g.trans g2) r
theorem KL.g{Q:List V->Hp->Prop}:KG (KL Q):=λHs H J1 H' b k g w J5 H2 g2 r=>k w J5 H2 (g.trans g2) r
def tT(E:St->XK)(f:aa->M Bool):TT:=fun σ H Q=>tG E f (KB Q) σ H
def tL(E:St->XK)(f:aa->M (List PV)):TA:=fun σ H Q=>tG E f (KL Q) σ H
def PT.imp{t t':TT}(h:PT X e t)(i:∀σ H Q,t' σ H Q->t σ H Q):PT X e t':=λJX s σ H Q I q=>h JX s σ H Q I (i σ H Q q)
def PW.imp{t t':TT}(h:PW X e t)(i:∀σ H Q,t' σ H Q->t σ H Q):PW X e t':=λw JX s σ H Q I q=>h w JX s σ H Q I (i σ H Q q)
def PA.imp{e:List Expr}{t':TA}(h:PA X e t)(i:∀σ H Q,t' σ H Q->t σ H Q):PA X e t':=λw JX s σ H Q I q=>h w JX s σ H Q I (i σ H Q q)
section
variable{β:Type}{K:Hp->Hp->β->Prop}
def bx{f:aa->M PV}{g:aa->PV->M β}{R:VK}(kg:KG K)(h:tG E (λenv=>(f env).bind (g env)) K σ H)(k:∀B H₀ Hs H1 env p v,SR B H₀ Hs H1 σ env->Rep Hs p v->ak (g env p) (K Hs H1) (XW (E σ) Hs H1)->R v H1):tE E f σ H R:=by
 obtain⟨B,H₀,Hs,env,sr,h⟩:=h;refine⟨B,H₀,Hs,env,sr,(ak.bind h).imp (λp hp v J1 H' g r=>?_) λe he=>he⟩;exact k B H₀ J1 H' env p v (sr.grow g) r (hp.imp (λq hq=>kg _ _ _ _ q hq g) λe he=>he.grow g)
def mW{f:aa->M Bool}{g:aa->Bool->M β}{R:Bool->Hp->Prop}(kg:KG K)(h:tG E (λenv=>(f env).bind (g env)) K σ H)(k:∀B H₀ Hs H1 env p,SR B H₀ Hs H1 σ env->ak (g env p) (K Hs H1) (XW (E σ) Hs H1)->R p H1):tT E f σ H R:=by
 obtain⟨B,H₀,Hs,env,sr,h⟩:=h;refine⟨B,H₀,Hs,env,sr,(ak.bind h).imp (λp hp J1 H' g=>?_) λe he=>he⟩;exact k B H₀ J1 H' env p (sr.grow g) (hp.imp (λq hq=>kg _ _ _ _ q hq g) λe he=>he.grow g)
def eO{f:aa->M (List PV)}{g:aa->List PV->M β}{R:List V->Hp->Prop}(kg:KG K)(h:tG E (λenv=>(f env).bind (g env)) K σ H)(k:∀B H₀ Hs H1 env p v,SR B H₀ Hs H1 σ env->aB Hs p v->ak (g env p) (K Hs H1) (XW (E σ) Hs H1)->R v H1):tL E f σ H R:=by
 obtain⟨B,H₀,Hs,env,sr,h⟩:=h;refine⟨B,H₀,Hs,env,sr,(ak.bind h).imp (λp hp v J1 H' g r=>?_) λe he=>he⟩;exact k B H₀ J1 H' env p v (sr.grow g) r (hp.imp (λq hq=>kg _ _ _ _ q hq g) λe he=>he.grow g)
end
def sZ:PV->M Bool
 | .bl b=>M.ok b
 |_=>none
def cm(f:aa->M PV):aa->M Bool:=λenv=>(f env).bind sZ
def ak.Gr{Q:Bool->Prop}{E:EX->Prop}(h:ak (sZ p) Q E):∃b,p=.bl b/\Q b:=by
 cases p with
 | bl b=>exact⟨b,rfl,h⟩
 |_=>exact h.elim
variable{r:List V->Hp->VK->Prop}
section
variable{a b:Expr}{f g h:aa->M PV}{u v:aa->M Bool}{rest:List Expr}
def qO{Q:Bool->Hp->Prop}(q:tT E (cm f) σ H Q):tB (tE E f) σ H Q:=by
 refine bx KB.g q λB H₀ Hs H1 env p v sr rp hp=>?_;obtain⟨k,rfl,hp⟩:=ak.Gr hp;cases rp;exact⟨k,rfl,hp Hs H1 (.refl sr.gr.sub)⟩
def mw(he:PE X e (tE E f))(hw:autoParam (∀whole,isTrue e X.env whole=(do let v <- whole;standAt e.pos;holding [v] (truthy v))) aI._auto_1):PT X e (tT E (cm f)) :=
 (xv he hw).imp fun σ H Q q=>qO q
def fS{r:R2}{o:PV->PV->M PV}(ho:fm X (compareOp op) r)(hv:jg E r o)(ha:PE X a (tE E f))(hb:PE X b (tE E g))(hm:behindInMarks op b=false):PT X (.Compare a [op] [b] pos) (tT E (cm (ah o f g))):=by
 refine(A7 ho ha hb hm).imp fun σ H Q q=>?_;have q':=qO q;exact u4 q' λHs H1 p q v u s rp rq h=>hv σ Hs H1 p q v u _ s rp rq h
def gR(u:aa->M Bool):aa->M Bool:=λenv=>(u env).bind λb=>M.ok (!b)
def yD(u v:aa->M Bool):aa->M Bool:=λenv=>(u env).bind λb=>if b=true then v env else M.ok false
def ny(u v:aa->M Bool):aa->M Bool:=λenv=>(u env).bind λb=>if b=true then M.ok true else v env
def D8(ha:PT X a (tT E u)):PT X (.UnaryOp .Not a pos) (tT E (gR u)) :=
 (Em ha).imp fun σ H Q q=>mW KB.g q λB H₀ Hs H1 env p sr hp=>hp Hs H1 (.refl sr.gr.sub)
def pf(ha:PT X a (tT E u)):PW X (.BoolOp .And [a] pos) (tT E u):=pw_and1 ha
def gE(ha:PT X a (tT E u)):PW X (.BoolOp .Or [a] pos) (tT E u):=pw_or1 ha
def sT(ha:PT X a (tT E u))(hb:PW X (.BoolOp .And (b::rest) pos) (tT E v)):PW X (.BoolOp .And (a::b::rest) pos) (tT E (yD u v)):=by
 refine(pw_and ha hb).imp fun σ H Q q=>mW KB.g q λB H₀ Hs H1 env p sr hp=>?_;cases p with
 | true=>exact⟨B,H₀,Hs,env,sr,hp⟩
 |false=>exact hp Hs H1 (.refl sr.gr.sub)
def iI(ha:PT X a (tT E u))(hb:PW X (.BoolOp .Or (b::rest) pos) (tT E v)):PW X (.BoolOp .Or (a::b::rest) pos) (tT E (ny u v)):=by
 refine(pw_or ha hb).imp fun σ H Q q=>mW KB.g q λB H₀ Hs H1 env p sr hp=>?_;cases p with
 | true=>exact hp Hs H1 (.refl sr.gr.sub)
 |false=>exact⟨B,H₀,Hs,env,sr,hp⟩
def wY(f:aa->M PV):aa->M PV:=λenv=>(f env).bind λp=>(sZ p).bind λb=>M.ok (.bl (!b))
def kf(f g:aa->M PV):aa->M PV:=λenv=>(f env).bind λp=>(sZ p).bind λb=>if b=true then g env else M.ok (.bl false)
def JT(f g:aa->M PV):aa->M PV:=λenv=>(f env).bind λp=>(sZ p).bind λb=>if b=true then M.ok (.bl true) else g env
def tj(ha:PE X a (tE E f)):PE X (.UnaryOp .Not a pos) (tE E (wY f)):=by
 refine(Eo ha).imp fun σ H Q q=>bx (K:=gu Q) gu.g q λB H₀ Hs H1 env p v sr rp hp=>?_;obtain⟨k,rfl,hp⟩:=ak.Gr (ak.bind hp);cases rp;exact⟨k,rfl,cA.flat hp sr.gr.sub (.bl _)⟩
def fU(ha:PE X a (tE E f))(hb:PE X (.BoolOp .And (b::rest) pos) (tE E g)):PE X (.BoolOp .And (a::b::rest) pos) (tE E (kf f g)):=by
 refine(Ep ha hb).imp fun σ H Q q=>bx (K:=gu Q) gu.g q λB H₀ Hs H1 env p v sr rp hp=>?_;obtain⟨k,rfl,hp⟩:=ak.Gr (ak.bind hp);cases rp;refine⟨k,rfl,?_⟩;cases k with
 | true=>exact⟨B,H₀,Hs,env,sr,hp⟩
 |false=>exact cA.flat hp sr.gr.sub (.bl _)
def GQ(u:aa->M Bool)(f g:aa->M PV):aa->M PV:=λenv=>(u env).bind λb=>if b=true then f env else g env
def aj:aa->M (List PV):=λ_=>M.ok []
def ae(f:aa->M PV)(fs:aa->M (List PV)):aa->M (List PV):=λenv=>(f env).bind λp=>(fs env).bind λps=>M.ok (p::ps)
variable{fs:aa->M (List PV)}
def CZ:PA X [] (tL E aj):=by
 refine cZ.imp fun σ H Q q=>?_;obtain⟨B,H₀,Hs,env,sr,q⟩:=q;exact q [] Hs H (.refl sr.gr.sub) .nil
def Bx(ha:PE X e (tE E f))(hr:PA X es (tL E fs))(hs:autoParam ↑0 aR._auto_1):PA X (e::es) (tL E (ae f fs)):=by
 refine(aT ha hr hs).imp fun σ H Q q=>bx (K:=KL Q) KL.g q λB H₀ Hs H1 env p v sr rp hp=>?_;refine⟨B,H₀,Hs,env,sr,(ak.bind hp).imp (λps hps vs J1 H' g r=>?_) λe he=>he⟩;exact hps (v::vs) J1 H' g (.cons (rp.mono g.st) r)
def gY(fs:aa->M (List PV)):aa->M PV:=λenv=>(fs env).bind λps=>bT (ps.length<=sizeLine) (M.ok (.tup ps))
def dn(fs:aa->M (List PV)):aa->M PV:=λenv=>(fs env).bind λps=>bT (ps.length<=sizeLine) (M.ok (.lst ps))
def Cg(hr:PA X es (tL E fs)):PE X (.Tuple es x1 pos) (tE E (gY fs)):=by
 refine(i6 hr).imp fun σ H Q q=>eO (K:=gu Q) gu.g q λB H₀ Hs H1 env p v sr rp hp=>?_;obtain⟨hz,hp⟩:=ak.bT hp;exact⟨by rwa[<- rp.length],cA.tup hp sr.gr.sub rp⟩
def Df(hr:PA X es (tL E fs)):PE X (.List es pos) (tE E (dn fs)):=by
 refine(yd hr).imp fun σ H Q q=>eO (K:=gu Q) gu.g q λB H₀ Hs H1 env p v sr rp hp=>?_;obtain⟨hz,hp⟩:=ak.bT hp;exact⟨by rwa[<- rp.length],cA.lst hp sr.gr.sub rp⟩
def ai(o:List PV->M PV)(fs:aa->M (List PV)):aa->M PV:=λenv=>(fs env).bind o
def iM(E:St->XK)(r:List V->Hp->VK->Prop)(o:List PV->M PV):Prop:=∀(σ:St)(Hs H:Hp)(ps:List PV)(vs:List V)(Q:VK),aW Hs H->aB Hs ps vs->ak (o ps) (cA Hs H Q) (XW (E σ) Hs H)->r vs H Q
def yf{o:List PV->M PV}{Q:VK}(hv:iM E r o)(q:tE E (ai o fs) σ H Q):GA r (tL E fs) σ H Q :=
 eO (K:=gu Q) gu.g q λB H₀ Hs H1 env p v sr rp hp=>hv σ Hs H1 p v Q sr.gr.sub rp hp
variable{p:Pos}{id T:String}
def jz{o:List PV->M PV}(hc:bX X (.builtin id) r)(hv:iM E r o)(hg:Gl X x)(hm:X.mg x=none)(hx:bootBuiltins x=some (.builtin id))(ha:PA X (e::es) (tL E fs))(hn:autoParam (x ≠ "__name__") aD._auto_1)(Kt:autoParam ↑7 aD._auto_1)(he:autoParam ↑0 aR._auto_1)(Kb:autoParam ↑2 aR._auto_1):PE X (.Call (.Name x p) (e::es) [] pos) (tE E (ai o fs)) :=
 (eI hc hg hm hx ha hn Kt he Kb).imp fun σ H Q q=>yf hv q
def iz{o:List PV->M PV}(hc:bX X (.type T) r)(hv:iM E r o)(hg:Gl X x)(hm:X.mg x=none)(hx:bootBuiltins x=some (.type T))(ha:PA X (e::es) (tL E fs))(hn:autoParam (x ≠ "__name__") aD._auto_1)(Kt:autoParam ↑7 aD._auto_1)(he:autoParam ↑0 aR._auto_1)(Kb:autoParam ↑2 aR._auto_1):PE X (.Call (.Name x p) (e::es) [] pos) (tE E (ai o fs)) :=
 (wu hc hg hm hx ha hn Kt he Kb).imp fun σ H Q q=>yf hv q
end
variable{xs:List PV}
def aS:PV->Option (List PV)
 | .tup xs=>some xs
 | .lst xs=>some xs
 | .aY xs=>some xs
 |_=>none
def w_{K:Nb}(s:aW Hs H)(r:Rep Hs p v)(e:aS p=some xs):∃a vs,v=.ref a/\(fj K H a vs\/fg K H a vs)/\aB Hs xs vs:=by
 cases r with
 | tup h r=>cases e;exact⟨_,_,rfl,.inr (fg.of (s _ _ h)),r⟩
 | lst h r=>cases e;exact⟨_,_,rfl,.inl (fj.of (s _ _ h)),r⟩
 | aY h r=>cases e;exact⟨_,_,rfl,.inl (.inl (.inr ⟨_,s _ _ h⟩)),r⟩
 |_=>cases e
def mH:PV->M PV
 | .str z=>bT (z.length<=sizeLine) (M.ok (.int z.length))
 |p=>fu ((aS p).map λxs=>.int xs.length)
def cy:List PV->M PV
 | [p]=>mH p
 |_=>none
def aB.one(r:aB H [p] vs):∃v,vs=[v]/\Rep H p v:=by
 cases r with
 |cons h r=>cases r;exact⟨_,rfl,h⟩
def aB.two{q:PV}(r:aB H [p,q] vs):∃v u,vs=[v,u]/\Rep H p v/\Rep H q u:=by
 cases r with
 |cons h r=>obtain⟨u,rfl,h2⟩:=r.one;exact⟨_,_,rfl,h,h2⟩
def BI(K:Nb):List V->Hp->VK->Prop:=λxs H Q=>(∃p ys,xs=[.ref p]/\(fj K H p ys\/fg K H p ys)/\Q (.int ys.length) H)\/∃z,xs=[.str z]/\z.length<=sizeLine/\Q (.int z.length) H
def wH:bX X (.builtin "len") (BI X.K):=bX.or qv qa
def CN{K:Nb}:iM E (BI K) cy:=by
 intro σ Hs H ps vs Q s r h
 match ps,r with
 | [],_=>exact h.elim
 | _::_::_,_=>exact h.elim
 | [p],r =>
  obtain⟨v,rfl,rp⟩:=r.one;cases hp:aS p with
  | none =>
   cases p with
   | str z =>
    cases rp;obtain⟨hz,h⟩:=ak.bT h;exact .inr ⟨z,rfl,hz,cA.flat h s (.int _)⟩
   | tup _=>cases hp
   | lst _=>cases hp
   | aY _=>cases hp
   | _=>exact h.elim
  | some xs =>
   obtain⟨a,us,rfl,hq,hx⟩:=w_ (K:=K) s rp hp;have h':ak (fu ((aS p).map λxs=>PV.int xs.length)) (cA Hs H Q) (XW (E σ) Hs H):=by
    cases p with
    | str z=>cases hp
    | _=>exact h
   rw[hp] at h';refine .inl ⟨a,us,rfl,hq,?_⟩;rw[<- hx.length];exact cA.flat h' s (.int _)
def sd:List PV->M PV
 | [p]=>fu ((aS p).map .lst)
 |_=>none
def z7{K:Nb}:iM E (λxs H Q=>∃p ys,xs=[.ref p]/\(fj K H p ys\/fg K H p ys)/\∀l,H l=none->Q (.ref l) (upd H l (.lst ys))) sd:=by
 intro σ Hs H ps vs Q s r h
 match ps,r with
 | [],_=>exact h.elim
 | _::_::_,_=>exact h.elim
 | [p],r =>
  obtain⟨v,rfl,rp⟩:=r.one;obtain⟨x,ex,h⟩:=ak.opt h;obtain⟨xs,hp,rfl⟩:=Nf.mp ex;obtain⟨a,us,rfl,hq,hx⟩:=w_ (K:=K) s rp hp;exact⟨a,us,rfl,hq,cA.lst h s hx⟩
def dW:List PV->M PV
 | [p]=>fu ((aS p).map .tup)
 |_=>none
def yJ{K:Nb}:iM E (λxs H Q=>∃p ys,xs=[.ref p]/\((fj K H p ys/\∀l,H l=none->Q (.ref l) (upd H l (.tup ys)))\/(fg K H p ys/\Q (.ref p) H))) dW:=by
 intro σ Hs H ps vs Q s r h
 match ps,r with
 | [],_=>exact h.elim
 | _::_::_,_=>exact h.elim
 | [p],r =>
  obtain⟨v,rfl,rp⟩:=r.one;obtain⟨x,ex,h⟩:=ak.opt h;obtain⟨xs,hp,rfl⟩:=Nf.mp ex;cases rp with
  | tup ha hx=>cases hp;exact⟨_,_,rfl,.inr ⟨fg.of (s _ _ ha),cA.flat h s (.tup ha hx)⟩⟩
  | lst ha hx=>cases hp;exact⟨_,_,rfl,.inl ⟨fj.of (s _ _ ha),cA.tup h s hx⟩⟩
  | aY ha hx=>cases hp;exact⟨_,_,rfl,.inl ⟨.inl (.inr ⟨_,s _ _ ha⟩),cA.tup h s hx⟩⟩
  |_=>cases hp
def xG:List PV->Option (List Bool)
 | []=>some []
 | .bl i::r=>(xG r).map (i::·)
 |_=>none
theorem ym:∀{ps:List PV}{ns:List Bool},xG ps=some ns->ps=ns.map PV.bl
 | [],_,e=>by cases e;rfl
 | .bl i::r,_,e=>by
  obtain⟨ms,h1,rfl⟩:=Nf.mp e;rw[ym h1];rfl
theorem rP:∀(ns:List Bool),xG (ns.map PV.bl)=some ns
 | []=>rfl
 |n::r=>by show (xG (r.map PV.bl)).map (n::·)=_;rw[rP r];rfl
def all1:PV->M PV
 | .lst xs=>fu ((xG xs).map λns=>.bl (ns.all id))
 |_=>none
def wy:List PV->M PV
 | [p]=>all1 p
 |_=>none
def DK{K:Nb}:iM E (λxs H Q=>∃(a:Addr)(bs:List Bool),xs=[.ref a]/\fj K H a (bs.map V.bl)/\Q (.bl (bs.all id)) H) wy:=by
 intro σ Hs H ps vs Q s r h
 match ps,r with
 | [],_=>exact h.elim
 | _::_::_,_=>exact h.elim
 | [p],r =>
  obtain⟨v,rfl,rp⟩:=r.one;cases rp with
  | lst ha hx =>
   obtain⟨x,ex,h⟩:=ak.opt h;obtain⟨ns,hn,rfl⟩:=Nf.mp ex;rw[ym hn] at hx;exact⟨_,ns,rfl,hx.Jw▸fj.of (s _ _ ha),cA.flat h s (.bl _)⟩
  |_=>exact h.elim
def Ii(o:Int->Int->Int):PV->PV->M PV
 | .int i,.int j=>M.ok (.int (o i j))
 |_,_=>none
def uE(o:Int->Int->Int):List PV->M PV
 | [p,q]=>Ii o p q
 |_=>none
def uV{o:Int->Int->Int}:iM E (λxs H Q=>∃i j,xs=[.int i,.int j]/\Q (.int (o i j)) H) (uE o):=by
 intro σ Hs H ps vs Q s r h
 match ps,r with
 | [],_=>exact h.elim
 | [_],_=>exact h.elim
 | _::_::_::_,_=>exact h.elim
 | [p,q],r =>
  obtain⟨v,u,rfl,rp,rq⟩:=r.two;cases rp with
  | int i=>cases rq with
   | int j=>exact⟨i,j,rfl,cA.flat h s (.int _)⟩
   | _=>exact h.elim
  |_=>exact h.elim
def gb(n:Nat)(J8:List PV->M PV):Sp:=λvs H Q E=>vs.length=n/\∃Hs ps,aW Hs H/\aB Hs ps vs/\ak (J8 ps) (cA Hs H Q) (XW E Hs H)
variable{K3:List PV}
section
variable{J8:List PV->M PV}{p:Pos}{o:Expr}{fs:aa->M (List PV)}{g:aa->M PV}
def AQ(F:aV X.prog X.w X.K X.mg X.base (cf X.prog X.w) k f fd ps (gb n J8))(hr:bH k X.A)(hg:Gl X x)(hm:X.mg x=some (.ref f))(hk:NS X.K (.ref f)=true)(hb:Binds X.K fd ps ds)(hd:Vals Ku ds)(hdp:∀H,aB H K3 Ku)(O:dG X E)(hl:∀ps,J8 (ps++K3)≠none->ps.length+K3.length=n)(ha:PA X (e::es) (tL E fs))(Kt:autoParam ↑7 aD._auto_1)(he:autoParam ↑0 aR._auto_1)(Kb:autoParam ↑2 aR._auto_1):PE X (.Call (.Name x p) (e::es) [] pos) (tE E (ai (λps=>J8 (ps++K3)) fs)):=by
 refine(q_ F hr hg hm hk hb hd O ha Kt he Kb).imp fun σ H Q q=>eO (K:=gu Q) gu.g q λB H₀ Hs H1 env K_ v sr rp hp=>?_;have r2:aB Hs (K_++K3) (v++Ku):=rp.append (hdp Hs);have hn:J8 (K_++K3)≠none:=λz=>by rwa[z] at hp
 refine⟨?_,Hs,K_++K3,sr.gr.sub,r2,hp⟩;rw[<- r2.length,NG];exact hl K_ hn
def nQ(ok:Addr->Bool)(f:Str)(g:aa->M PV):aa->M PV:=λenv=>(g env).bind λp=>match p with
 | .obj C fs=>bT (ok C=true) (fu (fs.lookup f))
 |_=>none
def DX{ok:Addr->Bool}{fl:Str}(he:PE X e (tE E g))(bo:∀C,ok C=true->nV X.K C/\bM X.K C fl)(hb:attributeBase e fl X.env (eval e X.env)=eval e X.env):PE X (.Attribute e fl pos) (tE E (nQ ok fl g)):=by
 refine(Dh he hb).imp fun σ H Q q=>bx (K:=gu Q) gu.g q λB H₀ Hs H1 env p v sr rp hp=>?_;cases rp with
 | obj ha hx =>
  obtain⟨hc,hp⟩:=ak.bT hp;obtain⟨x,ex,hp⟩:=ak.opt hp;obtain⟨u,h1,h2⟩:=hx.look ex;exact⟨_,_,_,_,u,rfl,sr.gr.sub _ _ ha,(bo _ hc).1,(bo _ hc).2,h1,cA.flat hp sr.gr.sub h2⟩
 |_=>exact hp.elim
def cP(C:Addr)(m:Str)(J8:List PV->M PV)(g:aa->M PV)(fs:aa->M (List PV)):aa->M PV:=λenv=>(g env).bind λp=>match p with
 | .obj C' fl=>bT (C'=C/\fl.lookup m=none) ((fs env).bind λps=>J8 (.obj C' fl::ps))
 |_=>none
def yV(he:PE X o (tE E g))(c:nV X.K C)(hm:Meth X.K C m f)(F:aV X.prog X.w X.K X.mg X.base (cf X.prog X.w) k f fd ps (gb n J8))(hr:bH k X.A)(hb:Binds X.K fd ps [])(O:dG X E)(hl:∀ps,J8 ps≠none->ps.length=n)
  (ht:autoParam (eval (.Call (.Attribute o m apos) [] [] pos) X.env=(do
   let ov <- eval o X.env
   standAt apos.atName
   let (f,first) <- holding [ov] (getMethod ov m pl)
   callWith pos f first (backTo pos (starEach [] X.env)) (backToKw pos (keywordEach [] X.env)))) aR._auto_1) :
  PE X (.Call (.Attribute o m apos) [] [] pos) (tE E (cP C m J8 g aj)):=by
 refine(wg he c hm F hr hb .nil O ht).imp fun σ H Q q=>bx (K:=gu Q) gu.g q λB H₀ Hs H1 env p v sr rp hp=>?_;cases rp with
 | @obj a C' dx fl fvs ho hx =>
  obtain⟨⟨e1,hn⟩,GG⟩:=ak.bT hp;subst e1;have r2:aB Hs [.obj C' fl] [V.ref a]:=.cons (Rep.obj ho hx) .nil;have MX:J8 [.obj C' fl]≠none:=λz=>by
   have Mj:ak (J8 [.obj C' fl]) (cA Hs H1 Q) (XW (E σ) Hs H1):=GG;rwa[z] at Mj
  exact⟨a,dx,fvs,rfl,sr.gr.sub _ _ ho,hx.none hn,by rw[show ([]:List V)++[]=[] from rfl];exact r2.length▸hl _ MX,Hs,_,sr.gr.sub,r2,GG⟩
 |_=>exact hp.elim
end
inductive Out where
 |nx (env:aa)|rt (p:PV)|bk (env:aa)|ct (env:aa)
def KS(D:Ends)(B H₀:Hp):Out->Prop
 | .nx env=>∀σ Hs H,SR B H₀ Hs H σ env->D.nx σ H
 | .rt p=>∀v Hs H,aP B H₀ Hs H->Rep Hs p v->D.rt v H
 | .bk env=>∀σ Hs H,SR B H₀ Hs H σ env->D.bk σ H
 |.ct env=>∀σ Hs H,SR B H₀ Hs H σ env->D.ct σ H
def tS(E:XK)(f:aa->M Out):TS:=λD σ H=>∃B H₀ Hs env,SR B H₀ Hs H σ env/\ak (f env) (KS D B H₀) (XW E B H₀)
def PS.imp{st:Stmt}{t t':TS}(h:PS X st t)(i:∀D σ H,t' D σ H->t D σ H):PS X st t':=λJX s σ H D I q=>h JX s σ H D I (i D σ H q)
def gP.imp{st:List Stmt}{t t':TS}(h:gP X st t)(i:∀D σ H,t' D σ H->t D σ H):gP X st t':=λJX s σ H D I q=>h JX s σ H D I (i D σ H q)
def ao:aa->M Out:=λenv=>M.ok (.nx env)
def zz(g:aa->M Out):Out->M Out
 | .nx env=>g env
 |o=>M.ok o
noncomputable def ar(f g:aa->M Out):aa->M Out:=λenv=>(f env).bind (zz g)
def fX{E:XK}{f:aa->M PV}{g:aa->PV->M Out}{D:Ends}{R:VK}(h:tS E (λenv=>(f env).bind (g env)) D σ H)(k:∀B H₀ Hs H1 env p v,SR B H₀ Hs H1 σ env->Rep Hs p v->ak (g env p) (KS D B H₀) (XW E B H₀)->R v H1):tE (λ_=>E) f σ H R:=by
 obtain⟨B,H₀,Hs,env,sr,h⟩:=h;refine⟨B,H₀,Hs,env,sr,(ak.bind h).imp (λp hp v J1 H' g r=>?_) λe he=>he.grow sr.gr⟩;exact k B H₀ J1 H' env p v (sr.grow g) r hp
def yK{E:XK}{f:aa->M Bool}{g:aa->Bool->M Out}{D:Ends}{R:Bool->Hp->Prop}(h:tS E (λenv=>(f env).bind (g env)) D σ H)(k:∀B H₀ Hs H1 env p,SR B H₀ Hs H1 σ env->ak (g env p) (KS D B H₀) (XW E B H₀)->R p H1):tT (λ_=>E) f σ H R:=by
 obtain⟨B,H₀,Hs,env,sr,h⟩:=h;refine⟨B,H₀,Hs,env,sr,(ak.bind h).imp (λp hp J1 H' g=>?_) λe he=>he.grow sr.gr⟩;exact k B H₀ J1 H' env p (sr.grow g) hp
def rC{E:XK}{f:aa->M (List PV)}{g:aa->List PV->M Out}{D:Ends}{R:List V->Hp->Prop}(h:tS E (λenv=>(f env).bind (g env)) D σ H)(k:∀B H₀ Hs H1 env p v,SR B H₀ Hs H1 σ env->aB Hs p v->ak (g env p) (KS D B H₀) (XW E B H₀)->R v H1):tL (λ_=>E) f σ H R:=by
 obtain⟨B,H₀,Hs,env,sr,h⟩:=h;refine⟨B,H₀,Hs,env,sr,(ak.bind h).imp (λp hp v J1 H' g r=>?_) λe he=>he.grow sr.gr⟩;exact k B H₀ J1 H' env p v (sr.grow g) r hp
theorem SR.set{B H₀ Hs H:Hp}{σ:St}{env:aa}{p:PV}{v:V}{i:Nat}(r:SR B H₀ Hs H σ env)(h:Rep Hs p v):SR B H₀ Hs H (σ.set i (some v)) (env.set i (some (.sh p))) :=
 r.chg r.gr (λ_ _ q=>q) (λ_ e=>by cases e;exact⟨v,rfl,h⟩) (λ_ _ _ _ _ _ _ _ h1 h2 _=>⟨h1,h2⟩) λ_ e o=>by cases e;cases o
def SR.own{B:Hp}{env:aa}{p:Addr}(r:SR B H₀ Hs H σ env)(h:aB Hs xs vs)(n:H p=none):SR B H₀ Hs (upd H p (.lst vs)) (σ.set i (some (.ref p))) (env.set i (some (.ow xs))) :=
 r.chg (r.gr.lh (r.free n).1 (r.free n).2) (λ_ _ q=>q) (λ_ e=>by cases e;exact⟨_,rfl,p,vs,rfl,av,(r.free n).1,(r.free n).2,h⟩) (λ_ _ a u _ _ _ _ h1 h2 _=>⟨by rwa[aq (λz=>by rw[z,n] at h1;cases h1)],h2⟩) λ_ _ _ k z _=>r.held n k z
def qA(i:Nat)(env:aa):aa:=match env[i]? with
 | some (some (.ow xs))=>env.set i (some (.sh (.lst xs)))
 |_=>env
def SR.Fd{B:Hp}{env:aa}(r:SR B H₀ Hs H σ env)(e:env[i]?=some (some (.ow xs))):∃a vs,Hs a=none/\H a=some (.lst vs)/\SR B H₀ (upd Hs a (.lst vs)) H σ (env.set i (some (.sh (.lst xs))))/\aW Hs (upd Hs a (.lst vs)):=by
 obtain⟨a,vs,h1,h2,h3,h4,h5⟩:=r.ow i xs e;obtain⟨g,st⟩:=r.gr.into h2 h3 h4;refine⟨a,vs,h3,h2,r.xl h1 g st (λ_ q=>by cases q;exact⟨_,rfl,.lst av (h5.mono st)⟩) (λj y b u n ej o z q1 q2 _=>⟨q1,by rwa[aq (λw=>by subst w;exact r.ap i j _ y b n e ej rfl o h1 z)]⟩) λ_ q o=>(by cases q;cases o),st⟩
def SR.k9{B:Hp}{env:aa}(i:Nat)(r:SR B H₀ Hs H σ env):∃J1,SR B H₀ J1 H σ (qA i env)/\aW Hs J1:=by
 unfold qA
 split
 .obtain⟨a,vs,_,_,h⟩:=r.Fd (by assumption);exact⟨_,h⟩
 .exact⟨Hs,r,λ_ _ q=>q⟩
def lY(is:List Nat)(f:aa->M Out):aa->M Out:=λenv=>f (is.foldl (λe i=>qA i e) env)
theorem SR.iH{B H₀ H:Hp}{σ:St}:∀{is:List Nat}{Hs:Hp}{env:aa},SR B H₀ Hs H σ env->∃J1,SR B H₀ J1 H σ (is.foldl (λe i=>qA i e) env)/\aW Hs J1
 | [],Hs,_,r=>⟨Hs,r,λ_ _ q=>q⟩
 | i::is,_,_,r=>by
  obtain⟨J4,r1,s1⟩:=r.k9 i;obtain⟨J5,r2,s2⟩:=SR.iH (is:=is) r1;exact⟨J5,r2,λc u q=>s2 c u (s1 c u q)⟩
section
variable{E:XK}{f:aa->M PV}{st:Stmt}{sts rest:List Stmt}{u:aa->M Bool}{g h:aa->M Out}
def Dg(is:List Nat)(hs:PS X st (tS E g)):PS X st (tS E (lY is g)):=hs.imp λD σ H q=>by
 obtain⟨B,H₀,Hs,env,sr,q⟩:=q;obtain⟨J1,r,_⟩:=sr.iH (is:=is);exact⟨B,H₀,J1,_,r,q⟩
def Bb:gP X [] (tS E ao):=gF.imp λD σ H q=>by
 obtain⟨B,H₀,Hs,env,sr,q⟩:=q;exact q σ Hs H sr
def zr(h1:PS X st (tS E g))(h2:gP X rest (tS E h)):gP X (st::rest) (tS E (ar g h)):=by
 refine(bP h1 h2).imp λD σ H q=>?_;obtain⟨B,H₀,Hs,env,sr,q⟩:=q;refine⟨B,H₀,Hs,env,sr,(ak.bind q).imp (λo ho=>?_) λe he=>he⟩;cases o with
 | nx J0=>exact fun σ' J1 H' KN=>⟨B,H₀,J1,J0,KN,ho⟩
 | rt p=>exact ho
 | bk J0=>exact ho
 |ct J0=>exact ho
def bO(i:Nat)(f:aa->M PV):aa->M Out:=λenv=>(f env).bind λp=>M.ok (.nx (env.set i (some (.sh p))))
def Ey(hN:X.N.Nodup)(hi:X.N[i]?=some x)(hx:Loc X.env.scope x)(he:PE X e (tE (λ_=>E) f))(hs:autoParam (swapsWith e (some (.Name x pos')) pos.line X.env=pure false) aR._auto_1)(hf:autoParam ↑1 aF._auto_1):PS X (.Assign [.Name x pos'] e pos) (tS E (bO i f)) :=
 (zI hN hi hx he hs hf).imp λD σ H q=>fX q λB H₀ Hs H1 env p v sr rp hp=>hp _ Hs H1 (sr.set rp)
def retS(f:aa->M PV):aa->M Out:=λenv=>(f env).bind λp=>M.ok (.rt p)
def D7(he:PE X e (tE (λ_=>E) f)):PS X (.Return (some e) pos) (tS E (retS f)) :=
 (Dp he).imp λD σ H q=>fX q λB H₀ Hs H1 env p v sr rp hp=>hp v Hs H1 sr.gr rp
def nu(f:aa->M PV):aa->M Out:=λenv=>(f env).bind λ_=>M.ok (.nx env)
def zY(he:PE X e (tE (λ_=>E) f))(hs:autoParam (swapsWith e none pos.line X.env=pure false) aR._auto_1):PS X (.Expr e pos) (tS E (nu f)) :=
 (jI he hs).imp λD σ H q=>fX q λB H₀ Hs H1 env p v sr rp hp=>hp σ Hs H1 sr
def fH(u:aa->M Bool)(g h:aa->M Out):aa->M Out:=λenv=>(u env).bind λb=>if b=true then g env else h env
def Fb{a b:List Stmt}(hc:PT X c (tT (λ_=>E) u))(ha:gP X a (tS E g))(hb:gP X b (tS E h)):PS X (.If c a b pos) (tS E (fH u g h)):=by
 refine(x_ hc ha hb).imp λD σ H q=>yK q λB H₀ Hs H1 env p sr hp=>?_;cases p with
 | true=>exact⟨B,H₀,Hs,env,sr,hp⟩
 |false=>exact⟨B,H₀,Hs,env,sr,hp⟩
end
def ov(Hs H₀:Hp):Hp:=λa=>match Hs a with
 | some o=>some o
 |none=>H₀ a
def pN(h:Hs a=some o):ov Hs H₀ a=some o:=by unfold ov;rw[h]
def jx(h:Hs a=none):ov Hs H₀ a=H₀ a:=by unfold ov;rw[h]
def Ag(s:aW Hs H)(t:aW H₀ H):aW (ov Hs H₀) H:=λa o e=>by
 cases q:Hs a with
 | some o'=>rw[pN q] at e;cases e;exact s _ _ q
 |none=>rw[jx q] at e;exact t _ _ e
def SR.rebase{B:Hp}{env:aa}(r:SR B H₀ Hs H σ env):SR Hs (ov Hs H₀) Hs H σ env :=
 r.mv ⟨λ_ _ e=>e,Ag r.gr.sub r.gr.al,r.gr.sub,λ_ _ e _ _=>e⟩ r.len (λ_ _ q=>q) λ_ _ e=>⟨e,rfl,λa u _ _ h1 h2 h3 _=>⟨h1,h2,by rwa[jx h2]⟩⟩
def aP.iP{B J5 H2:Hp}(g:aP B H₀ Hs H)(g2:aP Hs (ov Hs H₀) J5 H2):aP B H₀ J5 H2 where
 st:=λa o e=>g2.st a o (g.st a o e)
 al:=λa o e=>by
  cases q:Hs a with
  | some o' =>
   have h1:=g.sub a o' q;have h2:=g.al a o e;rw[h1] at h2;cases h2;exact g2.al a _ (pN q)
  | none=>exact g2.al a o (by rwa[jx q])
 sub:=g2.sub
 nw:=λa o e q t=>by
  have h1:=g.nw a o e q t;exact g2.nw a o h1 (by rwa[jx h1]) t
theorem SR.iP{B H₀ Hs H J5 H2:Hp}{σ:St}{env:aa}(g:aP B H₀ Hs H)(r:SR Hs (ov Hs H₀) J5 H2 σ env):SR B H₀ J5 H2 σ env :=
 r.mv (g.iP r.gr) r.len (λ_ _ q=>q) λ_ _ e=>⟨e,rfl,λa u _ _ h1 h2 h4 _=>⟨h1,h2,by
  cases q:Hs a with
  | some o=>rw[pN q] at h4;cases h4
  |none=>rwa[jx q] at h4⟩⟩
def XW.rebase{E:XK}{B:Hp}(g:aP B H₀ Hs H){x:EX}(h:XW E B H₀ x):XW E Hs (ov Hs H₀) x:=λea J5 H2 r q=>h ea J5 H2 (g.iP r) q
def yU(k:aa->M Out):Out->M Out
 | .nx env=>k env
 | .ct env=>k env
 | .bk env=>M.ok (.nx env)
 |.rt p=>M.ok (.rt p)
def gO(set:PV->aa->M aa)(body:aa->M Out):List PV->aa->M Out
 | [],env=>M.ok (.nx env)
 |x::xs,env=>(set x env).bind λJ0=>(body J0).bind (yU (gO set body xs))
def wM(E:XK)(g:TG)(set:PV->aa->M aa):Prop:=∀(B H₀ Hs H:Hp)(σ:St)(env:aa)(p:PV)(v:V)(Q:St->Hp->Prop)(Z:EX->Prop),SR B H₀ Hs H σ env->Rep Hs p v->ak (set p env) (λJ0=>∀σ',SR B H₀ Hs H σ' J0->Q σ' H) Z->g v σ H Q
def c_(i:Nat)(p:PV)(env:aa):M aa:=M.ok (env.set i (some (.sh p)))
def bK{E:XK}:wM E (bw i) (c_ i):=λB H₀ Hs H σ env p v Q Z sr r h=>h _ (sr.set r)
def gX(i j:Nat):PV->aa->M aa
 | .tup [p,q],env=>M.ok ((env.set i (some (.sh p))).set j (some (.sh q)))
 |_,_=>none
def jj{E:XK}{K:Nb}:wM E (t4 K 2 (fN (bw i) (fN (bw j) qQ))) (gX i j):=by
 intro B H₀ Hs H σ env p v Q Z sr r h;cases r with
 | @tup a xs vs ha hx =>
  match xs,hx with
  | [p,q],hx =>
   obtain⟨v,u,rfl,rp,rq⟩:=hx.two;exact⟨a,[v,u],rfl,fg.of (sr.gr.sub _ _ ha),rfl,v,[u],rfl,u,[],rfl,rfl,h _ ((sr.set rp).set rq)⟩
  | [],_=>exact h.elim
  | [_],_=>exact h.elim
  | _::_::_::_,_=>exact h.elim
 |_=>exact h.elim
section
variable{E:XK}{g:TG}{set:PV->aa->M aa}{body:aa->M Out}{D:Ends}{B:Hp}
def Jv(E:XK)(set:PV->aa->M aa)(body:aa->M Out)(D:Ends)(B H₀ J4:Hp)(xs:List PV)(i:Nat)(σ:St)(H:Hp):Prop:=∃Hs env,SR B H₀ Hs H σ env/\aW J4 Hs/\ak (gO set body (xs.drop i) env) (KS D B H₀) (XW E B H₀)
def Jv.done(j:Jv E set body D B H₀ J4 xs n σ H)(hn:xs.length<=n):D.nx σ H:=by
 obtain⟨Hs,env,sr,_,h⟩:=j;rw[Qd hn] at h;exact h σ Hs H sr
def Jv.turn{H1 Hx:Hp}{x:PV}(tg:wM E g set)(hx:xs[i]?=some x){env:aa}(sr:SR B H₀ Hs H σ env)(s1:aW J4 Hs)(h:ak (gO set body (xs.drop i) env) (KS D B H₀) (XW E B H₀)){J5 H2:Hp}(gr:aP Hs H J5 H2)(rv:Rep J5 x v):g v σ H2 fun σ2 H3=>tS E body { D with nx:=Jv E set body D B H₀ J4 xs (i+1),ct:=Jv E set body D B H₀ J4 xs (i+1),bk:=D.nx } σ2 H3:=by
 have KJ:i<xs.length:=(NY.mp hx).1;have hd:xs.drop i=x::xs.drop (i+1):=by
  rw[OD KJ];rw[Nd KJ] at hx;rw[Nx hx]
 rw[hd] at h;have Kd:=sr.grow gr;refine tg B H₀ J5 H2 σ env x v _ _ Kd rv ((ak.bind h).imp (λJ0 h' σ' KN=>?_) λ_ z=>z);refine⟨J5,ov J5 H₀,J5,J0,KN.rebase,(ak.bind h').imp (λo ho=>?_) λe he=>he.rebase KN.gr⟩;cases o with
 | nx e2=>exact fun σ3 KY H3 r=>⟨KY,e2,r.iP KN.gr,λa o z=>r.gr.st a o (gr.st a o (s1 a o z)),ho⟩
 | ct e2=>exact fun σ3 KY H3 r=>⟨KY,e2,r.iP KN.gr,λa o z=>r.gr.st a o (gr.st a o (s1 a o z)),ho⟩
 | bk e2=>exact fun σ3 KY H3 r=>ho σ3 KY H3 (r.iP KN.gr)
 |rt p=>exact λv3 KY H3 r q=>ho v3 KY H3 (KN.gr.iP r) q
end
def jH(it:aa->M (List PV))(set:PV->aa->M aa)(body:aa->M Out):aa->M Out:=λenv=>(it env).bind λxs=>gO set body xs env
def itemsOf(f:aa->M PV):aa->M (List PV):=λenv=>(f env).bind λp=>match aS p with|some xs=>M.ok xs|none=>none
def pe{K:Nb}(s:aW Hs H)(r:Rep Hs p v)(e:aS p=some xs):∃b a vs,v=.ref a/\(∀J1 H',aW Hs J1->aW J1 H'->rz K H' b a vs)/\aB Hs xs vs:=by
 cases r with
 | tup h r=>cases e;exact⟨false,_,_,rfl,λJ1 H' s1 s2=>fg.of (s2 _ _ (s1 _ _ h)),r⟩
 | lst h r=>cases e;exact⟨true,_,_,rfl,λJ1 H' s1 s2=>fj.of (s2 _ _ (s1 _ _ h)),r⟩
 | aY h r=>cases e;exact⟨true,_,_,rfl,λJ1 H' s1 s2=>.inl (.inr ⟨_,s2 _ _ (s1 _ _ h)⟩),r⟩
 |_=>cases e
section
variable{E:XK}{p:Pos}{f f2:aa->M PV}{g:TG}{set:PV->aa->M aa}{body:aa->M Out}{bd:List Stmt}
end
def HI:PV->M (List PV)
 | .int n=>bT (-(2^62)<=n/\n<2^62) (M.ok ((ND n.toNat).map λ(i:Nat)=>.int (0+(i:Int))))
 |_=>none
def iE:List PV->M (List PV)
 | [p]=>HI p
 |_=>none
variable{Z:EX->Prop}
def vv{ps:List PV}{k:List PV->M α}{Q:α->Prop}(h:ak ((iE ps).bind k) Q Z):∃n:Int,ps=[.int n]/\-(2^62)<=n/\n<2^62/\ak (k ((ND n.toNat).map λ(i:Nat)=>.int (0+(i:Int)))) Q Z:=by
 match ps with
 | []=>exact h.elim
 | _::_::_=>exact h.elim
 | [p] =>
  cases p with
  | int n =>
   obtain⟨hc,h⟩:=ak.bT (ak.bind h);exact⟨n,rfl,hc.1,hc.2,h⟩
  |_=>exact h.elim
def zip2:List PV->M (List PV)
 | [p,q]=>match aS p,aS q with
  | some xs,some ys=>M.ok (QV (λa b=>.tup [a,b]) xs ys)
  | _,_=>none
 |_=>none
def wq{ps:List PV}{k:List PV->M α}{Q:α->Prop}(h:ak ((zip2 ps).bind k) Q Z):∃p q xs ys,ps=[p,q]/\aS p=some xs/\aS q=some ys/\ak (k (QV (λa b=>.tup [a,b]) xs ys)) Q Z:=by
 match ps with
 | []=>exact h.elim
 | [_]=>exact h.elim
 | _::_::_::_=>exact h.elim
 | [p,q] =>
  unfold zip2 at h;dsimp only at h;cases e1:aS p with
  | none=>rw[e1] at h;exact h.elim
  | some xs =>
   cases e2:aS q with
   | none=>rw[e1,e2] at h;exact h.elim
   |some ys=>rw[e1,e2] at h;exact⟨p,q,xs,ys,rfl,e1,e2,h⟩
def vH{f:Nat->PV}(h:i<n):((ND n).map f)[i]?=some (f i):=by
 rw[NP,List.getElem?_range h];rfl
section
variable{E:XK}{a b l l1 l2:Expr}{p tp:Pos}{fs:aa->M (List PV)}{g:TG}{set:PV->aa->M aa}{body:aa->M Out}{bd:List Stmt}
end
def KO(Q:VK):Hp->Hp->List PV->Prop:=λHs H ps=>∀vs p J1 H',aP Hs H J1 H'->aB J1 ps vs->H' p=none->Q (.ref p) (upd H' p (.lst vs))
def tO(E:St->XK)(f:aa->M (List PV)):TE:=fun σ H Q=>tG E f (KO Q) σ H
variable{px:Pos}
section
variable{E:XK}{fs:aa->M (List PV)}{f:aa->M PV}
def p_(i:Nat)(f:aa->M (List PV)):aa->M Out:=λenv=>(f env).bind λps=>M.ok (.nx (env.set i (some (.ow ps))))
def AX(hN:X.N.Nodup)(hi:X.N[i]?=some x)(hx:Loc X.env.scope x)(he:PE X e (tO (λ_=>E) fs))(hs:autoParam (swapsWith e (some (.Name x pos')) pos.line X.env=pure false) aR._auto_1)(hf:autoParam ↑1 aF._auto_1):PS X (.Assign [.Name x pos'] e pos) (tS E (p_ i fs)):=by
 refine(zI hN hi hx he hs hf).imp λD σ H q=>?_;obtain⟨B,H₀,Hs,env,sr,q⟩:=q;refine⟨B,H₀,Hs,env,sr,(ak.bind q).imp (λps hp vs p J1 H' g r n=>?_) λe he=>he.grow sr.gr⟩;exact hp _ J1 _ ((sr.grow g).own r n)
def m9(fs:aa->M (List PV)):aa->M (List PV):=λenv=>(fs env).bind λps=>if ps.length<=sizeLine then M.ok ps else none
def DM{E:St->XK}(hr:PA X es (tL E fs)):PE X (.List es pos) (tO E (m9 fs)):=by
 refine(yd hr).imp fun σ H Q q=>?_;obtain⟨B,H₀,Hs,env,sr,q⟩:=q;refine⟨B,H₀,Hs,env,sr,(ak.bind q).imp (λps hp vs J1 H' g r=>?_) λe he=>he⟩
 by_cases hz:ps.length<=sizeLine
 .rw[if_pos hz] at hp;exact⟨by rwa[<- r.length],λp n=>hp vs p J1 H' g r n⟩
 .rw[if_neg hz] at hp;exact hp.elim
def qk(i:Nat)(f:aa->M PV):aa->M Out:=λenv=>match env[i]? with
 | some (some (.ow xs))=>(f env).bind λp=>if xs.length<sizeLine then M.ok (.nx (env.set i (some (.ow (xs++[p]))))) else none
 |_=>none
def SR.put{B:Hp}{env:aa}{ys:List PV}{us:List V}(r:SR B H₀ Hs H σ env)(e:env[i]?=some (some (.ow xs)))(hi:σ[i]?=some (some (.ref a)))(h:aB Hs ys us):SR B H₀ Hs (upd H a (.lst us)) σ (env.set i (some (.ow ys))):=by
 obtain⟨a',vs,h1,h2,h3,h4,h5⟩:=r.ow i xs e;rw[hi] at h1;cases h1;exact r.xl hi (r.gr.lh h3 h4) (λ_ _ q=>q) (λ_ q=>by cases q;exact⟨_,rfl,a,us,rfl,av,h3,h4,h⟩) (λj y b u n ej o z q1 q2 _=>⟨by rwa[aq (λw=>by subst w;exact r.ap i j _ y b n e ej rfl o hi z)],q2⟩) λ_ _ _ k z n ek o=>r.ap i k _ z a n e ek rfl o hi
def vK(hi:X.N[i]?=some x)(hv:vI X.env.scope x)(he:PE X e (tE (λ_=>E) f))(hd:autoParam ↑7 aD._auto_1)(Ko:autoParam ↑6 aD._auto_1)(Ll:autoParam (attributeBase (.Name x px) "append" X.env (eval (.Name x px) X.env)=eval (.Name x px) X.env) aR._auto_1)(Mm:autoParam (((backTo J7 (starEach [e] X.env)).all (λx=>!x.1)&&(backToKw J7 (keywordEach [] X.env)).all (λx=>x.1.isSome) && decide (([e]:List Expr).length+([]:List Keyword).length+(if ([]:List Keyword).isEmpty then 0 else 1)<30))=true) aR._auto_1)(Lm:autoParam ((apos.endLine==J7.line)=true) aR._auto_1)(KA:autoParam (starEach [e] X.env=(false,eval e X.env)::starEach [] X.env) aR._auto_1)(Lx:autoParam ((backTo J7 (starEach [] X.env)).any (·.1)=false) aR._auto_1)(hs:autoParam (swapsWith (.Call (.Attribute (.Name x px) "append" apos) [e] [] J7) none pos.line X.env=pure false) aR._auto_1):PS X (.Expr (.Call (.Attribute (.Name x px) "append" apos) [e] [] J7) pos) (tS E (qk i f)):=by
 refine(jI (Fc Rr PySem.F.slot_list_append PySem.F.type_list_append oV (fq hi hv hd Ko) (aT he cZ KA) Ll Mm Lm KA Lx) hs).imp λD σ H q=>?_;obtain⟨B,H₀,Hs,env,sr,q⟩:=q;unfold qk at q
 split at q
 .rename_i xs ex;obtain⟨a,vs,h1,h2,h3,h4,h5⟩:=sr.ow i xs ex;refine⟨.ref a,h1,.inl ⟨rfl,vs,fj.of h2⟩,B,H₀,Hs,env,sr,(ak.bind q).imp (λp hp v J1 H' g r=>?_) λe he=>he.grow sr.gr⟩
  by_cases hz:xs.length<sizeLine
  .rw[if_pos hz] at hp;have KN:=sr.grow g;have r5:aB J1 (xs++[p]) (vs++[v]):=(h5.mono g.st).snoc r;exact⟨a,vs,v,rfl,rfl,g.al _ _ h2,by rwa[<- h5.length],hp σ J1 _ (KN.put ex h1 r5)⟩
  .rw[if_neg hz] at hp;exact hp.elim
 .exact q.elim
end
def v5:Out->M PV
 | .rt p=>M.ok p
 | .nx _=>M.ok .aJ
 |_=>none
def eM(m:Nat)(ps:List PV):aa:=ps.map (λp=>some (.sh p))++Ni (m-ps.length) none
def bb(m:Nat)(g:aa->M Out)(ps:List PV):M PV:=(g (eM m ps)).bind v5
theorem SR.start{Hs H:Hp}{N:List Str}{ps:List PV}{vs:List V}(s:aW Hs H)(r:aB Hs ps vs):SR Hs H Hs H (start N vs) (eM N.length ps):=by
 have key:∀(i:Nat)(x:SV),(eM N.length ps)[i]?=some (some x)->∃p v,x=.sh p/\(L2.start N vs)[i]?=some (some v)/\Rep Hs p v:=λi x e=>by
  unfold eM at e;unfold L2.start
  by_cases hi:i<ps.length
  .rw[OC (by simpa using hi),NP,Nd hi] at e;cases e;obtain⟨v,h1,h2⟩:=r.get (Nd hi);exact⟨_,v,rfl,by rw[OC (by simpa using (r.length▸hi)),NP,h1];rfl,h2⟩
  .rw[N8 (by simpa using hi),PN] at e
   split at e<;>cases e
 exact⟨.refl s,by unfold L2.start eM;simp[r.length],λi x e=>by obtain⟨p,v,rfl,h⟩:=key i x e;exact⟨v,h⟩,λi j x y a _ e _ o=>by obtain⟨p,v,rfl,h⟩:=key i x e;cases o⟩
def Du{K:Nb}{dV kV doc pm J6 ct oc:Value}{g:aa->M Out}(lk:K.lookup f=some ⟨oc,od,.func (N6 name qual params body scope dV kV doc pm an J6 ct),LM⟩)(Ko:OG K J6 qual=true)(S:bD N ps scope)(hb:∀(A:Around)(outer:List Env)(s:Shared)(H:Hp)(E:XK),bH k (A.deeper (envOfC qual scope s.heap.objs.size f J6))->gP ((gS (cf P w) P w K mg base N qual scope f J6 A outer s H E).out λ_=>E) body (tS E g)):aV P w K mg base (cf P w) (k+1) f (N6 name qual params body scope dV kV doc pm an J6 ct) ps (gb ps.length (bb N.length g)):=by
 refine mF lk Ko S (λvs H Q E h=>h.1) λA outer s H vs Q E hr hs=>⟨_,hb A outer s H E hr,?_⟩
 obtain⟨_,Hs,K_,sm,r,h⟩:=hs;refine⟨Hs,H,Hs,_,SR.start sm r,(ak.bind h).imp (λo ho=>?_) λe he=>he⟩;cases o with
 | rt p=>exact λv J1 H' gr rv=>ho v J1 H' gr rv
 | nx env=>exact fun σ J1 H' sr=>ho .aJ J1 H' sr.gr .aJ
 | bk env=>exact ho.elim
 |ct env=>exact ho.elim
section
variable{E:XK}{p:Pos}{fs:aa->M (List PV)}
def ja(C:Addr)(fs:aa->M (List PV)):aa->M Out:=λenv=>(fs env).bind λps=>bT (ps.length<=sizeLine) (some (.error (C,none)))
def wC(O:dG X λ_=>E)(J3:X.calm=true)(hc:Qs X.K C eg "ValueError.__new__"=true)(c:cS X.K C)(ht:Pf X.K (.ref C)=some (.type "type"))(kp:NS X.K (.ref C)=true)(hg:Gl X x)(hm:X.mg x=some (.ref C))(ha:PA X (e::es) (tL (λ_=>E) fs))(Kt:autoParam ↑7 aD._auto_1)(he:autoParam ↑0 aR._auto_1)(Kb:autoParam ((backTo J7 (starEach es X.env)).any (·.1)=false) aR._auto_1):PS X (.Raise (some (.Call (.Name x p) (e::es) [] J7)) none pos) (tS E (ja C fs)):=by
 refine(rA O J3 (AA hc kp hg hm ha Kt he Kb)).imp λD σ H q=>rC q λB H₀ Hs H1 env K_ v sr rp hp=>?_;obtain⟨hz,hp⟩:=ak.bT hp;refine⟨by rwa[<- rp.length],λa n=>⟨a,C,none,rfl,av,c,ht,?_⟩⟩;rw[u_];exact hp a (upd Hs a (fz C none a)) _ (sr.gr.trans (aP.new sr.gr.sub n)) (.pM av)
def wx(K:Nb)(C:Addr)(fl:Str):Sp:=λvs H Q _=>∃a y,vs=[.ref a,y]/\H a=some (iF C none a)/\∀d,H d=none->d≠a->Q .aJ (upd (upd H d (.xd [(fl,y)])) a (iF C (some d) a))
def dg(C:Addr)(fl:Str)(fs:aa->M (List PV)):aa->M Out:=λenv=>(fs env).bind λps=>match ps with
 | [p]=>some (.error (C,some [(fl,p)]))
 |_=>none
def vp{fl:Str}(O:dG X λ_=>E)(J3:X.calm=true)(hc:mC X.K C "ValueError.__new__" f=true)(hf:Pk X.K (.ref f)=true)(c:cS X.K C)(ht:Pf X.K (.ref C)=some (.type "type"))(kp:NS X.K (.ref C)=true)(F:aV X.prog X.w X.K X.mg X.base (cf X.prog X.w) k f fd ps (wx X.K C fl))(hr:bH (k+1) X.A)(hb:Binds X.K fd ps [])(hg:Gl X x)(hm:X.mg x=some (.ref C))(ha:PA X [e] (tL (λ_=>E) fs))(Kt:autoParam ↑7 aD._auto_1)(he:autoParam (starEach [e] X.env=(false,eval e X.env)::starEach [] X.env) aR._auto_1)(Kb:autoParam ((backTo J7 (starEach [] X.env)).any (·.1)=false) aR._auto_1):PS X (.Raise (some (.Call (.Name x p) [e] [] J7)) none pos) (tS E (dg C fl fs)):=by
 refine(rA O J3 (wW hc hf kp F hr hb hg hm ha Kt he Kb)).imp λD σ H q=>rC q λB H₀ Hs H1 env K_ v sr rp hp=>?_
 match K_,rp,hp with
 | [],_,hp=>exact hp.elim
 | _::_::_,_,hp=>exact hp.elim
 | [y],rp,hp =>
  obtain⟨v,rfl,ry⟩:=rp.one;refine⟨by show 1<=sizeLine;decide,λa n=>⟨a,v,rfl,av,λd hd hda=>⟨rfl,a,C,some d,rfl,av,c,ht,?_⟩⟩⟩;rw[u_];have hd1:H1 d=none:=by rwa[aq hda] at hd
  have g1:=aP.new (o:=.xd [(fl,v)]) sr.gr.sub hd1;have Mf:upd H1 d (.xd [(fl,v)]) a=none:=by rwa[aq (OL hda)]
  have g2:=aP.new (o:=fz C (some d) a) g1.sub Mf;have hH:upd (upd (upd H1 a (iF C none a)) d (.xd [(fl,v)])) a (fz C (some d) a)=upd (upd H1 d (.xd [(fl,v)])) a (fz C (some d) a):=by
   funext b
   by_cases z:b=a
   .subst z;rw[av,av]
   .rw[aq z,aq z]
    by_cases z2:b=d
    .subst z2;rw[av,av]
    .rw[aq z2,aq z2,aq z]
  rw[hH];refine hp a (upd (upd Hs d (.xd [(fl,v)])) a (fz C (some d) a)) _ ((sr.gr.trans g1).trans g2) ?_;exact .nF av (by rw[aq hda];exact av) (.cons ((ry.mono g1.st).mono g2.st) .nil)
def ni{K:Nb}{dV kV doc pm J6 ct oc:Value}{n0 n1 fl:Str}{p0 p1 p2 p3:Pos}(lk:K.lookup f=some ⟨oc,od,.func (N6 name qual params [.Assign [.Attribute (.Name n0 p0) fl p1] (.Name n1 p2) p3] scope dV kV doc pm an J6 ct),LM⟩)(Ko:OG K J6 qual=true)(S:bD [n0,n1] [n0,n1] scope)(c:cS K C)(ho:((O4 K C).any λcd=>ff cd.mro)=true)(na:bM K C fl)(v0:vI scope n0)(v1:vI scope n1)(d0:(n0==("__debug__" : Str))=false)(d1:(n1==("__debug__" : Str))=false)(c0:(n0==("__classdict__" : Str))=false)(c1:(n1==("__classdict__" : Str))=false)(hs:∀env,swapsWith (.Name n1 p2) (some (.Attribute (.Name n0 p0) fl p1)) p3.line env=pure false):aV P w K mg base (cf P w) 1 f (N6 name qual params [.Assign [.Attribute (.Name n0 p0) fl p1] (.Name n1 p2) p3] scope dV kV doc pm an J6 ct) [n0,n1] (wx K C fl):=by
 refine mF (k:=0) lk Ko S (λvs H Q E h=>by obtain⟨a,y,rfl,_⟩:=h;rfl) λA outer s H vs Q E hr h=>?_;obtain⟨a,y,rfl,ha,hq⟩:=h;refine⟨_,qF (w6 (fq (i:=0) rfl v0 d0 c0) (fq (i:=1) rfl v1 d1 c1) (hs _)),?_⟩;exact⟨y,rfl,.ref a,rfl,a,C,rfl,ha,c,ho,na,hq⟩
end
structure kM (J:It) (J4:Hp) (xs:List PV):Prop where
 stop:∀(i:Nat)(Hs H:Hp),aW J4 Hs->aW Hs H->xs.length<=i->J.stop i H
 go:∀(i:Nat)(Hs H:Hp),aW J4 Hs->aW Hs H->i<xs.length->J.go i H
 t5:∀(i:Nat)(Hs H:Hp)(x:V)(H2:Hp),aW J4 Hs->aW Hs H->i<xs.length->J.t5 i H x H2->∃p J5,xs[i]?=some p/\aP Hs H J5 H2/\Rep J5 p x
def KI(R:It->Hp->Prop):Hp->Hp->List PV->Prop:=λHs H xs=>∀J J1 H',aP Hs H J1 H'->kM J J1 xs->R J H'
def yH(E:St->XK)(wi:TI)(it:aa->M (List PV)):Prop:=∀(σ:St)(H:Hp)(R:It->Hp->Prop),tG E it (KI R) σ H->wi σ H R
theorem KI.g{R:It->Hp->Prop}:KG (KI R):=λHs H J1 H' b k g J J5 H2 g2 o=>k J J5 H2 (g.trans g2) o
section
variable{K:Nb}{f:aa->M PV}{fs:aa->M (List PV)}
def yL(hq:∀J1 H',aW J4 J1->aW J1 H'->rz K H' b a vs)(hr:aB J4 xs vs):kM (HL K b a) J4 xs where
 stop:=λi Hs H s1 s2 hi=>by
  have q:=hq Hs H s1 s2;cases b with
  | true=>exact⟨vs,q,by rwa[<- hr.length]⟩
  | false=>exact⟨vs,q,by rwa[<- hr.length]⟩
 go:=λi Hs H s1 s2 hi=>by
  have q:=hq Hs H s1 s2;obtain⟨v,e,_⟩:=hr.get (Nd hi);cases b with
  | true=>exact⟨vs,v,q,e⟩
  | false=>exact⟨vs,v,q,e⟩
 t5:=λi Hs H x H2 s1 s2 hi y=>by
  have q:=hq Hs H s1 s2;obtain⟨v,e,r⟩:=hr.get (Nd hi);have z:H2=H/\vs[i]?=some x:=by
   cases b with
   | true=>exact⟨y.1,y.2 vs q⟩
   | false=>exact⟨y.1,y.2 vs q⟩
  obtain⟨rfl,z⟩:=z;rw[e] at z;cases z;exact⟨xs[i],Hs,Nd hi,.refl s2,r.mono s1⟩
def fK:yH E (Gf K (tE E f)) (itemsOf f):=by
 intro σ H R q;refine bx (K:=KI R) KI.g q λB H₀ Hs H1 env p v sr rp hp=>?_;cases e:aS p with
 | none=>rw[e] at hp;exact hp.elim
 | some xs =>
  rw[e] at hp;obtain⟨b,a,vs,rfl,hq,hr⟩:=pe (K:=K) sr.gr.sub rp e;exact⟨b,a,rfl,⟨vs,hq Hs H1 (λ_ _ z=>z) sr.gr.sub⟩,hp (HL K b a) Hs H1 (.refl sr.gr.sub) (yL hq hr)⟩
def oN(o:List PV->M (List PV))(fs:aa->M (List PV)):aa->M (List PV):=λenv=>(fs env).bind o
def yq{lo:Int}:kM (Gx lo n) J4 ((ND n).map λ(i:Nat)=>PV.int (lo+(i:Int))) where
 stop:=λi Hs H s1 s2 hi=>show n<=i by simpa using hi
 go:=λi Hs H s1 s2 hi=>show i<n by simpa using hi
 t5:=λi Hs H x H2 s1 s2 hi y=>by
  obtain⟨rfl,rfl⟩:=y;exact⟨_,Hs,vH (by simpa using hi),.refl s2,.int _⟩
def aL(x:M α):x.bind M.ok=x:=by
 cases x with
 | none=>rfl
 |some x=>cases x<;>rfl
def cQ:yH E (BP (tL E fs)) (oN iE fs):=by
 intro σ H R q;refine eO (K:=KI R) KI.g q λB H₀ Hs H1 env ps v sr rp hp=>?_;rw[<- aL (iE ps)] at hp;obtain⟨n,rfl,h1,h2,hp⟩:=vv hp;obtain⟨w,rfl,Lz⟩:=rp.one;cases Lz;exact⟨n,rfl,h1,h2,hp _ Hs H1 (.refl sr.gr.sub) yq⟩
def x8{ys:List PV}(h1:i<xs.length)(h2:i<ys.length):(QV (λa b=>PV.tup [a,b]) xs ys)[i]?=some (.tup [xs[i],ys[i]]):=by
 rw[List.getElem?_zipWith,Nd h1,Nd h2]
theorem yu{b1 b2:Bool}{a1 a2:Addr}{ys:List PV}{us:List V}(K5:∀J1 H',aW J4 J1->aW J1 H'->rz K H' b1 a1 vs)(MZ:aB J4 xs vs)(K6:∀J1 H',aW J4 J1->aW J1 H'->rz K H' b2 a2 us)(M0:aB J4 ys us):kM (HX K b1 b2 a1 a2) J4 (QV (λa b=>PV.tup [a,b]) xs ys) where
 stop:=λi Hs H s1 s2 hi=>by
  rw[QN,MZ.length,M0.length] at hi;exact⟨vs,us,K5 Hs H s1 s2,K6 Hs H s1 s2,by lia⟩
 go:=λi Hs H s1 s2 hi=>by
  rw[QN] at hi;obtain⟨v,e,_⟩:=MZ.get (Nd (show i<xs.length by lia));obtain⟨u,e',_⟩:=M0.get (Nd (show i<ys.length by lia));exact⟨vs,us,v,u,K5 Hs H s1 s2,K6 Hs H s1 s2,e,e'⟩
 t5:=λi Hs H x H2 s1 s2 hi y=>by
  rw[QN] at hi;have l1:i<xs.length:=by lia
  have l2:i<ys.length:=by lia
  obtain⟨v,e,r⟩:=MZ.get (Nd l1);obtain⟨u,e',r'⟩:=M0.get (Nd l2);obtain⟨pa,v',u',hn,rfl,rfl,y1,y2⟩:=y;have z1:=y1 vs (K5 Hs H s1 s2);have z2:=y2 us (K6 Hs H s1 s2);rw[e] at z1;cases z1;rw[e'] at z2;cases z2;have gr:=aP.new (o:=.tup [v,u]) s2 hn;exact⟨_,_,x8 l1 l2,gr,.tup av (.cons ((r.mono s1).mono gr.st) (.cons ((r'.mono s1).mono gr.st) .nil))⟩
def pB:yH E (Fu K (tL E fs)) (oN zip2 fs):=by
 intro σ H R q;refine eO (K:=KI R) KI.g q λB H₀ Hs H1 env ps v sr rp hp=>?_;rw[<- aL (zip2 ps)] at hp;obtain⟨p,q,xs,ys,rfl,e1,e2,hp⟩:=wq hp;obtain⟨w,u,rfl,Lz,ru⟩:=rp.two;obtain⟨b1,a1,vs,rfl,K5,MZ⟩:=pe (K:=K) sr.gr.sub Lz e1;obtain⟨b2,a2,us,rfl,K6,M0⟩:=pe (K:=K) sr.gr.sub ru e2;exact⟨b1,b2,a1,a2,rfl,⟨vs,K5 Hs H1 (λ_ _ z=>z) sr.gr.sub⟩,⟨us,K6 Hs H1 (λ_ _ z=>z) sr.gr.sub⟩,hp _ Hs H1 (.refl sr.gr.sub) (yu K5 MZ K6 M0)⟩
end
theorem cV{E:XK}{g:TG}{set:PV->aa->M aa}{body:aa->M Out}{bd:List Stmt}{wi:TI}{it:aa->M (List PV)}(O:dG X λ_=>E)(hc:X.calm=true)(hi:PI X tg iter wi)(hv:yH (λ_=>E) wi it)(hg:PG X tg g)(LC:wM E g set)(hb:gP X bd (tS E body))(hs:autoParam ↑5 aI._auto_1):PS X (.For tg iter bd [] pos) (tS E (jH it set body)):=by
 refine(zN O.own hc hi hg hb hs).imp λD σ H q=>hv σ H _ ?_;obtain⟨B,H₀,Hs,env,sr,q⟩:=q;refine⟨B,H₀,Hs,env,sr,(ak.bind q).imp (λxs hp J J1 H' gr ok=>?_) λe he=>he.grow sr.gr⟩;have KN:=sr.grow gr;refine⟨λi m σ H=>m=xs.length-i/\i<=xs.length/\Jv E set body D B H₀ J1 xs i σ H,⟨xs.length,by simp,NT _,J1,env,KN,λ_ _ z=>z,hp⟩,?_⟩;rintro i m σ' H2 ⟨rfl,hi,J5,env2,Kd,s2,h2⟩
 by_cases KJ:i<xs.length
 .refine .inr ⟨ok.go i J5 H2 s2 Kd.gr.sub KJ,Jv E set body D B H₀ J1 xs (i+1),fun σ3 H3 j=>⟨xs.length-(i+1),by lia,rfl,KJ,j⟩,λx H3 y=>?_⟩;obtain⟨p,KY,ep,g3,r3⟩:=ok.t5 i J5 H2 x H3 s2 Kd.gr.sub KJ y;exact Jv.turn (Hx:=H2) (H1:=H2) LC ep Kd s2 h2 g3 r3
 .have e:i=xs.length:=by lia
  refine .inl ⟨ok.stop i J5 H2 s2 Kd.gr.sub ⋯,?_⟩;exact Jv.done (E:=E) (set:=set) (body:=body) (xs:=xs) (B:=B) (H₀:=H₀) (J4:=J1) (n:=i) ⟨J5,env2,Kd,s2,h2⟩ ⋯
abbrev EF:St->XK:=λ_ _ _ _=>False
def nR(env:aa):Prop:=∀(i:Nat)(x:SV),env[i]?=some (some x)->∃p,x=.sh p
def nR.no{env:aa}(n:nR env){x:SV}(e:env[i]?=some (some x))(o:eR x=true):False:=by obtain⟨p,rfl⟩:=n i _ e;cases o
def wL:M α->M α
 | some (.ok a)=>some (.ok a)
 |_=>none
theorem ak.wL{α:Type}{x:M α}{Q:α->Prop}{E:EX->Prop}(h:ak (L2.wL x) Q E):ak x Q (λ_=>False):=by
 cases x with
 | none=>exact h
 | some x=>cases x with
  | ok a=>exact h
  |error e=>exact h
def iX(n:Nat)(js:List Nat)(env:aa):aa:=Ni n none++js.map λj=>match env[j]? with
 | some (some (.sh p))=>some (.sh p)
 |_=>none
theorem oS{env:aa}{x:SV}(h:(iX n js env)[i]?=some (some x)):∃j p,n<=i/\js[i-n]?=some j/\env[j]?=some (some (.sh p))/\x=.sh p:=by
 unfold iX at h
 by_cases hi:i<n
 .rw[OC (by simpa using hi),PN] at h
  split at h<;>cases h
 .rw[N8 (by simpa using hi),NP,Qj] at h;cases hj:js[i-n]? with
  | none=>rw[hj] at h;cases h
  | some j =>
   rw[hj] at h;have h':(match env[j]? with|some (some (.sh p))=>some (SV.sh p)|_=>none)=some x:=Nx h
   split at h'
   .rename_i p e;cases h';exact⟨j,p,by lia,rfl,e,rfl⟩
   .cases h'
def je{env:aa}:nR (iX n js env):=λi xs e=>by
 obtain⟨_,p,_,_,_,z⟩:=oS e;exact⟨p,z⟩
variable{D:Addr}
def SR.block{B:Hp}{env:aa}(r:SR B H₀ Hs H σ env)(hD:H D=none):SR Hs H Hs (upd H D (.lst [])) (eD ts js σ) (iX ts.length js env) where
 gr:=(aP.refl r.gr.sub).lh (r.free hD).1 hD
 len:=by unfold eD iX;simp
 at_:=λi x e=>by
  obtain⟨j,q,hn,hj,he,rfl⟩:=oS e;obtain⟨v,h1,h2⟩:=r.sh j q he;refine⟨v,?_,h2⟩;unfold eD;rw[N8 (by simpa using hn),NP,Nm,hj];show some (σ[j]?).join=_;rw[h1];rfl
 ap:=λi j x y a _ e _ o=>(je.no e o).elim
def SR.Ez{B:Hp}{env:aa}(r:SR B H₀ Hs H σ env)(n:nR env)(h1:Hs D=none)(h2:H₀ D=none):SR B H₀ Hs (upd H D o) σ env :=
 r.mv (r.gr.lh h1 h2) r.len (λ_ _ q=>q) λ_ _ e=>⟨e,rfl,λ_ _ o=>(n.no e o).elim⟩
def cT(set:PV->aa->M aa)(t:Option (aa->M Bool))(f:aa->M PV):List PV->aa->M (List PV)
 | [],_=>M.ok []
 | x::xs,env=>(set x env).bind λe=>match t with
  | none=>(f e).bind λy=>(cT set t f xs e).bind λys=>M.ok (y::ys)
  |some t'=>(t' e).bind λb=>if b=true then (f e).bind λy=>(cT set t f xs e).bind λys=>M.ok (y::ys) else cT set t f xs e
def dq(it:aa->M (List PV))(set:PV->aa->M aa)(t:Option (aa->M Bool))(f:aa->M PV)(n:Nat)(js:List Nat):aa->M (List PV):=λenv=>(it env).bind λxs=>bT (xs.length<=sizeLine) (wL (cT set t f xs (iX n js env)))
def lg(set:PV->aa->M aa):Prop:=∀p env e,set p env=some (.ok e)->nR env->nR e
def o_{env:aa}(n:nR env):nR (env.set i (some (.sh p))):=λj xs e=>by
 rw[Oe] at e
 by_cases z:i=j
 .rw[if_pos z] at e
  split at e
  .cases e;exact⟨p,rfl⟩
  .cases e
 .rw[if_neg z] at e;exact n j xs e
def ck:lg (c_ i):=λp env e h n=>by
 cases h;exact o_ n
def mO:lg (gX i j):=λp env e h n=>by
 unfold gX at h
 split at h
 .cases h;exact o_ (o_ n)
 .cases h
section
variable{set:PV->aa->M aa}{t:Option (aa->M Bool)}{f:aa->M PV}{Q:VK}{H1:Hp}
def Jc(set:PV->aa->M aa)(t:Option (aa->M Bool))(f:aa->M PV)(Q:VK)(J4 H1:Hp)(D:Addr)(xs:List PV)(i:Nat)(σ:St)(H:Hp):Prop:=∃Hs env ys vs,SR J4 H1 Hs H σ env/\nR env/\H D=some (.lst vs)/\Hs D=none/\aB Hs ys vs/\ys.length<=i ∧
 ak (cT set t f (xs.drop i) env) (λzs=>KO Q J4 H1 (ys++zs)) (λ_=>False)
def rem(H:Hp)(D:Addr):Hp:=λa=>if a=D then none else H a
def ij:rem H D D=none:=by unfold rem;rw[if_pos rfl]
def kh(n:a≠D):rem H D a=H a:=by unfold rem;rw[if_neg n]
def Be(h:H D=some o):upd (rem H D) D o=H:=by
 funext a
 by_cases z:a=D
 .subst z;rw[av,h]
 .rw[aq z,kh z]
def Jc.done(hD:H1 D=none)(j:Jc set t f Q J4 H1 D xs i σ H)(hi:xs.length<=i):Q (.ref D) H:=by
 obtain⟨Hs,env,ys,vs,sr,n,h1,h2,r,_,h⟩:=j;rw[Qd hi] at h;have h':KO Q J4 H1 (ys++[]):=h;rw[NX] at h';have gr:aP J4 H1 Hs (rem H D):=by
  refine⟨sr.gr.st,λc u q=>?_,λc u q=>?_,sr.gr.nw⟩
  .rw[kh (λz=>by rw[z,hD] at q;cases q)];exact sr.gr.al c u q
  .rw[kh (λz=>by rw[z,h2] at q;cases q)];exact sr.gr.sub c u q
 have:=h' vs D Hs (rem H D) gr r ij;rwa[Be h1] at this
theorem Jc.put{env:aa}{ys:List PV}{y:PV}(hD:H1 D=none)(sr:SR J4 H1 Hs H σ env)(n:nR env)(h1:H D=some (.lst vs))(h2:Hs D=none)(r:aB Hs ys vs)(hy:ys.length<=i)(hi:i<sizeLine)(rv:Rep Hs y v)(h:ak ((cT set t f (xs.drop (i+1)) env).bind λzs=>M.ok (y::zs)) (λzs=>KO Q J4 H1 (ys++zs)) (λ_=>False)):∃us,H D=some (.lst us)/\us.length<sizeLine/\Jc set t f Q J4 H1 D xs (i+1) σ (upd H D (.lst (us++[v]))):=by
 refine⟨vs,h1,by rw[<- r.length];lia,Hs,env,ys++[y],vs++[v],sr.Ez n h2 hD,n,av,h2,r.snoc rv,by rw[NG];show ys.length+1<=i+1;lia,(ak.bind h).imp (λzs hz=>?_) λ_ z=>z⟩;have M3:KO Q J4 H1 (ys++(y::zs)):=hz;rwa[Ra]
end
section
variable{cl:List (Str×Addr)}{wi:TI}{it:aa->M (List PV)}{g:TG}{set:PV->aa->M aa}{f:aa->M PV}{u:aa->M Bool}{fs:List Str}
def va{s₀:Shared}{ex:List Addr}:dG (lQ X scope cl N C s₀ H₀ ex JX) EF where
 pass:=λ_ _ _ _ _ _ _ h=>by
  obtain⟨_,_,_,_,_,_,_,_,_,_,_,_,_,z⟩:=h;exact z.elim
 new:=λ_ _ _ _ _ _ _ _ _ z=>z.elim
 own:=PassesOwn.never
theorem mj{Q:VK}(hv:yH E wi it)(LC:∀E,wM E g set)(so:lg set)(q:tO E (dq it set none f ts.length js) σ H Q):uq wi g (tE EF f) ts js σ H Q:=by
 refine hv σ H _ ?_;obtain⟨B,H₀,Hs,env,sr,q⟩:=q;refine⟨B,H₀,Hs,env,sr,(ak.bind q).imp (λxs hp J J4 H1 gr ok D hD=>?_) λe he=>he⟩;obtain⟨hz,hp⟩:=ak.bT hp;have hp:=ak.wL hp;have KW:=sr.grow gr;refine⟨λi m σ H=>m=xs.length-i/\i<=xs.length/\Jc set none f Q J4 H1 D xs i σ H,⟨xs.length,by simp,NT _,J4,_,[],[],KW.block hD,je,av,?_,.nil,Np _,hp.imp (λzs hz vs p J5 H2 g2 r n=>hz vs p J5 H2 (gr.trans g2) r n) λ_ z=>z⟩,?_⟩
 .cases z:J4 D with
  | none=>rfl
  | some o=>have:=gr.sub _ _ z;rw[hD] at this;cases this
 rintro i m σ' H2 ⟨rfl,hi,J5,env2,ys,vs,Kd,n2,d1,d2,r2,l2,h2⟩
 by_cases KJ:i<xs.length
 .refine .inr ⟨ok.go i J5 H2 Kd.gr.st Kd.gr.sub KJ,Jc set none f Q J4 H1 D xs (i+1),fun σ3 H3 j=>⟨xs.length-(i+1),by lia,rfl,KJ,j⟩,λx H3 y=>?_⟩;obtain⟨p,KY,ep,g3,r3⟩:=ok.t5 i J5 H2 x H3 Kd.gr.st Kd.gr.sub KJ y;have hd:xs.drop i=p::xs.drop (i+1):=by
   rw[OD KJ];rw[Nd KJ] at ep;rw[Nx ep]
  rw[hd] at h2;have h3:=ak.bind h2;have Li:=Kd.grow g3;refine LC (λ_ _ _=>False) J4 H1 KY H3 σ' env2 p x _ (λ_=>False) Li r3 ?_;cases hset:set p env2 with
  | none=>rwa[hset] at h3
  | some z=>cases z with
   | error e=>rwa[hset] at h3
   | ok e3 =>
    rw[hset] at h3;intro σ4 sr4;have n4:=so p env2 e3 hset n2;refine⟨J4,H1,KY,e3,sr4,(ak.bind h3).imp (λy hy v MH H5 g5 r5=>?_) λ_ z=>z.elim⟩;exact Jc.put (set:=set) (t:=none) (f:=f) hD (sr4.grow g5) n4 (g5.al _ _ (g3.al _ _ d1)) (g5.nw _ _ (g3.nw _ _ d2 d1 (λ_=>nofun)) (g3.al _ _ d1) (λ_=>nofun)) ((r2.mono g3.st).mono g5.st) l2 ⋯ r5 hy
 .refine .inl ⟨ok.stop i J5 H2 Kd.gr.st Kd.gr.sub ⋯,?_⟩;exact Jc.done (set:=set) (t:=none) (f:=f) (xs:=xs) (J4:=J4) (H1:=H1) (i:=i) hD ⟨J5,env2,ys,vs,Kd,n2,d1,d2,r2,l2,h2⟩ ⋯
theorem zF{Q:VK}(hv:yH E wi it)(LC:∀E,wM E g set)(so:lg set)(q:tO E (dq it set (some u) f ts.length js) σ H Q):xP wi g (tT EF u) (tE EF f) ts js σ H Q:=by
 refine hv σ H _ ?_;obtain⟨B,H₀,Hs,env,sr,q⟩:=q;refine⟨B,H₀,Hs,env,sr,(ak.bind q).imp (λxs hp J J4 H1 gr ok D hD=>?_) λe he=>he⟩;obtain⟨hz,hp⟩:=ak.bT hp;have hp:=ak.wL hp;have KW:=sr.grow gr;refine⟨λi m σ H=>m=xs.length-i/\i<=xs.length/\Jc set (some u) f Q J4 H1 D xs i σ H,⟨xs.length,by simp,NT _,J4,_,[],[],KW.block hD,je,av,?_,.nil,Np _,hp.imp (λzs hz vs p J5 H2 g2 r n=>hz vs p J5 H2 (gr.trans g2) r n) λ_ z=>z⟩,?_⟩
 .cases z:J4 D with
  | none=>rfl
  | some o=>have:=gr.sub _ _ z;rw[hD] at this;cases this
 rintro i m σ' H2 ⟨rfl,hi,J5,env2,ys,vs,Kd,n2,d1,d2,r2,l2,h2⟩
 by_cases KJ:i<xs.length
 .refine .inr ⟨ok.go i J5 H2 Kd.gr.st Kd.gr.sub KJ,Jc set (some u) f Q J4 H1 D xs (i+1),fun σ3 H3 j=>⟨xs.length-(i+1),by lia,rfl,KJ,j⟩,λx H3 y=>?_⟩;obtain⟨p,KY,ep,g3,r3⟩:=ok.t5 i J5 H2 x H3 Kd.gr.st Kd.gr.sub KJ y;have hd:xs.drop i=p::xs.drop (i+1):=by
   rw[OD KJ];rw[Nd KJ] at ep;rw[Nx ep]
  rw[hd] at h2;have h3:=ak.bind h2;have Li:=Kd.grow g3;refine LC (λ_ _ _=>False) J4 H1 KY H3 σ' env2 p x _ (λ_=>False) Li r3 ?_;cases hset:set p env2 with
  | none=>rwa[hset] at h3
  | some z=>cases z with
   | error e=>rwa[hset] at h3
   | ok e3 =>
    rw[hset] at h3;intro σ4 sr4;have n4:=so p env2 e3 hset n2;refine⟨J4,H1,KY,e3,sr4,(ak.bind h3).imp (λb hb MH H5 g5=>?_) λ_ z=>z.elim⟩;have d5:=g5.al _ _ (g3.al _ _ d1);have e5:=g5.nw _ _ (g3.nw _ _ d2 d1 (λ_=>nofun)) (g3.al _ _ d1) (λ_=>nofun);cases b with
    | true =>
     refine⟨J4,H1,MH,e3,sr4.grow g5,(ak.bind hb).imp (λy hy v Hs6 H6 g6 r6=>?_) λ_ z=>z.elim⟩;exact Jc.put (set:=set) (t:=some u) (f:=f) hD ((sr4.grow g5).grow g6) n4 (g6.al _ _ d5) (g6.nw _ _ e5 d5 (λ_=>nofun)) (((r2.mono g3.st).mono g5.st).mono g6.st) l2 ⋯ r6 hy
    | false=>exact⟨MH,e3,ys,vs,sr4.grow g5,n4,d5,e5,(r2.mono g3.st).mono g5.st,by lia,hb⟩
 .refine .inl ⟨ok.stop i J5 H2 Kd.gr.st Kd.gr.sub ⋯,?_⟩;exact Jc.done (set:=set) (t:=some u) (f:=f) (xs:=xs) (J4:=J4) (H1:=H1) (i:=i) hD ⟨J5,env2,ys,vs,Kd,n2,d1,d2,r2,l2,h2⟩ ⋯
def fw(J3:X.calm=true)(Ka:closureFor scope X.env=pure cl)(hk:scope.kind=.function)(nc:dM scope.names=true)(lo:e8 scope.names=true)(fh:fc cl scope.names=true)(ag:cX X cl)(fr:fI X scope cl fs js)(hi:PI X tg iter wi)(hv:yH E wi it)(hg:∀C s₀ H₀ ex JX,PG (lQ X scope cl (ts++fs) C s₀ H₀ ex JX) tg g)(LC:∀E,wM E g set)(so:lg set)(he:∀C s₀ H₀ ex JX,PE (lQ X scope cl (ts++fs) C s₀ H₀ ex JX) elt (tE EF f))(hs:autoParam ↑5 aI._auto_1):PE X (.ListComp elt [⟨tg,iter,[],0⟩] scope pos) (tO E (dq it set none f ts.length js)):=by
 exact(xC J3 Ka hk nc lo fh ag fr hi hg he hs).imp fun σ H Q q=>mj hv LC so q
def yy(J3:X.calm=true)(Ka:closureFor scope X.env=pure cl)(hk:scope.kind=.function)(nc:dM scope.names=true)(lo:e8 scope.names=true)(fh:fc cl scope.names=true)(ag:cX X cl)(fr:fI X scope cl fs js)(hi:PI X tg iter wi)(hv:yH E wi it)(hg:∀C s₀ H₀ ex JX,PG (lQ X scope cl (ts++fs) C s₀ H₀ ex JX) tg g)(LC:∀E,wM E g set)(so:lg set)(ht:∀C s₀ H₀ ex JX,PT (lQ X scope cl (ts++fs) C s₀ H₀ ex JX) c (tT EF u))(he:∀C s₀ H₀ ex JX,PE (lQ X scope cl (ts++fs) C s₀ H₀ ex JX) elt (tE EF f))(hs:autoParam ↑5 aI._auto_1):PE X (.ListComp elt [⟨tg,iter,[c],0⟩] scope pos) (tO E (dq it set (some u) f ts.length js)):=by
 exact(yS J3 Ka hk nc lo fh ag fr hi hg ht he hs).imp fun σ H Q q=>zF hv LC so q
def fZ(fo:aa->M (List PV)):aa->M PV:=λenv=>(fo env).bind λps=>M.ok (.lst ps)
def gZ{fo:aa->M (List PV)}(he:PE X e (tO E fo)):PE X e (tE E (fZ fo)):=he.imp fun σ H Q q=>by
 obtain⟨B,H₀,Hs,env,sr,q⟩:=q;refine⟨B,H₀,Hs,env,sr,(ak.bind q).imp (λps hp vs p J1 H' g r n=>?_) λe he=>he⟩;have gn:=aP.new (o:=.lst vs) g.sub n;exact hp _ _ _ (g.trans gn) (.lst av (r.mono gn.st))
end
def qj(f:Str)(v:PV):List (Str×PV)->List (Str×PV)
 | []=>[(f,v)]
 |(g,x)::r=>if g=f then (g,v)::r else (g,x)::qj f v r
theorem eV.put{H:Hp}{f:Str}{p:PV}{v:V}(h:Rep H p v):∀{fs:List (Str×PV)}{vs:List (Str×V)},eV H fs vs->eV H (qj f p fs) (gQ f v vs)
 | _,_,.nil=>.cons h .nil
 | (g,x)::r,_,.cons hx hr=>by
  unfold qj gQ
  by_cases z:g=f
  .rw[if_pos z,if_pos z];exact .cons h hr
  .rw[if_neg z,if_neg z];exact .cons hx (hr.put h)
theorem eV.length{H:Hp}:∀{fs:List (Str×PV)}{vs:List (Str×V)},eV H fs vs->fs.length=vs.length
 | _,_,.nil=>rfl
 |_,_,.cons _ r=>by simp[r.length]
def SR.HA{B:Hp}{env:aa}{dx:Addr}{fs gs:List (Str×PV)}{us:List (Str×V)}(r:SR B H₀ Hs H σ env)(e:env[i]?=some (some (.bd a C fs)))(h:eV Hs gs us):SR B H₀ Hs (upd H a (.ins C dx us)) σ (env.set i (some (.bd a C gs))):=by
 obtain⟨dx0,vs,h1,h2,h3,h4,h5⟩:=r.bd i a C fs e;exact r.xl h1 (r.gr.lh h3 h4) (λ_ _ q=>q) (λ_ q=>by cases q;exact⟨_,rfl,dx,us,rfl,av,h3,h4,h⟩) (λj y b u n ej o z q1 q2 _=>⟨by rwa[aq (λw=>by subst w;exact r.ap i j _ y b n e ej rfl o h1 z)],q2⟩) λ_ _ _ k z n ek o=>r.ap i k _ z a n e ek rfl o h1
def yQ(i:Nat)(C:Addr)(f:Str)(p:PV)(env:aa):M Out:=match env[i]? with
 | some (some (.bd a C' fs))=>bT (C'=C/\fs.length<1000) (M.ok (.nx (env.set i (some (.bd a C (qj f p fs))))))
 |_=>none
def lD(i:Nat)(C:Addr)(fl:Str)(f:aa->M PV):aa->M Out:=λenv=>(f env).bind λp=>yQ i C fl p env
section
variable{E:XK}{f:aa->M PV}{fl:Str}
def pK(hi:X.N[i]?=some x)(hv:vI X.env.scope x)(c:nV X.K C)(na:bM X.K C fl)(he:PE X e (tE (λ_=>E) f))(hd:autoParam ↑7 aD._auto_1)(Ko:autoParam ↑6 aD._auto_1)(hs:autoParam (swapsWith e (some (.Attribute (.Name x px) fl pos')) pos.line X.env=pure false) aR._auto_1):PS X (.Assign [.Attribute (.Name x px) fl pos'] e pos) (tS E (lD i C fl f)):=by
 refine(DD (fq hi hv hd Ko) he hs).imp λD σ H q=>fX q λB H₀ Hs H1 env p v sr rp hp=>?_;unfold yQ at hp
 split at hp
 .rename_i a C' fs ex;obtain⟨⟨rfl,hz⟩,hp⟩:=ak.bT hp;obtain⟨dx,vs,h1,h2,h3,h4,h5⟩:=sr.bd i a _ fs ex;exact⟨.ref a,h1,a,_,dx,vs,rfl,h2,c,na,by rwa[<- h5.length],hp σ Hs _ (sr.HA ex (h5.put rp))⟩
 .exact hp.elim
end
def rj(m:Nat)(a C:Addr)(ps:List PV):aa:=some (.bd a C [])::eM (m-1) ps
def zu(a C:Addr)(env:aa):M (List (Str×PV)):=match (env[0]?:Option (Option SV)) with
 | some (some (.bd b D fs))=>bT (b=a/\D=C) (M.ok fs)
 |_=>none
def outI(a C:Addr):Out->M (List (Str×PV))
 | .nx env=>zu a C env
 |_=>none
def tY(m:Nat)(g:aa->M Out)(C a:Addr)(ps:List PV):M (List (Str×PV)):=(g (rj m a C ps)).bind (outI a C)
def DF(s:Addr->M α):M α:=open Classical in if h:∃r,∀a,s a=r then h.choose else none
def qx{s:Addr->M α}{r:M α}(h:∀a,s a=r):DF s=r:=by
 have hx:∃r,∀a,s a=r:=⟨r,h⟩
 unfold DF;rw[dif_pos hx,<- hx.choose_spec 0,h 0]
theorem ak.DF{α:Type}{s:Addr->M α}{Q:α->Prop}{E:EX->Prop}(h:ak (L2.DF s) Q E)(a:Addr):ak (s a) Q E:=by
 unfold L2.DF at h
 split at h
 .rename_i hx;rwa[hx.choose_spec a]
 .exact h.elim
def CS(n:Nat)(C:Addr)(J8:Addr->List PV->M (List (Str×PV))):Sp:=λvs H Q E=>vs.length=n/\∃a dx us Hs H1 ps,vs=.ref a::us/\H1 a=none/\H1 dx=none/\dx≠a/\H=upd (upd H1 dx (.own a)) a (.ins C dx [])/\aW Hs H1/\aB Hs ps us ∧
 ak (J8 a ps) (λfs=>∀Mz ws J1 H',aP Hs H1 J1 H'->H' a=some (.ins C Mz ws)->J1 a=none->eV J1 fs ws->Q .aJ H') (XW E Hs H1)
def SR.Ei{dx:Addr}{ps:List PV}(s:aW Hs H₀)(hN:0<N.length)(ha:H₀ a=none)(r:aB Hs ps vs)(hH:H=upd H₀ a (.ins C dx [])):SR Hs H₀ Hs H (L2.start N (.ref a::vs)) (rj N.length a C ps):=by
 have hs:Hs a=none:=by
  cases q:Hs a with
  | none=>rfl
  | some o=>have:=s _ _ q;rw[ha] at this;cases this
 have ne:∀c u,H₀ c=some u->c≠a:=λc u e z=>by rw[z,ha] at e;cases e
 have s0:=SR.start (N:=N.tail) s r;have e1:L2.start N (.ref a::vs)=some (.ref a)::L2.start N.tail vs:=by
  unfold L2.start;simp only[NJ,List.cons_append,N_,S7];rw[Nat.sub_sub,SI]
 have e2:rj N.length a C ps=some (.bd a C [])::eM N.tail.length ps:=by unfold rj;rw[S7]
 have al:aW H₀ H:=λc u q=>by rwa[hH,aq (ne c u q)]
 rw[e1,e2];have no:∀(j:Nat)(x:SV),(eM N.tail.length ps)[j]?=some (some x)->eR x=true->False:=λj x e o=>by
  obtain⟨v,h1,h2⟩:=s0.at_ j x e;obtain⟨b,u,_,q1,_,q2,_⟩:=h2.lh o;rw[q2] at q1;cases q1
 refine⟨⟨λ_ _ e=>e,al,λc u q=>al c u (s c u q),λc u q _ _=>q⟩,by simp[s0.len],λj x ej=>?_,λj k x y b nj e1 e2 o1 o2=>?_⟩
 .cases j with
  | zero=>cases ej;exact⟨_,rfl,dx,[],rfl,by rw[hH];exact av,hs,ha,.nil⟩
  | succ j =>
   have ej:(eM N.tail.length ps)[j]?=some (some x):=by simpa using ej
   obtain⟨v,h1,h2⟩:=s0.at_ j x ej;exact⟨v,by simpa using h1,h2.mono (λ_ _ q=>q) λ_ _ o=>(no j x ej o).elim⟩
 .cases j with
  | zero=>cases k with
   | zero=>exact absurd rfl nj
   | succ k=>exact(no k y (by simpa using e2) o2).elim
  |succ j=>exact(no j x (by simpa using e1) o1).elim
def Bn{K:Nb}{dV kV doc pm J6 ct oc:Value}{g:aa->M Out}(lk:K.lookup f=some ⟨oc,od,.func (N6 name qual params body scope dV kV doc pm an J6 ct),LM⟩)(Ko:OG K J6 qual=true)(S:bD N ps scope)(hN:0<N.length)(hb:∀(A:Around)(outer:List Env)(s:Shared)(H:Hp)(E:XK),bH k (A.deeper (envOfC qual scope s.heap.objs.size f J6))->gP ((gS (cf P w) P w K mg base N qual scope f J6 A outer s H E).out λ_=>E) body (tS E g)):aV P w K mg base (cf P w) (k+1) f (N6 name qual params body scope dV kV doc pm an J6 ct) ps (CS ps.length C (tY N.length g C)):=by
 refine mF lk Ko S (λvs H Q E h=>h.1) λA outer s H vs Q E hr hs=>⟨_,hb A outer s H E hr,?_⟩
 obtain⟨_,a,dx,us,Hs,H1,K_,rfl,ha,hdx,LP,hH,sm,r,h⟩:=hs;have ne:∀c u,H1 c=some u->c≠dx:=λc u e z=>by rw[z,hdx] at e;cases e
 have s0:aW H1 (upd H1 dx (.own a)):=λc u q=>by rwa[aq (ne c u q)]
 have g0:aP Hs H1 Hs (upd H1 dx (.own a)):=⟨λ_ _ e=>e,s0,λc u q=>s0 c u (sm c u q),λ_ _ e _ _=>e⟩
 refine⟨Hs,_,Hs,_,SR.Ei (dx:=dx) g0.sub hN (by rwa[aq (OL LP)]) r hH,(ak.bind h).imp (λo ho=>?_) λe he=>he.grow g0⟩;cases o with
 | rt p=>exact ho.elim
 | bk env=>exact ho.elim
 | ct env=>exact ho.elim
 | nx env =>
  intro σ J1 H' sr;have Lu:ak (zu a C env) _ _:=ho;unfold zu at Lu
  split at Lu
  .rename_i b D fs ex;obtain⟨⟨rfl,rfl⟩,hp⟩:=ak.bT Lu;obtain⟨Mz,ws,h1,h2,h3,h4,h5⟩:=sr.bd 0 _ _ fs ex;exact hp Mz ws J1 H' (g0.trans sr.gr) h2 h3 h5
  .exact Lu.elim
def dH(C:Addr)(J8:Addr->List PV->M (List (Str×PV)))(K3:List PV)(ps:List PV):M PV:=(DF λa=>J8 a (ps++K3)).bind λfs=>M.ok (.obj C fs)
section
variable{ns:List Str}{J8:Addr->List PV->M (List (Str×PV))}{p:Pos}{fs:aa->M (List PV)}
def AZ(Mk:Mk X.K C f)(F:aV X.prog X.w X.K X.mg X.base (cf X.prog X.w) k f fd ns (CS n C J8))(hr:bH (k+1) X.A)(hg:Gl X x)(hm:X.mg x=some (.ref C))(hb:Binds X.K fd ns ds)(hd:Vals Ku ds)(hdp:∀H,aB H K3 Ku)(O:dG X E)(hl:∀a ps,J8 a (ps++K3)≠none->ps.length+K3.length+1=n)(ha:PA X (e::es) (tL E fs))(Kt:autoParam ↑7 aD._auto_1)(he:autoParam ↑0 aR._auto_1)(Kb:autoParam ↑2 aR._auto_1):PE X (.Call (.Name x p) (e::es) [] pos) (tE E (ai (dH C J8 K3) fs)):=by
 refine(x6 Mk F hr hg hm hb hd O ha Kt he Kb).imp fun σ H Q q=>eO (K:=gu Q) gu.g q λB H₀ Hs H1 env K_ v sr rp hp=>?_;intro a dx ha hdx LP;have r2:aB Hs (K_++K3) (v++Ku):=rp.append (hdp Hs);have Mj:=(ak.bind hp).DF a;have hn:J8 a (K_++K3)≠none:=λz=>by
  rwa[z] at Mj
 refine⟨?_,a,dx,v++Ku,Hs,H1,K_++K3,rfl,ha,hdx,LP,rfl,sr.gr.sub,r2,Mj.imp (λfl hfl Mz ws J1 H' g hw Mt Lz=>⟨rfl,?_⟩) λe he=>he⟩
 .show (v++Ku).length+1=n;rw[<- r2.length,NG];exact hl a K_ hn
 .have ne:∀c u,J1 c=some u->c≠a:=λc u q z=>by rw[z,Mt] at q;cases q
  have KA:aW J1 (upd J1 a (.ins C Mz ws)):=λc u q=>by rwa[aq (ne c u q)]
  refine hfl (.ref a) (upd J1 a (.ins C Mz ws)) H' ⟨λc u q=>KA c u (g.st c u q),g.al,λc u q=>?_,λc u q1 q2 q3=>?_⟩ (.obj av (Lz.mono KA))
  .by_cases z:c=a
   .subst z;rw[av] at q;cases q;exact hw
   .rw[aq z] at q;exact g.sub c u q
  .have z:c≠a:=λz=>by rw[z,ha] at q2;cases q2
   rw[aq z];exact g.nw c u q1 q2 q3
end
section
variable{a b:Expr}{f g h:aa->M PV}
def lq{m:Nat}(h:n.log2<m):n<2^m:=by
 by_cases z:n=0
 .subst z;exact Nat.two_pow_pos m
 .exact(Tf z).mp h
theorem aB.rep{H:Hp}{xs:List PV}{vs:List V}(r:aB H xs vs):∀k:Nat,aB H (Ni k xs).flatten (Ni k vs).flatten
 | 0=>.nil
 |k+1=>by rw[N5,N5,OA,OA];exact r.append (r.rep k)
def cu:PV->PV->M PV
 | .int i,.int j=>bT (i.natAbs.log2<67108864/\j.natAbs.log2<67108864) (M.ok (.int (i*j)))
 | .tup xs,.int k=>bT (xs.isEmpty=false/\-(2^63)<=k/\k<2^63/\xs.length*k.toNat<=sizeLine) (M.ok (.tup (Ni k.toNat xs).flatten))
 | .lst xs,.int k=>bT (-(2^63)<=k/\k<2^63/\xs.length*k.toNat<=sizeLine) (M.ok (.lst (Ni k.toNat xs).flatten))
 |_,_=>none
def BJ(K:Nb):R2:=λx y H Q=>(rI (λi j=>IntMulOk i j) λi j=>.int (i*j)) x y H Q\/B2 K x y H Q\/Gb x y H Q
def Am:fm X (binaryOp .Mult) (BJ X.K):=fm.or Aw (fm.or AH De)
def C2{K:Nb}:jg E (BJ K) cu:=by
 intro σ Hs H p q v u Q s rp rq h;cases rp with
 | int i=>cases rq with
  | int j =>
   obtain⟨hz,h⟩:=ak.bT h;exact .inl ⟨i,j,rfl,rfl,zE (lq hz.1) (lq hz.2) (Np _),cA.flat h s (.int _)⟩
  | _=>exact h.elim
 | @tup a xs vs ha hx=>cases rq with
  | int k =>
   obtain⟨⟨h0,h1,h2,h3⟩,h⟩:=ak.bT h;have n1:vs≠[]:=λz=>by
    have:=hx.length;rw[z] at this;cases xs with
    | nil=>cases h0
    | cons _ _=>cases this
   refine .inr (.inl ⟨a,k,vs,rfl,rfl,fg.of (s _ _ ha),n1,h1,h2,by rwa[<- hx.length],λz=>?_,λz=>cA.tup h s (hx.rep _)⟩);subst z;rw[show (1:Int).toNat=1 from rfl,N5,List.replicate_zero,OA,List.flatten_nil,NX] at h;exact cA.flat h s (.tup ha hx)
  | _=>exact h.elim
 | @lst a xs vs ha hx=>cases rq with
  | int k =>
   obtain⟨⟨h1,h2,h3⟩,h⟩:=ak.bT h;exact .inr (.inr ⟨a,k,vs,rfl,rfl,s _ _ ha,h1,h2,by rwa[<- hx.length],cA.lst h s (hx.rep _)⟩)
  | _=>exact h.elim
 |_=>exact h.elim
def AS:jg E (rI xh λi j=>.int (i.fdiv j)) (ua (λ_ j=>decide (j≠0/\j.natAbs.log2<9000)) λi j=>i.fdiv j):=sW λi j z=>(of_decide_eq_true z:j≠0/\j.natAbs.log2<9000)
def DH:jg E (rI (λ_ j=>j≠0) λi j=>.int (i.fmod j)) (ua (λ_ j=>decide (j≠0)) λi j=>i.fmod j):=sW λi j z=>of_decide_eq_true z
def Dm:jg E (rI DE λi j=>.int (i^j.toNat)) (ua (λi j=>decide (0<=j/\j<=1000000/\i.natAbs<2^64)) λi j=>i^j.toNat):=sW λi j z=>(of_decide_eq_true z:0<=j/\j<=1000000/\i.natAbs<2^64)
def Fo:PV->M PV
 | .int i=>M.ok (.int (-i))
 |_=>none
def wt(f:aa->M PV):aa->M PV:=λenv=>(f env).bind Fo
def D6(ha:PE X a (tE E f)):PE X (.UnaryOp .USub a pos) (tE E (wt f)) :=
 (Gi El ha).imp fun σ H Q q=>F_ q λHs H1 p v s rp h=>by
  cases rp with
  | int i=>exact⟨i,rfl,cA.flat h s (.int _)⟩
  |_=>exact h.elim
def hZ:PV->Bool
 | .aJ=>true
 |_=>false
def qW(r:Rep H p v):decide (v=.aJ)=hZ p:=by
 cases r<;>rfl
def f_:PV->PV->M PV
 | p,.aJ=>M.ok (.bl (hZ p))
 |_,_=>none
def dh:PV->PV->M PV
 | p,.aJ=>M.ok (.bl (!hZ p))
 |_,_=>none
def yB:jg E (λx y H Q=>y=.aJ/\Q (.bl (decide (x=.aJ))) H) f_:=by
 intro σ Hs H p q v u Q s rp rq h;cases rq with
 | aJ =>
  have h':ak (M.ok (PV.bl (hZ p))) (cA Hs H Q) (XW (E σ) Hs H):=by cases p<;>exact h
  exact⟨rfl,by rw[qW rp];exact cA.flat h' s (.bl _)⟩
 |_=>cases p<;>exact h.elim
def uT:jg E (λx y H Q=>y=.aJ/\Q (.bl (!decide (x=.aJ))) H) dh:=by
 intro σ Hs H p q v u Q s rp rq h;cases rq with
 | aJ =>
  have h':ak (M.ok (PV.bl (!hZ p))) (cA Hs H Q) (XW (E σ) Hs H):=by cases p<;>exact h
  exact⟨rfl,by rw[qW rp];exact cA.flat h' s (.bl _)⟩
 |_=>cases p<;>exact h.elim
def j7(o o':PV->PV->M PV)(f g h:aa->M PV):aa->M PV:=λenv=>(f env).bind λp=>(g env).bind λq=>(o p q).bind λz=>(sZ z).bind λk=>if k=true then (h env).bind λr=>o' q r else M.ok (.bl false)
def xX{r r':R2}{o o':PV->PV->M PV}(hv:jg E r o)(M1:jg E r' o'){Q:VK}(q:tE E (j7 o o' f g h) σ H Q):zP r r' (tE E f) (tE E g) (tE E h) σ H Q:=by
 refine bx (K:=gu Q) gu.g q λB H₀ Hs H1 env p v sr rp hp=>?_;refine⟨B,H₀,Hs,env,sr,(ak.bind hp).imp (λq hq u J5 H2 g2 ru=>?_) λe he=>he⟩;have Kd:=sr.grow g2;refine hv σ J5 H2 p q v u _ Kd.gr.sub (rp.mono g2.st) ru ((ak.bind hq).imp (λz hz w KY H3 g3 Lz=>?_) λe he=>he.grow g2);obtain⟨k,ek,hk⟩:=ak.Gr (ak.bind hz);subst ek;cases Lz;refine⟨k,rfl,?_⟩;have Li:=Kd.grow g3;cases k with
 | false=>exact hk _ _ _ (g2.trans g3) (.bl _)
 | true =>
  have Me:ak ((h env).bind λr=>o' q r) (gu Q Hs H1) (XW (E σ) Hs H1):=hk;refine⟨B,H₀,KY,env,Li,(ak.bind Me).imp (λr hr w Hs4 H4 g4 rw4=>?_) λe he=>he.grow (g2.trans g3)⟩;exact M1 σ Hs4 H4 q r u w Q (Li.grow g4).gr.sub ((ru.mono g3.st).mono g4.st) rw4 (hr.imp (λz hz w' MH H5 g5 r5=>hz w' MH H5 ((g2.trans g3).trans (g4.trans g5)) r5) λe he=>he.grow ((g2.trans g3).trans g4))
def rD{Mw:CmpOp}{r r':R2}{o o':PV->PV->M PV}(ho:fm X (compareOp op) r)(hv:jg E r o)(Lu:fm X (compareOp Mw) r')(M1:jg E r' o')(ha:PE X a (tE E f))(hb:PE X b (tE E g))(hc:PE X c (tE E h))(hm:autoParam (lastMarks [op,Mw] [b,c]=false) aU._auto_1):PE X (.Compare a [op,Mw] [b,c] pos) (tE E (j7 o o' f g h)) :=
 (w4 ho Lu ha hb hc hm).imp fun σ H Q q=>xX hv M1 q
def bU(u:aa->M Bool)(b:aa->M Out):Nat->aa->M Out
 | 0,_=>none
 | n+1,env=>(u env).bind λt=>if t=true then (b env).bind λo=>match o with
   | .nx J0=>bU u b n J0
   | .ct J0=>bU u b n J0
   | .bk J0=>M.ok (.nx J0)
   | .rt p=>M.ok (.rt p)
  else M.ok (.nx env)
def v_{E:XK}{u:aa->M Bool}{g:aa->M Out}(n:aa->Nat)(O:dG X λ_=>E)(hc:PT X c (tT (λ_=>E) u))(hb:gP X body (tS E g)):PS X (.While c body [] pos) (tS E λenv=>bU u g (n env) env):=by
 refine(yI O.own hc hb).imp λD σ H q=>?_;obtain⟨B,H₀,Hs,env,sr,q⟩:=q;refine⟨λm σ H=>∃Hs env,SR B H₀ Hs H σ env/\ak (bU u g m env) (KS D B H₀) (XW E B H₀),⟨n env,Hs,env,sr,q⟩,?_⟩;rintro m σ1 H1 ⟨J4,env1,KW,q1⟩;cases m with
 | zero=>exact q1.elim
 | succ m =>
  refine⟨B,H₀,J4,env1,KW,(ak.bind q1).imp (λt ht J5 H2 g2=>?_) λe he=>he.grow KW.gr⟩;have Kd:=KW.grow g2;cases t with
  | false=>exact ht σ1 J5 H2 Kd
  | true =>
   refine⟨fun σ' H'=>∃J1 J0,SR B H₀ J1 H' σ' J0/\ak (bU u g m J0) (KS D B H₀) (XW E B H₀),fun σ' H' z=>⟨m,Om m,z⟩,B,H₀,J5,env1,Kd,(ak.bind ht).imp (λo ho=>?_) λe he=>he⟩;cases o with
   | nx J0=>exact fun σ' J1 H' KN=>⟨J1,J0,KN,ho⟩
   | ct J0=>exact fun σ' J1 H' KN=>⟨J1,J0,KN,ho⟩
   | bk J0=>exact ho
   |rt p=>exact ho
theorem gB{u:aa->M Bool}{g:aa->M Out}:∀(n k:Nat)(env:aa),bU u g n env≠none->bU u g (n+k) env=bU u g n env
 | 0,_,_,h=>(h rfl).elim
 | n+1,k,env,h=>by
  rw[show n+1+k=(n+k)+1 by lia];unfold bU at h ⊢;cases hu:u env with
  | none=>rfl
  | some z =>
   cases z with
   | error e=>rfl
   | ok t =>
    rw[hu] at h;cases t with
    | false=>rfl
    | true =>
     show M.bind (g env) _=M.bind (g env) _;have h':M.bind (g env) (λo=>match o with
      | .nx J0=>bU u g n J0
      | .ct J0=>bU u g n J0
      | .bk J0=>M.ok (.nx J0)
      | .rt p=>M.ok (.rt p))≠none:=h
     cases hg:g env with
     | none=>rfl
     | some z =>
      cases z with
      | error e=>rfl
      | ok o =>
       rw[hg] at h';cases o with
       | nx J0=>exact gB n k J0 h'
       | ct J0=>exact gB n k J0 h'
       | bk J0=>rfl
       |rt p=>rfl
def iV(u:aa->M Bool)(b:aa->M Out)(env:aa):M Out:=open Classical in bU u b (if h:∃n,bU u b n env≠none then h.choose else 0) env
def wz{u:aa->M Bool}{b:aa->M Out}{env:aa}(h:bU u b n env≠none):iV u b env=bU u b n env:=by
 have hx:∃n,bU u b n env≠none:=⟨n,h⟩
 unfold iV;rw[dif_pos hx];have h1:=hx.choose_spec;rw[<- gB _ n env h1,<- gB n hx.choose env h,SI]
def sx{E:XK}{u:aa->M Bool}{g:aa->M Out}(O:dG X λ_=>E)(hc:PT X c (tT (λ_=>E) u))(hb:gP X body (tS E g)):PS X (.While c body [] pos) (tS E (iV u g)) :=
 v_ (λenv=>open Classical in if h:∃n,bU u g n env≠none then h.choose else 0) O hc hb
end
def zW:PV->Option String
 | .aJ=>some "NoneType"
 | .bl _=>some "bool"
 | .int _=>some "int"
 | .str _=>some "str"
 | .lst _=>some "list"
 | .aY _=>some "list"
 | .tup _=>some "tuple"
 | .emp=>some "dict"
 |_=>none
def dU(a t:String):Bool:=a==t||(a == "bool" && t == "int")
def lB(K:Nb):Ng K (.type "NoneType") (.type "int")=some false:=by with_unfolding_all kernel_rfl
def rR(K:Nb):Ng K (.type "bool") (.type "int")=some true:=by with_unfolding_all kernel_rfl
def tys:List String:=["int","bool","str","list","tuple"]
def Az(K:Nb){a t:String}(ha:zW p=some a)(ht:t∈tys):Ng K (.type a) (.type t)=some (dU a t):=by
 have ht2:t="int" \/ t="bool" \/ t="str" \/ t="list" \/ t="tuple" := by simpa [tys] using ht
 cases p<;>cases ha<;>rcases ht2 with rfl|rfl|rfl|rfl|rfl<;>first
  | exact lB K
  | exact kt_NoneType_bool K
  | exact kt_NoneType_str K
  | exact kt_NoneType_list K
  | exact kt_NoneType_tuple K
  | exact rR K
  | exact kt_bool_bool K
  | exact kt_bool_str K
  | exact kt_bool_list K
  | exact kt_bool_tuple K
  | exact kt_int_int K
  | exact kt_int_bool K
  | exact kt_int_str K
  | exact kt_int_list K
  | exact kt_int_tuple K
  | exact kt_str_int K
  | exact kt_str_bool K
  | exact kt_str_str K
  | exact kt_str_list K
  | exact kt_str_tuple K
  | exact kt_list_int K
  | exact kt_list_bool K
  | exact kt_list_str K
  | exact kt_list_list K
  | exact kt_list_tuple K
  | exact kt_tuple_int K
  | exact kt_tuple_bool K
  | exact kt_tuple_str K
  | exact kt_tuple_list K
  | exact kt_tuple_tuple K
  | exact kt_dict_int K
  | exact kt_dict_bool K
  | exact kt_dict_str K
  | exact kt_dict_list K
  |exact kt_dict_tuple K
def ug{K:Nb}{a:String}(s:aW Hs H)(r:Rep Hs p v)(ha:zW p=some a):gm K H v (.type a):=by
 cases r with
 | aJ=>cases ha;exact .aJ
 | bl b=>cases ha;exact .bl b
 | int i=>cases ha;exact .int i
 | str x=>cases ha;exact .str x
 | tup h _=>cases ha;exact .tup (s _ _ h)
 | lst h _=>cases ha;exact .lst (s _ _ h)
 | aY h _=>cases ha;exact .k9 (s _ _ h)
 | emp h=>cases ha;exact .dK (s _ _ h)
 |_=>cases ha
theorem uP(K:Nb){p:PV}{a:String}(ha:zW p=some a):∀{Ts:List String},(∀t∈Ts,t∈tys)->Oi K (.type a) (Ts.map Ov)=some (Ts.any λt=>dU a t)
 | [],_=>rfl
 | t::r,h=>by
  have h1:=Az K ha (h t Nt);have h2:=uP K ha (Ts:=r) λt q=>h t (Nl _ q);simp only[NJ,Oi,h1,List.any_cons];cases dU a t with
  | true=>rfl
  |false=>exact h2
structure uh (K:Nb) (C:Addr):Prop where
 cls:nV K C
 ha:NO K (.ref C) "__class__"=some (some (.builtin "object.__class__"))
 hn:P7 K (.builtin "object.__class__") "__get__"=some (some (.builtin "getset_descriptor.__get__"))
 EI:QB K (.builtin "object.__class__")=some true
 hm:Rf K C (.type "object")=some true
def sL(b:String->Bool)(ob oe:Addr->Option Bool):PV->M PV
 | .obj C _=>fu ((ob C).map .bl)
 | .exc C _=>fu ((oe C).map .bl)
 |p=>fu ((zW p).map λa=>.bl (b a))
section
variable{p pt:Pos}{f:aa->M PV}{T:String}{ob oe:Addr->Option Bool}
def md{fo:Option (List (Str×PV))}(s:aW Hs H)(r:Rep Hs (.exc C fo) v):∃a LS,v=.ref a/\ExcAt H a C LS:=by
 cases r with
 | @pM a _ h=>exact⟨a,none,rfl,s _ _ h⟩
 |@nF a _ d _ vs h h2 _=>exact⟨a,some vs,rfl,d,s _ _ h,s _ _ h2⟩
def ji(b:String->Bool)(ob oe:Addr->Option Bool)(f:aa->M PV):aa->M PV:=λenv=>(f env).bind (sL b ob oe)
def l6{b:String->Bool}{p:PV}{Q:PV->Prop}{F:EX->Prop}(h:ak (sL b ob oe p) Q F):(∃a,zW p=some a/\Q (.bl (b a)))\/(∃C fs k,p=.obj C fs/\ob C=some k/\Q (.bl k))\/∃C fo k,p=.exc C fo/\oe C=some k/\Q (.bl k):=by
 cases p with
 | obj C fs =>
  obtain⟨z,e,q⟩:=ak.opt h;obtain⟨k,e2,rfl⟩:=Nf.mp e;exact .inr (.inl ⟨C,fs,k,rfl,e2,q⟩)
 | exc C fo =>
  obtain⟨z,e,q⟩:=ak.opt h;obtain⟨k,e2,rfl⟩:=Nf.mp e;exact .inr (.inr ⟨C,fo,k,rfl,e2,q⟩)
 | aJ=>exact .inl ⟨_,rfl,h⟩
 | bl _=>exact .inl ⟨_,rfl,h⟩
 | int _=>exact .inl ⟨_,rfl,h⟩
 | str _=>exact .inl ⟨_,rfl,h⟩
 | tup _=>exact .inl ⟨_,rfl,h⟩
 | lst _=>exact .inl ⟨_,rfl,h⟩
 | aY _=>exact .inl ⟨_,rfl,h⟩
 | emp=>exact .inl ⟨_,rfl,h⟩
 | t8 _=>exact h.elim
 |fn _=>exact h.elim
def ue{K:Nb}{fs:List (Str×PV)}(s:aW Hs H)(r:Rep Hs (.obj C fs) v)(c:uh K C):gm K H v (.ref C):=by
 cases r with
 |obj h _=>exact .ins (s _ _ h) c.cls c.ha c.hn c.EI c.hm
def dR(hg:Gl X "isinstance")(hm:X.mg "isinstance"=none)(hT:PE X (.Name x pt) (tC (.ty T)))(ht:T∈tys)(Mi:∀C b,ob C=some b->uh X.K C/\Ng X.K (.ref C) (.type T)=some b)(Lv:∀C b,oe C=some b->cS X.K C/\Ng X.K (.ref C) (.type T)=some b)(he:PE X e (tE E f))(h1:autoParam (starEach [e,.Name x pt] X.env=(false,eval e X.env)::starEach [.Name x pt] X.env) aR._auto_1)(h2:autoParam (starEach [.Name x pt] X.env=(false,eval (.Name x pt) X.env)::starEach [] X.env) aR._auto_1)(Kb:autoParam ((backTo pos (starEach [.Name x pt] X.env)).any (·.1)=false) aR._auto_1):PE X (.Call (.Name "isinstance" p) [e,.Name x pt] [] pos) (tE E (ji (λa=>dU a T) ob oe f)):=by
 refine(eI (bX.or m7 mD) hg hm iY (aT he (aT hT cZ h2) h1) ↑12 ↑12 h1 Kb).imp fun σ H Q q=>bx (K:=gu Q) gu.g q λB H₀ Hs H1 env p v sr rp hp=>?_;rcases l6 hp with ⟨a,ha,q⟩|⟨C,fs,k,rfl,e,q⟩|⟨C,fo,k,rfl,e,q⟩
 .exact .inl ⟨v,T,_,_,rfl,ug sr.gr.sub rp ha,Az X.K ha ht,cA.flat q sr.gr.sub (.bl _)⟩
 .exact .inl ⟨v,T,_,_,rfl,ue sr.gr.sub rp (Mi C k e).1,(Mi C k e).2,cA.flat q sr.gr.sub (.bl _)⟩
 .obtain⟨a,LS,rfl,hx⟩:=md sr.gr.sub rp;exact .inr ⟨a,C,LS,k,(Lv C k e).1,hx,.inl ⟨T,rfl,(Lv C k e).2⟩,cA.flat q sr.gr.sub (.bl _)⟩
def Ed(hg:Gl X "isinstance")(hm:X.mg "isinstance"=none)(hT:PE X (.Name x pt) (tC (.ref D)))(hk:∀p a,zW p=some a->Ng X.K (.type a) (.ref D)=some false)(Mi:∀C b,ob C=some b->uh X.K C/\Ng X.K (.ref C) (.ref D)=some b)(Lv:∀C b,oe C=some b->cS X.K C/\Ng X.K (.ref C) (.ref D)=some b)(he:PE X e (tE E f))(h1:autoParam (starEach [e,.Name x pt] X.env=(false,eval e X.env)::starEach [.Name x pt] X.env) aR._auto_1)(h2:autoParam (starEach [.Name x pt] X.env=(false,eval (.Name x pt) X.env)::starEach [] X.env) aR._auto_1)(Kb:autoParam ((backTo pos (starEach [.Name x pt] X.env)).any (·.1)=false) aR._auto_1):PE X (.Call (.Name "isinstance" p) [e,.Name x pt] [] pos) (tE E (ji (λ_=>false) ob oe f)):=by
 refine(eI (bX.or xZ mD) hg hm iY (aT he (aT hT cZ h2) h1) ↑12 ↑12 h1 Kb).imp fun σ H Q q=>bx (K:=gu Q) gu.g q λB H₀ Hs H1 env p v sr rp hp=>?_;rcases l6 hp with ⟨a,ha,q⟩|⟨C,fs,k,rfl,e,q⟩|⟨C,fo,k,rfl,e,q⟩
 .exact .inl ⟨v,D,_,_,rfl,ug sr.gr.sub rp ha,hk p a ha,cA.flat q sr.gr.sub (.bl _)⟩
 .exact .inl ⟨v,D,_,_,rfl,ue sr.gr.sub rp (Mi C k e).1,(Mi C k e).2,cA.flat q sr.gr.sub (.bl _)⟩
 .obtain⟨a,LS,rfl,hx⟩:=md sr.gr.sub rp;exact .inr ⟨a,C,LS,k,(Lv C k e).1,hx,.inr ⟨D,rfl,(Lv C k e).2⟩,cA.flat q sr.gr.sub (.bl _)⟩
def lT{e2:Expr}{t2:TE}{Ts:List String}(hg:Gl X "isinstance")(hm:X.mg "isinstance"=none)(hT:PE X e2 t2)(ht2:∀σ H R,(∀p,H p=none->R (.ref p) (upd H p (.tup (Ts.map V.ty))))->t2 σ H R)(ht:∀t∈Ts,t∈tys)(Mi:∀C b,ob C=some b->uh X.K C/\Oi X.K (.ref C) (Ts.map Ov)=some b)(he:PE X e (tE E f))(h1:autoParam (starEach [e,e2] X.env=(false,eval e X.env)::starEach [e2] X.env) aR._auto_1)(h2:autoParam (starEach [e2] X.env=(false,eval e2 X.env)::starEach [] X.env) aR._auto_1)(Kb:autoParam ((backTo pos (starEach [e2] X.env)).any (·.1)=false) aR._auto_1):PE X (.Call (.Name "isinstance" p) [e,e2] [] pos) (tE E (ji (λa=>Ts.any λt=>dU a t) ob (λ_=>none) f)):=by
 refine(eI wm hg hm iY (aT he (aT hT cZ h2) h1) ↑12 ↑12 h1 Kb).imp fun σ H Q q=>bx (K:=gu Q) gu.g q λB H₀ Hs H1 env p v sr rp hp=>?_;refine ht2 σ H1 _ λtp hn=>?_;have g:=aP.new (o:=.tup (Ts.map V.ty)) sr.gr.sub hn;rcases l6 hp with ⟨a,ha,q⟩|⟨C,fs,k,rfl,e,q⟩|⟨C,fo,k,rfl,e,q⟩
 .exact⟨v,tp,Ts,_,_,rfl,av,ug g.sub (rp.mono g.st) ha,uP X.K ha ht,q _ _ _ g (.bl _)⟩
 .exact⟨v,tp,Ts,_,_,rfl,av,ue g.sub (rp.mono g.st) (Mi C k e).1,(Mi C k e).2,q _ _ _ g (.bl _)⟩
 .cases e
end
section
open PySem.SeqAt (shaped noMix noMixAll)
mutual
def dat:PV->Option PyData
 | .aJ=>some .none
 | .bl b=>some (.bool b)
 | .int i=>some (.int i)
 | .str x=>some (.str x)
 | .tup xs=>(eJ xs).map .tuple
 | .lst xs=>(eJ xs).map .list
 | .aY xs=>(eJ xs).map .list
 | .obj _ _=>none
 | .exc _ _=>none
 | .emp=>none
 | .t8 _=>none
 |.fn _=>none
def eJ:List PV->Option (List PyData)
 | []=>some []
 |p::r=>(dat p).bind λd=>(eJ r).map (d::·)
end
mutual
theorem Rep.reads{Hs:Hp}(I:Inv X JX σ H s)(sm:aW Hs H):∀{p:PV}{v:V}{u:Value}{d:PyData},Rep Hs p v->RelV v u->dat p=some d->∃as,Reads s.heap u d as
 | _,_,u,d,.aJ,r,e=>by
  cases e;cases (show u=NQ from r);exact⟨_,.none⟩
 | _,_,u,d,.bl b,r,e=>by
  cases e;cases (show u=OP b from r);exact⟨_,.bool b⟩
 | _,_,u,d,.int i,r,e=>by
  cases e;obtain⟨t,rfl⟩:=(show ∃t,u=Rj i t from r);exact⟨_,.int i t⟩
 | _,_,u,d,.str i,r,e=>by
  cases e;obtain⟨t,rfl⟩:=(show ∃t,u=Rk i t from r);exact⟨_,.str i t⟩
 | _,_,u,d,.tup (a:=a) ha hx,r,e=>by
  obtain⟨ds,e2,rfl⟩:=Nf.mp (show (eJ _).map PyData.tuple=some d from e);cases (show u=Nj a from r);obtain⟨J2,r1,⟨o,ho,hc,n,hd⟩,_⟩:=I.tuple (fg.of (sm _ _ ha));obtain⟨as,ra⟩:=aB.reads I sm hx r1 e2;exact⟨_,.tuple ho hc hd (by simpa using ra)⟩
 | _,_,u,d,.lst (a:=a) ha hx,r,e=>by
  obtain⟨ds,e2,rfl⟩:=Nf.mp (show (eJ _).map T3=some d from e);cases (show u=Nj a from r);obtain⟨J2,r1,⟨o,n,ho,hc,_,hd⟩,_⟩:=I.list (fj.of (sm _ _ ha));obtain⟨as,ra⟩:=aB.reads I sm hx r1 e2;exact⟨_,.list ho hc hd (by simpa using ra)⟩
 | _,_,u,d,.aY (a:=a) (o:=ob) ha hx,r,e=>by
  obtain⟨ds,e2,rfl⟩:=Nf.mp (show (eJ _).map T3=some d from e);cases (show u=Nj a from r);obtain⟨J2,r1,⟨o,n,ho,hc,_,hd⟩,_⟩:=I.list (.inl (.inr ⟨ob,sm _ _ ha⟩));obtain⟨as,ra⟩:=aB.reads I sm hx r1 e2;exact⟨_,.list ho hc hd (by simpa using ra)⟩
 | _,_,u,d,.obj _ _,r,e=>by cases e
 | _,_,u,d,.pM _,r,e=>by cases e
 | _,_,u,d,.nF _ _ _,r,e=>by cases e
 | _,_,u,d,.emp _,r,e=>by cases e
 | _,_,u,d,.t8 _ _,r,e=>by cases e
 |_,_,u,d,.fn _,r,e=>by cases e
theorem aB.reads{Hs:Hp}(I:Inv X JX σ H s)(sm:aW Hs H):∀{p:List PV}{v:List V}{u:List Value}{d:List PyData},aB Hs p v->Vals v u->eJ p=some d->∃as,ReadsAll s.heap u d as
 | _,_,_,_,.nil,.nil,e=>by cases e;exact⟨_,.nil⟩
 | _,_,_,d,.cons (p:=p) (ps:=ps) h hr,.cons r rr,e=>by
  obtain⟨d1,e1,e2⟩:=Oq.mp (show (dat p).bind (λd=>(eJ ps).map (d::·))=some d from e);obtain⟨ds,e3,rfl⟩:=Nf.mp e2;obtain⟨as,ra⟩:=Rep.reads I sm h r e1;obtain⟨bs,rb⟩:=aB.reads I sm hr rr e3;exact⟨_,.cons ra rb⟩
end
def AB(d e:PyData):M Bool:=bT (shaped d=true/\shaped e=true/\noMix d e=true) (M.ok (same d e))
def lH(o:Bool->PV)(p q:PV):M PV:=match dat p,dat q with
 | some d,some e=>(AB d e).bind λb=>M.ok (o b)
 |_,_=>none
def lu:PV->PV->M PV:=lH λb=>.bl b
def qp:PV->PV->M PV:=lH λb=>.bl (!b)
def yE(o:Bool->Bool):R2:=λx y H Q=>∃Hs p q d e,aW Hs H/\Rep Hs p x/\Rep Hs q y/\dat p=some d/\dat q=some e/\shaped d=true/\shaped e=true/\noMix d e=true/\Q (.bl (o (same d e))) H
def yR(hu:X.A.units+64<cLine):fm X (compareOp .Eq) (yE id):=by
 intro JX s σ H x y v u Q I rx ry h;obtain⟨Hs,p,q,d,e,sm,rp,rq,hd,he,h1,h2,h3,hq⟩:=h;obtain⟨as,ra⟩:=Rep.reads I sm rp rx hd;obtain⟨bs,rb⟩:=Rep.reads I sm rq ry he;exact eq_dataH_same ra rb h1 h2 hu h3 (iw I hq rfl)
def xU(hu:X.A.units+64<cLine):fm X (compareOp .NotEq) (yE not):=by
 intro JX s σ H x y v u Q I rx ry h;obtain⟨Hs,p,q,d,e,sm,rp,rq,hd,he,h1,h2,h3,hq⟩:=h;obtain⟨as,ra⟩:=Rep.reads I sm rp rx hd;obtain⟨bs,rb⟩:=Rep.reads I sm rq ry he;exact ne_dataH_same ra rb h1 h2 hu h3 (iw I hq rfl)
def yt{o:Bool->Bool}:jg E (yE o) (lH λb=>.bl (o b)):=by
 intro σ Hs H p q v u Q s rp rq h;unfold lH at h
 split at h
 .rename_i d e hd he;have h':=ak.bind h;obtain⟨⟨h1,h2,h3⟩,h⟩:=ak.bT h';exact⟨Hs,p,q,d,e,s,rp,rq,hd,he,h1,h2,h3,cA.flat h s (.bl _)⟩
 .exact h.elim
def BR:jg E (yE id) lu:=yt
def Ce:jg E (yE not) qp:=yt
def iG(xs:List PV)(lo hi:Option Int):List PV:=(xs.drop (HT.cM xs.length 0 lo)).take (HT.cM xs.length xs.length hi-HT.cM xs.length 0 lo)
def aB.cut(r:aB H xs vs)(lo hi:Option Int):aB H (iG xs lo hi) (qZ vs lo hi):=by
 unfold iG qZ;rw[r.length];exact(r.drop _).take _
abbrev FE(Q:Option Int->Hp->Prop):Hp->Hp->Option Int->Prop:=λHs H k=>∀J1 H',aP Hs H J1 H'->Q k H'
def Gq(E:St->XK)(g:aa->M (Option Int)):TO:=fun σ H Q=>tG E g (FE Q) σ H
def PO.imp{e:Option Expr}{t t':TO}(h:PO X e t)(i:∀σ H Q,t' σ H Q->t σ H Q):PO X e t':=λJX s σ H Q I q=>h JX s σ H Q I (i σ H Q q)
def Cn:PV->M (Option Int)
 | .int i=>M.ok (some i)
 |_=>none
def vO:aa->M (Option Int):=λ_=>M.ok none
def j5(f:aa->M PV):aa->M (Option Int):=λenv=>(f env).bind Cn
section
variable{lo hi:Option Expr}{p2:Pos}{f:aa->M PV}{gl gh:aa->M (Option Int)}
theorem FE.g{Q:Option Int->Hp->Prop}:KG (FE Q):=λHs H J1 H' b k g J5 H2 g2=>k J5 H2 (g.trans g2)
def uH:PO X none (Gq E vO):=Bl.imp fun σ H Q q=>by
 obtain⟨B,H₀,Hs,env,sr,q⟩:=q;exact q Hs H (.refl sr.gr.sub)
def uB(he:PE X e (tE E f)):PO X (some e) (Gq E (j5 f)):=(Ab he).imp fun σ H Q q=>bx (K:=FE Q) FE.g q λB H₀ Hs H1 env p v sr rp hp=>by
 cases rp with
 | int i=>exact⟨i,rfl,hp Hs H1 (.refl sr.gr.sub)⟩
 |_=>exact hp.elim
end
def fD(xs:List PV):List PV:=xs.mapIdx λi x=>.tup [.int (i:Nat),x]
section
variable{K:Nb}{fs:aa->M (List PV)}
def oF(hq:∀J1 H',aW J4 J1->aW J1 H'->fj K H' a vs)(hr:aB J4 xs vs):kM (CV K a) J4 (fD xs) where
 stop:=λi Hs H s1 s2 hi=>by
  unfold fD at hi;rw[OV,hr.length] at hi;exact⟨vs,hq Hs H s1 s2,hi⟩
 go:=λi Hs H s1 s2 hi=>by
  unfold fD at hi;rw[OV] at hi;obtain⟨v,e,_⟩:=hr.get (Nd hi);exact⟨vs,v,hq Hs H s1 s2,e⟩
 t5:=λi Hs H x H2 s1 s2 hi y=>by
  unfold fD at hi;rw[OV] at hi;obtain⟨v,e,r⟩:=hr.get (Nd hi);obtain⟨pa,v',hn,rfl,rfl,y1⟩:=y;have z1:=y1 vs (hq Hs H s1 s2);rw[e] at z1;cases z1;have gr:=aP.new (o:=.tup [.int (i:Nat),v]) s2 hn;refine⟨.tup [.int (i:Nat),xs[i]],_,?_,gr,.tup av (.cons (.int _) (.cons ((r.mono s1).mono gr.st) .nil))⟩;unfold fD;rw[RP,Nd hi];rfl
end
end
section
variable{K:Nb}{fs:aa->M (List PV)}
end
section
variable{K:Nb}{fs:aa->M (List PV)}
end
def C7(set:PV->aa->M aa)(f:aa->M PV):aa->M Out:=λenv=>(f env).bind λp=>(set p env).bind λJ0=>M.ok (.nx J0)
variable{ie:Expr}
section
variable{E:XK}{fs:aa->M (List PV)}{f h:aa->M PV}
def Co{g:TG}{set:PV->aa->M aa}(hg:PG X tg g)(LC:wM E g set)(he:PE X e (tE (λ_=>E) f))(hs:autoParam (swapsWithSole [tg] e pos.line X.env=pure false) aR._auto_1)(hw:autoParam (swappedStores [tg] e X.env=pure none) aR._auto_1)(h1:autoParam ((assignEach [tg] X.env).map (·.2)=[assign tg X.env]) aR._auto_1):PS X (.Assign [tg] e pos) (tS E (C7 set f)):=by
 refine(tJ he hg hs hw h1).imp λD σ H q=>fX q λB H₀ Hs H1 env p v sr rp hp=>?_;exact LC B H₀ Hs H1 σ env p v _ _ sr rp ((ak.bind hp).imp (λJ0 he' σ' KN=>he' σ' Hs H1 KN) λ_ z=>z)
def ownAt(i:Nat)(env:aa):M (List PV):=match env[i]? with
 | some (some (.ow xs))=>M.ok xs
 |_=>none
def ak.own{env:aa}{Q:List PV->Prop}{F:EX->Prop}(h:ak (ownAt i env) Q F):∃xs,env[i]?=some (some (.ow xs))/\Q xs:=by
 unfold ownAt at h
 split at h
 .exact⟨_,by assumption,h⟩
 .exact h.elim
def zK(i:Nat)(xs:List PV)(p:PV)(env:aa):PV->M Out
 | .int n=>match vA xs.length n with
  | some j=>M.ok (.nx (env.set i (some (.ow (xs.set j p)))))
  | none=>none
 |_=>none
def Gk(i:Nat)(g f:aa->M PV):aa->M Out:=λenv=>(f env).bind λp=>(ownAt i env).bind λxs=>(g env).bind (zK i xs p env)
def Fy(hi:X.N[i]?=some x)(hv:vI X.env.scope x)(hk:PE X ie (tE (λ_=>E) h))(he:PE X e (tE (λ_=>E) f))(hd:autoParam ↑7 aD._auto_1)(Ko:autoParam ↑6 aD._auto_1)
  (ha:autoParam (∀v,assign (.Subscript (.Name x px) ie pos') X.env v=(do
   let ov <- holding [v] (eval (.Name x px) X.env)
   let iv <- holding [v,ov] (eval ie X.env)
   standAt pos'
   holding [v,ov,iv] (setItem ov iv v)
   release [v,ov,iv] [])) aI._auto_1)
  (hs:autoParam (swapsWithSole [.Subscript (.Name x px) ie pos'] e pos.line X.env=pure false) aR._auto_1) (hw:autoParam (swappedStores [.Subscript (.Name x px) ie pos'] e X.env=pure none) aR._auto_1)
  (h1:autoParam ((assignEach [.Subscript (.Name x px) ie pos'] X.env).map (·.2)=[assign (.Subscript (.Name x px) ie pos') X.env]) aR._auto_1):PS X (.Assign [.Subscript (.Name x px) ie pos'] e pos) (tS E (Gk i h f)):=by
 refine(tJ he (xg (fq hi hv hd Ko) hk set_list ha) hs hw h1).imp λD σ H q=>fX q λB H₀ Hs H1 env p v sr rp hp=>?_;obtain⟨xs,ex,hp⟩:=ak.own (ak.bind hp);obtain⟨a,vs,h1,h2,h3,h4,h5⟩:=sr.ow i xs ex;refine⟨.ref a,h1,B,H₀,Hs,env,sr,(ak.bind hp).imp (λk hk w J5 H2 g2 rk=>?_) λe he=>he.grow sr.gr⟩;have Kd:=sr.grow g2;cases rk with
 | int n =>
  have Me:ak (match vA xs.length n with|some j=>M.ok (Out.nx (env.set i (some (.ow (xs.set j p)))))|none=>none) (KS D B H₀) (XW E B H₀):=hk
  split at Me
  .rename_i j ej;exact⟨a,vs,n,j,rfl,rfl,g2.al _ _ h2,by rwa[<- h5.length],Me σ J5 _ (Kd.put ex h1 ((h5.mono g2.st).set (rp.mono g2.st) j))⟩
  .exact Me.elim
 |_=>exact hk.elim
end
def KO.gr{Q:VK}:KG (KO Q):=λHs H J1 H' b k g vs p J5 H2 g2 r n=>k vs p J5 H2 (g.trans g2) r n
section
variable{J8:List PV->M (List PV)}{p:Pos}{o:Expr}{fs:aa->M (List PV)}{g:aa->M PV}
end
mutual
def rF:PV->Bool
 | .aJ=>true
 | .bl _=>true
 | .int _=>true
 | .str _=>true
 | .tup xs=>pT xs
 |_=>false
def pT:List PV->Bool
 | []=>true
 |p::r=>rF p&&pT r
end
mutual
theorem Rep.away{Hs:Hp}{a:Addr}{ws:List V}(ha:Hs a=some (.lst ws)):∀{p:PV}{v:V},Rep Hs p v->rF p=true->Rep (rem Hs a) p v
 | _,_,.aJ,_=>.aJ
 | _,_,.bl b,_=>.bl b
 | _,_,.int b,_=>.int b
 | _,_,.str b,_=>.str b
 | _,_,.tup (a:=c) h r,n=>by
  have nc:c≠a:=λz=>by subst z;rw[ha] at h;cases h
  exact .tup (by unfold rem;rwa[if_neg nc]) (r.away ha n)
 | _,_,.lst _ _,n=>by cases n
 | _,_,.aY _ _,n=>by cases n
 | _,_,.obj _ _,n=>by cases n
 | _,_,.pM _,n=>by cases n
 | _,_,.nF _ _ _,n=>by cases n
 | _,_,.emp _,n=>by cases n
 | _,_,.t8 _ _,n=>by cases n
 |_,_,.fn _,n=>by cases n
theorem aB.away{Hs:Hp}{a:Addr}{ws:List V}(ha:Hs a=some (.lst ws)):∀{p:List PV}{v:List V},aB Hs p v->pT p=true->aB (rem Hs a) p v
 | _,_,.nil,_=>.nil
 | _,_,.cons h r,n=>by
  have n':=NU.mp (show (rF _&&pT _)=true from n);exact .cons (h.away ha n'.1) (r.away ha n'.2)
end
def xJ:M PV->M PV
 | some (.ok p)=>bT (rF p=true) (M.ok p)
 |_=>none
def w5:M Bool->M Bool
 | some (.ok p)=>M.ok p
 |_=>none
theorem ak.xJ{r:M PV}{Q:PV->Prop}{E:EX->Prop}(h:ak (L2.xJ r) Q E):ak r (λp=>rF p=true/\Q p) (λ_=>False):=by
 cases r with
 | none=>exact h
 | some r=>cases r with
  | error e=>exact h
  | ok p =>
   obtain⟨n,h⟩:=ak.bT h;exact⟨n,h⟩
theorem ak.w5{r:M Bool}{Q:Bool->Prop}{E:EX->Prop}(h:ak (L2.w5 r) Q E):ak r Q (λ_=>False):=by
 cases r with
 | none=>exact h
 | some r=>cases r with
  | error e=>exact h
  |ok p=>exact h
def aP.back{J1 H':Hp}{ws:List V}(h1:Hs a=none)(hH:H a=some (.lst ws))(s:aW Hs H)(g:aP (upd Hs a (.lst ws)) H J1 H'):aP Hs H (rem J1 a) H'/\J1 a=some (.lst ws):=by
 have e:J1 a=some (.lst ws):=g.st _ _ av;refine⟨⟨λc u q=>?_,g.al,λc u q=>?_,λc u q1 q2 q3=>?_⟩,e⟩
 .have nc:c≠a:=λz=>by subst z;rw[h1] at q;cases q
  unfold rem;rw[if_neg nc];exact g.st c u (by rwa[aq nc])
 .unfold rem at q
  split at q
  .cases q
  .exact g.sub c u q
 .unfold rem
  by_cases nc:c=a
  .rw[if_pos nc]
  .rw[if_neg nc];exact g.nw c u (by rwa[aq nc]) q2 q3
def SR.lend{B:Hp}{env:aa}(r:SR B H₀ Hs H σ env)(e:env[i]?=some (some (.ow xs))):∃a vs,Hs a=none/\H a=some (.lst vs)/\SR B H₀ (upd Hs a (.lst vs)) H σ (qA i env):=by
 obtain⟨a,vs,h1,h2,h3,_⟩:=r.Fd e;unfold qA;rw[e];exact⟨a,vs,h1,h2,h3⟩
def ve(i:Nat)(f:aa->M PV):aa->M PV:=λenv=>(ownAt i env).bind λ_=>xJ (f (qA i env))
def oB(i:Nat)(f:aa->M Bool):aa->M Bool:=λenv=>(ownAt i env).bind λ_=>w5 (f (qA i env))
section
variable{f:aa->M PV}{u:aa->M Bool}
def Bh(i:Nat)(he:PE X e (tE E f)):PE X e (tE E (ve i f)):=he.imp fun σ H Q q=>by
 obtain⟨B,H₀,Hs,env,sr,q⟩:=q;obtain⟨xs,ex,q⟩:=ak.own (ak.bind q);obtain⟨a,vs,h3,h2,Kd⟩:=sr.lend ex;refine⟨B,H₀,_,_,Kd,(ak.xJ q).imp (λp hp v J1 H' g r=>?_) λ_ z=>z.elim⟩;obtain⟨g2,ea⟩:=aP.back h3 h2 sr.gr.sub g;exact hp.2 v _ _ g2 (r.away ea hp.1)
def A5(i:Nat)(he:PT X e (tT E u)):PT X e (tT E (oB i u)):=he.imp fun σ H Q q=>by
 obtain⟨B,H₀,Hs,env,sr,q⟩:=q;obtain⟨xs,ex,q⟩:=ak.own (ak.bind q);obtain⟨a,vs,h3,h2,Kd⟩:=sr.lend ex;refine⟨B,H₀,_,_,Kd,(ak.w5 q).imp (λp hp J1 H' g=>?_) λ_ z=>z.elim⟩;obtain⟨g2,ea⟩:=aP.back h3 h2 sr.gr.sub g;exact hp _ _ g2
def EH(i:Nat)(f:aa->M PV):aa->M PV:=λenv=>(ownAt i env).bind λxs=>(f env).bind λk=>aC (.lst xs) k
def ub(hi:X.N[i]?=some x)(hv:vI X.env.scope x)(hk:PE X ie (tE E f))(hs:lK ie)(hd:autoParam ↑7 aD._auto_1)(Ko:autoParam ↑6 aD._auto_1):PE X (.Subscript (.Name x px) ie pos) (tE E (EH i f)):=(BH xQ (fq hi hv hd Ko) hk hs).imp fun σ H Q q=>by
 obtain⟨B,H₀,Hs,env,sr,q⟩:=q;obtain⟨xs,ex,q⟩:=ak.own (ak.bind q);obtain⟨a,vs,h1,h2,h3,h4,h5⟩:=sr.ow i xs ex;refine⟨.ref a,h1,B,H₀,Hs,env,sr,(ak.bind q).imp (λk hk w J5 H2 g2 rk=>?_) λe he=>he⟩;cases rk with
 | int n =>
  obtain⟨y,ey,h⟩:=ak.opt (show ak (fu (oQ xs n)) _ _ from hk);obtain⟨v,e1,e2⟩:=(h5.mono g2.st).oQ ey;exact .inl ⟨a,vs,n,v,rfl,rfl,fj.of (g2.al _ _ h2),e1,h v _ _ g2 e2⟩
 |_=>exact hk.elim
end
def cU:PV->PV->M PV:=ua (λ_ j=>decide (j≠0/\j.natAbs.log2<9000)) λi j=>i.fdiv j
def bN:PV->PV->M PV:=ua (λ_ j=>decide (j≠0)) λi j=>i.fmod j
def sH:PV->PV->M PV:=ua (λi j=>decide (0<=j/\j<=1000000/\i.natAbs<2^64)) λi j=>i^j.toNat
def ED:PV->PV->M PV:=xx λi j=>decide (i<j)
def BL:PV->PV->M PV:=xx λi j=>decide (i<=j)
def z_:PV->PV->M PV:=xx λi j=>decide (j<i)
def BN:PV->PV->M PV:=xx λi j=>decide (j<=i)
def xq:jg E (rI xh λi j=>.int (i.fdiv j)) cU:=AS
def Bw:jg E (rI (λ_ j=>j≠0) λi j=>.int (i.fmod j)) bN:=DH
def A3:jg E (rI DE λi j=>.int (i^j.toNat)) sH:=Dm
def yW:jg E (u6 λi j=>.bl (decide (i<j))) ED:=pq
def ko:jg E (u6 λi j=>.bl (decide (i<=j))) BL:=pq
def yg:jg E (u6 λi j=>.bl (decide (j<i))) z_:=pq
def wZ:jg E (u6 λi j=>.bl (decide (j<=i))) BN:=pq
def bL(n:Nat)(s:List PV->M PV):List PV->M PV:=λps=>bT (ps.length=n) (s ps)
def qV{s:List PV->M PV}{ps:List PV}(h:bL n s ps≠none):ps.length=n:=by
 unfold bL bT at h
 split at h
 .assumption
 .exact(h rfl).elim
variable{dv:Value}
section
variable{K:Nb}
def y8{s:List PV->M PV}(F:aV P w K mg base (cf P w) k f fd ps (gb n s)):aV P w K mg base (cf P w) k f fd ps (gb n (bL n s)) where
 len:=λvs H Q E h=>by
  obtain⟨h0,Hs,qs,sm,r,h⟩:=h;exact F.len vs H Q E ⟨h0,Hs,qs,sm,r,(ak.bT h).2⟩
 run:=λA outer s H args us vs Q E hr e hb rv h=>by
  obtain⟨h0,Hs,qs,sm,r,h⟩:=h;exact F.run A outer s H args us vs Q E hr e hb rv ⟨h0,Hs,qs,sm,r,(ak.bT h).2⟩
structure gf (P:Program) (w:World) (K:Nb) (mg:Str->Option Value) (base:Heap) (n:Nat) (x:Str) (m:Nat) (J8:List PV->M PV):Prop where
 ex:∃(f:Addr)(fd:FuncData)(ps:List Str),mg x=some (.ref f)/\NS K (.ref f)=true/\ps.length=m/\Binds K fd ps []/\aV P w K mg base (cf P w) n f fd ps (gb m (bL m J8))
def bC.JN{st:Stmt}{g:aa->M Out}(F:bC K x qual st dv f fd)(S:bD N ps (aA st))(hb:∀(J6:Value)(A:Around)(outer:List Env)(s:Shared)(H:Hp)(E:XK),bH k (A.deeper (envOfC qual (aA st) s.heap.objs.size f J6))->dG ((gS (cf P w) P w K mg base N qual (aA st) f J6 A outer s H E).out λ_=>E) (λ_=>E)->gP ((gS (cf P w) P w K mg base N qual (aA st) f J6 A outer s H E).out λ_=>E) (cK st) (tS E g)):aV P w K mg base (cf P w) (k+1) f fd ps (gb ps.length (bL ps.length (bb N.length g))):=by
 obtain⟨oc,od,kV,doc,pm,an,J6,ct,LM,rfl,lk,Ko⟩:=F.ex;exact y8 (Du lk Ko S λA outer s H E hr=>hb J6 A outer s H E hr (qX rfl rfl))
end
section
variable{m:Nat}{J8:List PV->M PV}{fs:aa->M (List PV)}{p:Pos}
def gf.call(F:gf X.prog X.w X.K X.mg X.base n x m J8)(hr:bH k X.A)(hn:n<=k)(hg:Gl X x)(O:dG X E)(ha:PA X (e::es) (tL E fs))(Kt:autoParam ↑7 aD._auto_1)(he:autoParam ↑0 aR._auto_1)(Kb:autoParam ↑2 aR._auto_1):PE X (.Call (.Name x p) (e::es) [] pos) (tE E (ai (bL m J8) fs)):=by
 obtain⟨f,fd,ps,h1,h2,h3,h4,h5⟩:=F.ex;have:=AQ (p:=p) (K3:=[]) h5 (hr.mono hn) hg h1 h2 h4 .nil (λ_=>.nil) O (λK_ hp=>by rw[NX] at hp;exact qV hp) ha Kt he Kb;refine this.imp fun σ H Q q=>?_;have e:(λps=>bL m J8 (ps++[]))=bL m J8:=by funext ps;rw[NX]
 rwa[e]
structure AV (P:Program) (w:World) (K:Nb) (mg:Str->Option Value) (base:Heap) (C:Addr) (n:Nat) (x:Str) (m:Nat) (J8:List PV->M PV):Prop where
 ex:∃(f:Addr)(fd:FuncData)(ps:List Str),nV K C/\Meth K C x f/\Binds K fd ps []/\aV P w K mg base (cf P w) n f fd ps (gb m (bL m J8))
def AV.ET{o:Expr}{g:aa->M PV}(F:AV X.prog X.w X.K X.mg X.base C n x m J8)(hr:bH k X.A)(hn:n<=k)(O:dG X E)(ho:PE X o (tE E g))
  (ht:autoParam (eval (.Call (.Attribute o x apos) [] [] pos) X.env=(do
   let ov <- eval o X.env
   standAt apos.atName
   let (f,first) <- holding [ov] (getMethod ov x pl)
   callWith pos f first (backTo pos (starEach [] X.env)) (backToKw pos (keywordEach [] X.env)))) aR._auto_1) :
  PE X (.Call (.Attribute o x apos) [] [] pos) (tE E (cP C x (bL m J8) g aj)):=by
 obtain⟨f,fd,ps,h1,h2,h3,h4⟩:=F.ex;exact yV ho h1 h2 h4 (hr.mono hn) h3 O (λK_ hp=>qV hp) ht
end
structure B5 (P:Program) (w:World) (K:Nb) (mg:Str->Option Value) (base:Heap) (C:Addr) (n:Nat) (x:Str) (m:Nat) (K3:List PV) (J8:Addr->List PV->M (List (Str×PV))):Prop where
 ex:∃(f:Addr)(fd:FuncData)(ps:List Str)(ds:List Value)(Ku:List V),mg x=some (.ref C)/\Mk K C f/\Binds K fd ps ds/\Vals Ku ds/\(∀H,aB H K3 Ku)/\aV P w K mg base (cf P w) n f fd ps (CS m C J8)
def nv(m:Nat)(J8:Addr->List PV->M (List (Str×PV))):Addr->List PV->M (List (Str×PV)):=λa ps=>bT (ps.length+1=m) (J8 a ps)
def we{K:Nb}{s:Addr->List PV->M (List (Str×PV))}(F:aV P w K mg base (cf P w) k f fd ps (CS n C s)):aV P w K mg base (cf P w) k f fd ps (CS n C (nv n s)) where
 len:=λvs H Q E h=>by
  obtain⟨h0,a,dx,us,Hs,H1,qs,e1,e2,e3,e4,e5,sm,r,h⟩:=h;exact F.len vs H Q E ⟨h0,a,dx,us,Hs,H1,qs,e1,e2,e3,e4,e5,sm,r,(ak.bT h).2⟩
 run:=λA outer s H args us vs Q E hr e hb rv h=>by
  obtain⟨h0,a,dx,MF,Hs,H1,qs,e1,e2,e3,e4,e5,sm,r,h⟩:=h;exact F.run A outer s H args us vs Q E hr e hb rv ⟨h0,a,dx,MF,Hs,H1,qs,e1,e2,e3,e4,e5,sm,r,(ak.bT h).2⟩
def bC.JE{K:Nb}{st:Stmt}{g:aa->M Out}(F:bC K x qual st dv f fd)(S:bD N ps (aA st))(hN:0<N.length)(hb:∀(J6:Value)(A:Around)(outer:List Env)(s:Shared)(H:Hp)(E:XK),bH k (A.deeper (envOfC qual (aA st) s.heap.objs.size f J6))->dG ((gS (cf P w) P w K mg base N qual (aA st) f J6 A outer s H E).out λ_=>E) (λ_=>E)->gP ((gS (cf P w) P w K mg base N qual (aA st) f J6 A outer s H E).out λ_=>E) (cK st) (tS E g)):aV P w K mg base (cf P w) (k+1) f fd ps (CS ps.length C (nv ps.length (tY N.length g C))):=by
 obtain⟨oc,od,kV,doc,pm,an,J6,ct,LM,rfl,lk,Ko⟩:=F.ex;exact we <| Bn lk Ko S hN λA outer s H E hr=>hb J6 A outer s H E hr (qX rfl rfl)
section
variable{m:Nat}{fs:aa->M (List PV)}{p:Pos}
def B5.make{J8:Addr->List PV->M (List (Str×PV))}(F:B5 X.prog X.w X.K X.mg X.base C n x m K3 (nv m J8))(hr:bH k X.A)(hn:n+1<=k)(hg:Gl X x)(O:dG X E)(ha:PA X (e::es) (tL E fs))(Kt:autoParam ↑7 aD._auto_1)(he:autoParam ↑0 aR._auto_1)(Kb:autoParam ↑2 aR._auto_1):PE X (.Call (.Name x p) (e::es) [] pos) (tE E (ai (dH C (nv m J8) K3) fs)):=by
 obtain⟨f,fd,ps,ds,Ku,h1,h2,h4,h5,h6,h7⟩:=F.ex;refine AZ (p:=p) h2 h7 (hr.mono hn) hg h1 h4 h5 h6 O (λa K_ hp=>?_) ha Kt he Kb;unfold nv bT at hp
 split at hp
 .rename_i h;rwa [NG] at h
 .exact(hp rfl).elim
end
def eW:Addr->Option Bool:=λ_=>none
def da{P:Addr->Bool->Prop}:∀C b,eW C=some b->P C b:=λ_ _ h=>by cases h
def vr(i:Nat)(hN:autoParam (X.N[i]?=some x) aR._auto_1)(hv:vI X.env.scope x:=by first|exact .inl rfl|exact .inr (.inl rfl)|exact .inr (.inr rfl))(hd:autoParam ↑7 aD._auto_1)(Ko:autoParam ↑6 aD._auto_1):PE X (.Name x pos) (tE E (af i)):=CD hN hv hd Ko
def E9{env:Env}(h:(match e with|.Starred ..=>true|_=>false)=false):starEach (e::es) env=(false,eval e env)::starEach es env:=by
 cases e<;>first|rfl|cases h
section
variable{a b:Expr}{f g:aa->M PV}
end
structure BB (K:Nb) (mg:Str->Option Value) (C:Addr) (x:Str):Prop where
 hc:Qs K C eg "ValueError.__new__"=true
 c:cS K C
 ht:Pf K (.ref C)=some (.type "type")
 kp:NS K (.ref C)=true
 m:mg x=some (.ref C)
structure qf (P:Program) (w:World) (K:Nb) (mg:Str->Option Value) (base:Heap) (C:Addr) (x fl:Str):Prop where
 ex:∃(f:Addr)(fd:FuncData)(ps:List Str),mC K C "ValueError.__new__" f=true/\Pk K (.ref f)=true/\aV P w K mg base (cf P w) 1 f fd ps (wx K C fl)/\Binds K fd ps []
 c:cS K C
 ht:Pf K (.ref C)=some (.type "type")
 kp:NS K (.ref C)=true
 m:mg x=some (.ref C)
section
variable{E:XK}{p:Pos}{fl:Str}{fs:aa->M (List PV)}
def BB.raise(F:BB X.K X.mg C x)(O:dG X λ_=>E)(J3:X.calm=true)(hg:Gl X x)(ha:PA X (e::es) (tL (λ_=>E) fs))(Kt:autoParam ↑7 aD._auto_1)(he:autoParam ↑0 aR._auto_1)(Kb:autoParam ((backTo J7 (starEach es X.env)).any (·.1)=false) aR._auto_1):PS X (.Raise (some (.Call (.Name x p) (e::es) [] J7)) none pos) (tS E (ja C fs)):=wC O J3 F.hc F.c F.ht F.kp hg F.m ha Kt he Kb
def qf.raise(F:qf X.prog X.w X.K X.mg X.base C x fl)(hr:bH k X.A)(hn:2<=k)(O:dG X λ_=>E)(J3:X.calm=true)(hg:Gl X x)(ha:PA X [e] (tL (λ_=>E) fs))(Kt:autoParam ↑7 aD._auto_1)(he:autoParam (starEach [e] X.env=(false,eval e X.env)::starEach [] X.env) aR._auto_1)(Kb:autoParam ((backTo J7 (starEach [] X.env)).any (·.1)=false) aR._auto_1):PS X (.Raise (some (.Call (.Name x p) [e] [] J7)) none pos) (tS E (dg C fl fs)):=by
 obtain⟨f,fd,ps,h1,h2,h3,h4⟩:=F.ex;exact vp O J3 h1 h2 F.c F.ht F.kp h3 (hr.mono hn) h4 hg F.m ha Kt he Kb
end
section
variable{cl:List (Str×Addr)}{wi:TI}{it:aa->M (List PV)}{g:TG}{set:PV->aa->M aa}{f:aa->M PV}{fs:List Str}
variable{E:XK}{py Lf:Pos}
def qJ(J3:X.calm=true)(Ka:closureFor scope X.env=pure cl)(hk:scope.kind=.function)(nc:dM scope.names=true)(lo:e8 scope.names=true)(fh:fc cl scope.names=true)(ag:cX X cl)(fr:fI X scope cl fs js)(hi:PI X tg iter wi)(hv:yH (λ_=>E) wi it)(hg:∀C s₀ H₀ ex JX,PG (lQ X scope cl (ts++fs) C s₀ H₀ ex JX) tg g)(LC:∀E,wM E g set)(so:lg set)(he:∀C s₀ H₀ ex JX,PE (lQ X scope cl (ts++fs) C s₀ H₀ ex JX) elt (tE EF f))(hN:X.N.Nodup)(MT:X.N[i]?=some y)(hy:Loc X.env.scope y)(hs:autoParam ↑5 aI._auto_1)(Mt:autoParam (swapsWith (.ListComp elt [⟨tg,iter,[],0⟩] scope pos) (some (.Name y py)) Lf.line X.env=pure true) aR._auto_1)(hf:autoParam (X.fn y=true\/X.env.scope.names.lookup y=some .local) aF._auto_1):PS X (.Assign [.Name y py] (.ListComp elt [⟨tg,iter,[],0⟩] scope pos) Lf) (tS E (p_ i (dq it set none f ts.length js))):=by
 refine(ux hN MT hy J3 Ka hk nc lo fh ag fr hi hg he hs Mt hf).imp λD σ H q=>?_;refine mj hv LC so ?_;obtain⟨B,H₀,Hs,env,sr,q⟩:=q;refine⟨B,H₀,Hs,env,sr,(ak.bind q).imp (λps hp vs p J1 H' g r n=>?_) λe he=>he.grow sr.gr⟩;exact hp _ J1 _ ((sr.grow g).own r n)
def Ae(J3:X.calm=true)(Ka:closureFor scope X.env=pure cl)(hk:scope.kind=.function)(nc:dM scope.names=true)(lo:e8 scope.names=true)(fh:fc cl scope.names=true)(ag:cX X cl)(fr:fI X scope cl fs js)(hi:PI X tg iter wi)(hv:yH (λ_=>E) wi it)(hg:∀C s₀ H₀ ex JX,PG (lQ X scope cl (ts++fs) C s₀ H₀ ex JX) tg g)(LC:∀E,wM E g set)(so:lg set)(he:∀C s₀ H₀ ex JX,PE (lQ X scope cl (ts++fs) C s₀ H₀ ex JX) elt (tE EF f))(hN:X.N.Nodup)(MT:X.N[i]?=some y)(hy:Loc X.env.scope y)(hs:autoParam ↑5 aI._auto_1)(Mt:autoParam (swapsWith (.ListComp elt [⟨tg,iter,[],0⟩] scope pos) (some (.Name y py)) Lf.line X.env=pure true) aR._auto_1)(hf:autoParam (X.fn y=true\/X.env.scope.names.lookup y=some .local) aF._auto_1):PS X (.Assign [.Name y py] (.ListComp elt [⟨tg,iter,[],0⟩] scope pos) Lf) (tS E (bO i (fZ (dq it set none f ts.length js)))):=by
 refine(ux hN MT hy J3 Ka hk nc lo fh ag fr hi hg he hs Mt hf).imp λD σ H q=>?_;refine mj hv LC so ?_;obtain⟨B,H₀,Hs,env,sr,q⟩:=q;refine⟨B,H₀,Hs,env,sr,(ak.bind (ak.bind q)).imp (λps hp vs p J1 H' g r n=>?_) λe he=>he.grow sr.gr⟩;have gn:=aP.new (o:=.lst vs) g.sub n;exact hp _ _ _ ((sr.grow (g.trans gn)).set (.lst av (r.mono gn.st)))
end
section
variable{a:Expr}{ta:TA}{p:Pos}
end
section
variable{fs:aa->M (List PV)}{a:Expr}{p p2 pos2:Pos}
end
section
open AutoSeq1 (wpAny_loadPart')
def wJ(l:Addr)(JZ:Array Value)(n:Nat)(t8:Option Addr)(sl:Array (Option Value)):Meets (Builtin.«enumerate.__new__» ⟨[.type "enumerate",.ref l],[]⟩) (λ_ R s=>s.heap.get? l=some { cls:=.type "tuple",dict:=t8,data:=.seq JZ n,slots:=sl } ∧R (.ok (.ret (.ref (s.heap.push { cls:=.type "tuple_iterator",data:=.fields #[.ref l,.int 0 0] }).objs.size))) { s with heap:=(s.heap.push { cls:=.type "tuple_iterator",data:=.fields #[.ref l,.int 0 0] }).push { cls:=.type "enumerate",data:=.fields #[.none,.bool false,.ref s.heap.objs.size,rawInt 0,.none,.none] } }) :=
 .of_wp λprog w A R s h=>by
  obtain⟨hp,g,d,tk,os⟩:=s;obtain⟨hl,h⟩:=h;have hsub:=sub_enumerate;have hL:Heap.IsTuple (Te ⟨hp,g,d,tk,os⟩) l JZ:=⟨_,hl,rfl,n,rfl⟩
  wp_walk using QF hl
  refine wpAny_stack_any λst=>Nh ?_
  split
  .rename_i c _ _ _ _ _;cases (c==Ov "enumerate")
   .wp_walk using QF hl,Pb hL
    exact⟨_,rfl,h⟩
   .wp_walk using QF hl,Pb hL
    exact⟨_,rfl,h⟩
  .wp_walk using QF hl,Pb hL
   exact⟨_,rfl,h⟩
section
variable{E:Value->Shared->Prop}
def uk(hL:s.heap.IsTuple l JZ)(h:∀h',IsEnum h' (s.heap.objs.size+1) s.heap.objs.size 0 .none->h'.IsTupleIter s.heap.objs.size l 0->h'.objs.size=s.heap.objs.size+2 ->(∀b o,s.heap.get? b=some o->h'.get? b=some o)->Q (.ref (s.heap.objs.size+1)) { s with heap:=h' }):wpAny ↑11 A (call (.type "enumerate") [.ref l]) Q E s:=by
 obtain⟨⟨c,t8,dt,sl⟩,hl,hc,n,hd⟩:=hL
 replace hc:c=.type "tuple" := hc
 replace hd:dt=.seq JZ n:=hd
 subst hc hd;refine callType_new F.called_enumerate ↑12 (F.typeCall_enumerate_1 _) (F.newCall_enumerate_1 _) (λobj=>F.args_object_init_2 obj _) F.entry_enumerate_new
  (wJ l JZ n t8 sl) ⟨hl,?_⟩
 have hz:(s.heap.push { cls:=.type "tuple_iterator",data:=.fields #[.ref l,.int 0 0] }).objs.size=s.heap.objs.size+1:=N4 ..;show _/\_;rw[hz];have he:IsEnum ((s.heap.push { cls:=.type "tuple_iterator",data:=.fields #[.ref l,.int 0 0] }).push
   { cls:=.type "enumerate",data:=.fields #[.none,.bool false,.ref s.heap.objs.size,rawInt 0,.none,.none] }) (s.heap.objs.size+1) s.heap.objs.size 0 .none:=by
  have:=Nq (s.heap.push { cls:=.type "tuple_iterator",data:=.fields #[.ref l,.int 0 0] })
   (o:={ cls:=.type "enumerate",data:=.fields #[.none,.bool false,.ref s.heap.objs.size,rawInt 0,.none,.none] }) rfl
  rwa[hz] at this
 refine⟨⟨_,he,rfl⟩,h _ he ⟨_,Nc _ (Nq _ rfl),rfl,rfl⟩ (by rw[N4,hz]) λb o x=>Nc _ (Nc _ x)⟩
end
def Cp(hh:A.handled=none)(it t:Addr)(JZ:Array Value):Draws prog w A it [it,t] JZ.size (λi v=>JZ[i]?=some v) (λi h=>h.IsTupleIter it t i/\h.IsTuple t JZ) where
 live:=λ_ _ st=>let ⟨⟨o,ho,_⟩,_⟩:=st;⟨o,ho⟩
 frame:=λ_ _ _ st hk=>by
  obtain⟨⟨o,ho,r⟩,⟨o2,LL,r2⟩⟩:=st;exact⟨⟨o,hk it ↑13 o ho,r⟩,⟨o2,hk t ↑13 o2 LL,r2⟩⟩
 item:=λi s Q E hi st hQ=>by
  obtain⟨st,tt⟩:=st;refine fQ st tt (x:=JZ[i]) (by simp[hi]) λh' Mo MC=>?_;refine hQ _ h' s.toks (by simp[hi]) ⟨Mo,?_⟩ MC;obtain⟨o,ho,c1,_⟩:=st;obtain⟨o2,LL,c2,r2⟩:=tt;refine⟨o2,(MC.2 t λz=>?_).trans LL,c2,r2⟩;rw[z,ho] at LL;cases LL;rw[c1] at c2;exact absurd c2 ↑12
 done:=λs Q E st hE=>dS hh st.1 st.2 ↑13 hE
def Dx (K : Nb)(a : Addr) : It :=
  ⟨λi H => ∃xs x,fg K H a xs /\ xs[i]? = some x,
   λi H y H' => ∃p x,H p=none /\ y=.ref p /\ H'=upd H p (.tup [.int i,x]) /\ ∀xs,fg K H a xs -> xs[i]? = some x,
   λi H => ∃xs,fg K H a xs /\ xs.length <= i⟩
theorem tM{K:Nb}{tp:Pos}(a e it:Addr)(LP:e≠it):Turn P w K (.Tuple elts x1 tp) (Dx K a) [e,it] e (λi h=>(∃old,IsEnum h e it i old)/\h.IsTupleIter it a i) where
 mem:=by simp
 obj:=λi h st b hb=>by
  obtain⟨⟨old,he⟩,⟨o,e1,c,d⟩⟩:=st;rcases NB.mp hb with z|z
  .subst z;exact⟨_,he,λv z=>by cases z⟩
  .have z':b=it:=by simpa using z
   subst z';exact⟨o,e1,λv z=>by rw[d] at z;cases z⟩
 keep:=λi h h' st k=>by
  obtain⟨⟨old,he⟩,⟨o,ho,r⟩⟩:=st;exact⟨⟨old,k e ↑13 _ he⟩,⟨o,k it ↑13 o ho,r⟩⟩
 item:=by
  intro X hP hw hK hc i JX s σ H E I hf st hg;subst hP hw hK;obtain⟨xs,x,hq,hx⟩:=hg;obtain⟨J2,rv,p,hz⟩:=I.tuple hq;obtain⟨u,hu,ru⟩:=rv.get hx;obtain⟨⟨old,he⟩,hit⟩:=st;have LX:e<s.heap.objs.size:=Nk he;have Mn:it<s.heap.objs.size:=by obtain⟨_,z,_⟩:=hit;exact Nk z
  have hea:e ∉ [it,a]:=λz=>by
   rcases NB.mp z with z|z
   .exact LP z
   .obtain⟨o,ho,c,_⟩:=p;rw[<- N3.mp z,he] at ho;cases ho;exact absurd (show Ov "enumerate"=Ov "tuple" from c) ↑12
  have hi':i<J2.toArray.size:=by
   have:=(NY.mp hu).1;simpa using this
  refine wpAny_pyNext_enum_itemD (Cp (A:=X.A.in1) (I.ok.hd hc) it a J2.toArray) he ⟨hit,p⟩ hi' LP hea λu' h' tk hu' ho KA hT La hk=>⟨_,rfl,?_⟩
  have eu:u'=u:=by
   rw[List.getElem?_toArray,hu] at hu';exact(Nx hu').symm
  subst eu;refine Q2 (s:={ s with heap:=h',toks:=tk+1 }) ho λh2 he2 KQ=>?_;have L5:∀b o,b ∉ [e,it]->s.heap.get? b=some o->h2.get? b=some o:=λb o hb q=>by
   have n1:b≠e:=λz=>hb (by simp[z]);have n2:b≠it:=λz=>hb (by simp[z]);exact(KQ.2 b n1).trans (hk b o n1 n2 q)
  have Mb:h2.get? s.heap.objs.size=some { cls:=.type "tuple",data:=.seq #[.int i tk,u'] }:=(KQ.2 _ (O_ LX)).trans hT;have I2:Inv X JX σ (upd H s.heap.objs.size (.tup [.int i,x])) { s with heap:=h2,toks:=tk+1 } :=
   I.kN (ch:=[e,it]) L5 hf (Np _) (λb hb=>by
    rcases NB.mp hb with z|z
    .subst z;exact⟨_,he⟩
    .have z':b=it:=by simpa using z
     subst z';obtain⟨o,z,_⟩:=hit;exact⟨o,z⟩)
    ⟨by show 2<=sizeLine;decide,[.int i tk,u'],.cons ⟨_,rfl⟩ (.cons ru .nil),⟨_,Mb,rfl,_,rfl⟩⟩
  have K4:H s.heap.objs.size=none:=I.bo.fresh (Np _);obtain⟨oi,hoi,ri⟩:=KA.1;refine⟨.ref s.heap.objs.size,_,I2,rfl,⟨_,x,K4,rfl,rfl,λys hy=>by rwa[I.kT hy hq]⟩,⟨⟨u',by simpa using he2⟩,⟨oi,(KQ.2 it (OL LP)).trans hoi,ri⟩⟩,λb hb=>?_⟩;have nb:b≠s.heap.objs.size:=by
   rcases NB.mp hb with z|z
   .rw[z];exact Ny LX
   .have z':b=it:=by simpa using z
    rw[z'];exact Ny Mn
  rw[aq nb];exact(hf b hb).1
 done:=by
  intro X hP hw hK hc i JX s σ H E I hf st hg;subst hP hw hK;obtain⟨xs,hq,hx⟩:=hg;obtain⟨J2,rv,p,hz⟩:=I.tuple hq;have hl:=rv.length;obtain⟨⟨old,he⟩,hit⟩:=st;obtain⟨f0,f1,f2,f3,f4,f5⟩:=hf it ↑13;have hT:s.TypeIs (.ref e) "enumerate" := ⟨_,he,rfl⟩
  unfold pyNext;refine Na (Qp (N7 (name:=NF "__next__") hT F.slot_enumerate_next
   (OO F.slot_enumerate_next hT F.entry_enumerate_next ?_ (F.args_enumerate_next_1 _))))
  show wpAny _ _ (field (.ref e) 2 >>= _) _ _ _;refine Na (NK he rfl (x:=.ref it) rfl ?_);refine Na (dS (I.ok.hd hc) hit p (by simp;lia) λh' x he' hx'=>?_);obtain⟨o,ho,Md⟩:=hx';refine Na (wpAny_isInstance (T := "StopIteration") (b:=true) ⟨o,ho,Md⟩ isSubtype_stop ?_);exact Nh ⟨rfl,I.turned (t':=s.toks) (λb o hb e=>he' b o hb e) f0 f1 f3 f4 f5⟩
 self:=λ_ _ _ _ _ st h=>by
  obtain⟨⟨old,he⟩,_⟩:=st;exact Qa he h
def FU(K:Nb)(tl:TA):TI:=fun σ H R=>tl σ H λvs H1=>∃a,vs=[.ref a]/\(((∃xs,fj K H1 a xs)/\R (CV K a) H1)\/((∃xs,fg K H1 a xs)/\R (Dx K a) H1))
def yb{tp:Pos}{l:Expr}{p:Pos}(hg:Gl X "enumerate")(hm:X.mg "enumerate"=none)(hl:PA X [l] tl)(hs:autoParam (starEach [l] X.env=[(false,eval l X.env)]) aR._auto_1):PI X (.Tuple elts x1 tp) (.Call (.Name "enumerate" p) [l] [] pos) (FU X.K tl):=by
 intro JX s σ H R I h;refine Call_ (kF I hg hm PyProof.Rows.boot_enumerate (OM (cn (hl pos JX s σ H _ I h) λus s1 ⟨vs,H1,I1,r1,q1⟩=>?_) hs rfl));obtain⟨a,e,q⟩:=q1;subst e;cases r1 with
 | cons r rr =>
  cases rr;cases (show _=Nj a from r);have fp:∀b∈[s1.heap.objs.size+1,s1.heap.objs.size],kb X JX H1 b:=λb hb=>by
   rcases NB.mp hb with z|z
   .subst z;exact I1.sD (Qx _) (I1.bo.fresh (Qx _))
   .have z':b=s1.heap.objs.size:=by simpa using z
    subst z';exact I1.sD (Np _) (I1.bo.fresh (Np _))
  rcases q with ⟨⟨xs,hq⟩,q⟩|⟨⟨xs,hq⟩,q⟩
  .obtain⟨J2,rv,pl,hz⟩:=I1.list hq;refine call_enumerate_list pl.isList λh' he hit La hk=>?_;refine Qa (s:={ s1 with heap:=h' }) he ?_;exact⟨s1.heap.objs.size+1,[s1.heap.objs.size+1,s1.heap.objs.size],_,_,H1,rfl,I1.kept (t':=s1.toks) hk,wI a _ _ (S8 _),⟨⟨_,he⟩,hit⟩,fp,q⟩
  .obtain⟨J2,rv,pl,hz⟩:=I1.tuple hq;refine uk pl λh' he hit La hk=>?_;refine Qa (s:={ s1 with heap:=h' }) he ?_;exact⟨s1.heap.objs.size+1,[s1.heap.objs.size+1,s1.heap.objs.size],_,_,H1,rfl,I1.kept (t':=s1.toks) hk,tM a _ _ (S8 _),⟨⟨_,he⟩,hit⟩,fp,q⟩
def Hl(p:PV):M (List PV):=match aS p with
 | some xs=>M.ok (fD xs)
 |none=>none
def Fm:List PV->M (List PV)
 | [p]=>Hl p
 |_=>none
section
variable{K:Nb}{fs:aa->M (List PV)}
def zb(hq:∀J1 H',aW J4 J1->aW J1 H'->fg K H' a vs)(hr:aB J4 xs vs):kM (Dx K a) J4 (fD xs) where
 stop:=λi Hs H s1 s2 hi=>by
  unfold fD at hi;rw[OV,hr.length] at hi;exact⟨vs,hq Hs H s1 s2,hi⟩
 go:=λi Hs H s1 s2 hi=>by
  unfold fD at hi;rw[OV] at hi;obtain⟨v,e,_⟩:=hr.get (Nd hi);exact⟨vs,v,hq Hs H s1 s2,e⟩
 t5:=λi Hs H x H2 s1 s2 hi y=>by
  unfold fD at hi;rw[OV] at hi;obtain⟨v,e,r⟩:=hr.get (Nd hi);obtain⟨pa,v',hn,rfl,rfl,y1⟩:=y;have z1:=y1 vs (hq Hs H s1 s2);rw[e] at z1;cases z1;have gr:=aP.new (o:=.tup [.int (i:Nat),v]) s2 hn;refine⟨.tup [.int (i:Nat),xs[i]],_,?_,gr,.tup av (.cons (.int _) (.cons ((r.mono s1).mono gr.st) .nil))⟩;unfold fD;rw[RP,Nd hi];rfl
def uX:yH E (FU K (tL E fs)) (oN Fm fs):=by
 intro σ H R q;refine eO (K:=KI R) KI.g q λB H₀ Hs H1 env ps v sr rp hp=>?_
 match ps,rp,hp with
 | [],_,hp=>exact hp.elim
 | _::_::_,_,hp=>exact hp.elim
 | [p],rp,hp =>
  obtain⟨w,rfl,Lz⟩:=rp.one;cases Lz with
  | lst ha hx=>exact⟨_,rfl,.inl ⟨⟨_,fj.of (sr.gr.sub _ _ ha)⟩,hp _ Hs H1 (.refl sr.gr.sub) (oF (λJ1 H' s1 s2=>fj.of (s2 _ _ (s1 _ _ ha))) hx)⟩⟩
  | aY ha hx=>exact⟨_,rfl,.inl ⟨⟨_,.inl (.inr ⟨_,sr.gr.sub _ _ ha⟩)⟩,hp _ Hs H1 (.refl sr.gr.sub) (oF (λJ1 H' s1 s2=>.inl (.inr ⟨_,s2 _ _ (s1 _ _ ha)⟩)) hx)⟩⟩
  | tup ha hx=>exact⟨_,rfl,.inr ⟨⟨_,fg.of (sr.gr.sub _ _ ha)⟩,hp _ Hs H1 (.refl sr.gr.sub) (zb (λJ1 H' s1 s2=>fg.of (s2 _ _ (s1 _ _ ha))) hx)⟩⟩
  |_=>exact hp.elim
end
end
def IJ(E:St->XK)(f:aa->M Out):TS:=λD σ H=>∃B H₀ Hs env,SR B H₀ Hs H σ env/\ak (f env) (KS D B H₀) (XW (E σ) Hs H)
def vS{f:aa->M PV}{g:aa->PV->M Out}{D:Ends}{R:VK}(h:IJ E (λenv=>(f env).bind (g env)) D σ H)(k:∀B H₀ Hs H1 env p v,SR B H₀ Hs H1 σ env->Rep Hs p v->ak (g env p) (KS D B H₀) (λ_=>True)->R v H1):tE E f σ H R:=by
 obtain⟨B,H₀,Hs,env,sr,h⟩:=h;refine⟨B,H₀,Hs,env,sr,(ak.bind h).imp (λp hp v J1 H' g r=>?_) λe he=>he⟩;exact k B H₀ J1 H' env p v (sr.grow g) r (hp.imp (λ_ z=>z) λ_ _=>trivial)
section
variable{f:aa->M PV}
def Aa(he:PE X e (tE E f))(hs:autoParam (swapsWith e none pos.line X.env=pure false) aR._auto_1):gP X [.Expr e pos] (IJ E (nu f)):=by
 intro JX s σ H D I q;exact bP (jI he hs) gF JX s σ H D I (vS q λB H₀ Hs H1 env p v sr rp hp=>hp σ Hs H1 sr)
end
def SR.unset{B:Hp}{env:aa}(r:SR B H₀ Hs H σ env):SR B H₀ Hs H (σ.set i none) (env.set i none) :=
 r.chg r.gr (λ_ _ q=>q) (λ_ e=>nomatch e) (λ_ _ _ _ _ _ _ _ h1 h2 _=>⟨h1,h2⟩) λ_ e=>nomatch e
section
variable{f:aa->M PV}
end
abbrev Cx.mn(X:Cx)(pn:List (Addr×Obj)):Cx:={ X with pn:=pn }
abbrev Cx.hand(X:Cx)(ea:Addr):Cx:={ X with A:=X.A.mark (some (.ref ea)),calm:=false,xe:=λ_ _=>False }
section
variable{Lp:List (Addr×Obj)}{ea:Addr}
theorem Cx.Ok.mn(ok:X.Ok)(pn:List (Addr×Obj)):(X.mn pn).Ok:=⟨ok.mod,ok.kind,ok.glob,ok.blt,ok.above,ok.inj,ok.has,ok.Cb,ok.hd,ok.frames,ok.CI,ok.EE,ok.bs,ok.yM,ok.qE,ok.rM,ok.iQ,ok.zU⟩
def Cx.Ok.l5{pn:List (Addr×Obj)}(ok:(X.mn pn).Ok):X.Ok:=⟨ok.mod,ok.kind,ok.glob,ok.blt,ok.above,ok.inj,ok.has,ok.Cb,ok.hd,ok.frames,ok.CI,ok.EE,ok.bs,ok.yM,ok.qE,ok.rM,ok.iQ,ok.zU⟩
theorem Cx.Ok.hand(ok:X.Ok)(ea:Addr):(X.hand ea).Ok:=⟨ok.mod,ok.kind,ok.glob,ok.blt,ok.above,ok.inj,ok.has,ok.Cb,(λz=>nomatch z),ok.frames,ok.CI,ok.EE,ok.bs,ok.yM,ok.qE,ok.rM,ok.iQ,ok.zU⟩
theorem Inv.mn(I:Inv X JX σ H s):Inv (X.mn (X.pn++JX)) [] σ H s:=⟨I.ok.mn _,I.os,I.bare,I.base,I.loc,I.cell,I.free,I.eQ,(λp hp=>I.pin p (by rwa[NX] at hp)),I.bo,I.len⟩
theorem Inv.l5(I:Inv (X.mn (X.pn++JX)) Lp σ H s):Inv X JX σ H s:=⟨I.ok.l5,I.os,I.bare,I.base,I.loc,I.cell,I.free,I.eQ,(λp hp=>I.pin p (Qu _ hp)),I.bo,I.len⟩
theorem Inv.hand(I:Inv X JX σ H s)(ea:Addr):Inv (X.hand ea) JX σ H s:=⟨I.ok.hand ea,I.os,I.bare,I.base,I.loc,I.cell,I.free,I.eQ,I.pin,I.bo,I.len⟩
def Inv.fW(I:Inv (X.hand ea) JX σ H s)(ok:X.Ok):Inv X JX σ H s:=⟨ok,I.os,I.bare,I.base,I.loc,I.cell,I.free,I.eQ,I.pin,I.bo,I.len⟩
def Inv.yi{fl:Value}(I:Inv X JX σ (kc Hc ea T C dd fl) s)(h1:Hc ea=some (fz C dd ea))(h2:Hc T=none)(h3:T≠ea):Inv X JX σ Hc s:=by
 have no:∀b,kc Hc ea T C dd fl b=none->Hc b=none:=λb e=>by
  by_cases z:b=ea
  .rw[z,nq] at e;cases e
  .by_cases z2:b=T
   .rw[z2];exact h2
   .rw[gK z z2] at e;exact e
 have so:∀b o,kc Hc ea T C dd fl b=some o->(∀φ,o≠.ext φ)->Hc b=some o:=λb o e n=>by
  by_cases z:b=ea
  .rw[z,nq] at e;cases e;exact absurd rfl (n _)
  .by_cases z2:b=T
   .rw[z2,mU h3] at e;cases e;exact absurd rfl (n _)
   .rw[gK z z2] at e;exact e
 refine⟨I.ok,I.os,I.bare,⟨I.base.keep,I.base.slot,λb o e n hx=>no b (I.base.free b o e n hx),I.base.there,λb xs e=>so b _ (I.base.lJ b xs e) (λ_ z=>nomatch z),λb o u e=>so b _ (I.base.iH b o u e) (λ_ z=>nomatch z),λb ps e=>?_⟩,I.loc,I.cell,no _ I.free,λx c e=>no _ (I.eQ x c e),λp hp=>?_,λb o e=>?_,I.len⟩
 .obtain⟨more,q⟩:=I.base.lF b ps e;exact⟨more,so b _ q λ_ z=>nomatch z⟩
 .obtain⟨e,n,r⟩:=I.pin p hp;exact⟨e,no _ n,r⟩
 .by_cases z:b=ea
  .subst z;rw[h1] at e;cases e;obtain⟨vs,_,_,hx,_⟩:=I.wG h3;exact Ar hx
  .by_cases z2:b=T
   .rw[z2,h2] at e;cases e
   .refine(I.bo b o (by rwa[gK z z2])).jd (λ_ _ _ q=>q) (λc q=>so c _ q λ_ z=>nomatch z) λc xs q=>so c _ q λ_ z=>nomatch z
def Inv.gone{E:Value->Shared->Prop}{n:Str}{Q:Unit->Shared->Prop}(I:Inv X JX σ H s)(hN:X.N.Nodup)(hi:X.N[i]?=some n)(hx:X.env.scope.names.lookup n=some .local)
  (h:∀s',Inv X JX (σ.set i none) H s'->Q () s'):wpAny ↑8 A (do bindName X.env n .none;unbindBehindTheSuite X.env n pos) Q E s:=by
 obtain⟨m,hn,hl⟩:=id I.loc;have yp:=I.yp;refine wpAny_nameGoes_keeps hx hn (by rw[I.ok.kind];rfl) λh' v MX hs=>?_;obtain⟨oL,_,_,hoL,_⟩:=id hn;have tracked:j9 X.prog X.w H h':=λb ob e=>by
  refine(I.bo b ob e).jd (λc w' hc q=>(hs.2 c ?_).trans q) (λ_ q=>q) λ_ _ q=>q;rintro rfl;rcases hc with z|hc
  .rw[<- z,I.free] at e;cases e
  .rw[I.free] at hc;cases hc
 refine h _ ⟨I.ok,I.os,I.bare,⟨λb o e n hb hx=>?_,λb o e n hb hx=>?_,I.base.free,λb o e hx=>?_,I.base.lJ,I.base.iH,I.base.lF⟩,⟨_,MX,λj y v' e1 e2 e3=>?_⟩,λy c e=>?_,I.free,I.eQ,λp hp=>?_,tracked,by simpa using I.len⟩
 .exact(hs.2 b (Ny (Nr (Nk e) I.ok.above))).trans (I.base.keep b o e n hb hx)
 .obtain⟨sl,e1⟩:=I.base.slot b o e n hb hx;exact⟨sl,(hs.2 b (Ny (Nr (Nk e) I.ok.above))).trans e1⟩
 .obtain⟨o',e1⟩:=I.base.there b o e hx;exact⟨o',(hs.2 b (Ny (Nr (Nk e) I.ok.above))).trans e1⟩
 .have hj:i≠j:=λz=>by
   subst z;rw[Oe,if_pos rfl] at e2
   split at e2<;>cases e2
  rw[Qw hj] at e2;obtain⟨u',r',q⟩:=hl j y v' e1 e2 e3;refine⟨u',r',?_⟩;rcases q with ⟨k,e⟩|⟨k,c,e,z⟩
  .refine .inl ⟨k,?_⟩;have:y≠n:=λe=>hj (mJ hN hi (e▸e1));simp[this,e]
  .exact .inr ⟨k,c,e,z.sameBut hs (yp y c e)⟩
 .obtain⟨w',z⟩:=I.cell y c e;exact⟨w',z.sameBut hs (yp y c e)⟩
 .obtain⟨e,n,ne,nf,d⟩:=I.pin p hp;exact⟨(hs.2 p.1 ne).trans e,n,ne,nf,d⟩
end
abbrev Hd:=(Addr->Option Bool)×Option Nat×(aa->M Out)
def sO(i:Nat):Out->Out
 | .nx e=>.nx (e.set i none)
 | .bk e=>.bk (e.set i none)
 | .ct e=>.ct (e.set i none)
 |.rt p=>.rt p
def qB(o:Option Nat)(h:aa->M Out)(x:EX)(env:aa):M Out:=match o with
 | none=>wL (h env)
 |some i=>(wL (h (env.set i (some (.sh (.exc x.1 x.2)))))).bind λout=>M.ok (sO i out)
def rJ(b:Option Bool)(x y:M Out):M Out:=match b with
 | some true=>x
 | some false=>y
 |none=>none
def hX:List Hd->EX->aa->M Out
 | [],_,_=>none
 |(t,o,h)::r,x,env=>rJ (t x.1) (qB o h x env) (hX r x env)
def zw(r:M Out)(k:EX->M Out):M Out:=match r with
 | some (.error x)=>k x
 |r=>r
def Bj(f:aa->M Out)(hs:List Hd):aa->M Out:=λenv=>zw (f env) λx=>hX hs x env
inductive Cc (X:Cx) (E:XK):List ExceptHandler->List Hd->Prop where
 | nil:Cc X E [] []
 | FR {x:Str} {np pos:Pos} {b₀:Stmt} {K2:List Stmt} {rest:List ExceptHandler} {t:Addr->Option Bool} {h:aa->M Out} {hs:List Hd} {D:Addr} (hg:Gl X x) (hm:X.mg x=some (.ref D)) (hd:(x==("__debug__" : Str))=false)
   (ht:∀C b,t C=some b->Qe X.K (.ref C) (.ref D)=some b) (hb:∀ea,gP (X.hand ea) (b₀::K2) (tS E h)) (r:Cc X E rest hs):Cc X E (.ExceptHandler (some (.Name x np)) none (b₀::K2) pos::rest) ((t,none,h)::hs)
 | BF {x n:Str} {i:Nat} {np pos:Pos} {b₀:Stmt} {K2:List Stmt} {rest:List ExceptHandler} {t:Addr->Option Bool} {h:aa->M Out} {hs:List Hd} {D:Addr} (hg:Gl X x) (hm:X.mg x=some (.ref D)) (hd:(x==("__debug__" : Str))=false)
   (hN:X.N.Nodup) (hi:X.N[i]?=some n) (hx:X.env.scope.names.lookup n=some .local)
   (ht:∀C b,t C=some b->Qe X.K (.ref C) (.ref D)=some b) (hb:∀ea,gP (X.hand ea) (b₀::K2) (tS E h)) (r:Cc X E rest hs):Cc X E (.ExceptHandler (some (.Name x np)) (some n) (b₀::K2) pos::rest) ((t,some i,h)::hs)
variable{hd:List Hd}{MW:List ExceptHandler}
section
variable{B:Hp}{ea:Addr}{E:XK}{env:aa}{fo:Option (List (Str×PV))}{D:Ends}{F:Value->Shared->Prop}
theorem SP.fW{D:Ends}{f:Flow}{s':Shared}(h:SP (X.hand ea) JX D f s')(ok:X.Ok):SP X JX D f s':=by
 cases f with
 | next=>obtain⟨σ',H',I,q⟩:=h;exact⟨σ',H',I.fW ok,q⟩
 | brk=>obtain⟨σ',H',I,q⟩:=h;exact⟨σ',H',I.fW ok,q⟩
 | cont=>obtain⟨σ',H',I,q⟩:=h;exact⟨σ',H',I.fW ok,q⟩
 |ret u=>obtain⟨v,σ',H',I,r,q⟩:=h;exact⟨v,σ',H',I.fW ok,r,q⟩
def ak.err{r:M α}{Q:α->Prop}(h:ak r Q (λ_=>False)):ak r Q E':=h.imp (λ_ z=>z) λ_ z=>z.elim
def Ends.gone(D:Ends)(i:Nat):Ends:=⟨fun σ H=>D.nx (σ.set i none) H,D.rt,fun σ H=>D.bk (σ.set i none) H,fun σ H=>D.ct (σ.set i none) H⟩
theorem KS.gone{i:Nat}{o:Out}(h:KS D B H₀ (sO i o)):KS (D.gone i) B H₀ o:=by
 cases o with
 | nx e=>exact fun σ Hs H sr=>h _ Hs H sr.unset
 | bk e=>exact fun σ Hs H sr=>h _ Hs H sr.unset
 | ct e=>exact fun σ Hs H sr=>h _ Hs H sr.unset
 |rt p=>exact h
def xn{M:Model}{o:Obj}(hx:s.heap.get? ea=some o):PB M s.heap (typeOf (.ref ea)) o.cls:=by
 intro A Q E s' k q;exact xS (k _ _ hx) q
def Cc.run(hh:Cc X E MW hd):∀{s:Shared},Inv X JX σ (kc Hc ea T C dd .none) s->Hc ea=some (fz C dd ea)->Hc T=none->T≠ea->SR B H₀ Hs Hc σ env->Rep Hs (.exc C fo) (.ref ea) ->ak (hX hd (C,fo) env) (KS D B H₀) Z->wpAny ↑8 X.A (handleBy (.ref ea) X.env MW) (SP X JX D) F s:=by
 induction hh with
 | nil=>intro s I h1 h2 h3 sr rp q;exact q.elim
 | @FR x np pos b₀ K2 rest t h hs Dc hg hm hd ht hb r ih =>
  intro s I h1 h2 h3 sr rp q;obtain⟨vs,oT,ts,hx,_⟩:=I.wG h3;refine RY (RK (gq (I.hand ea) hg hm ?_ hd)) (λq=>nomatch q);have LT:=xn (M:=model X.prog X.w) hx;cases e:t C with
  | none=>simp only[hX,e,rJ] at q;exact q.elim
  | some b =>
   refine(Tq I.gi LT (ht C b e)).here ?_;cases b with
   | false =>
    simp only[hX,e,rJ] at q;exact ih I h1 h2 h3 sr rp q
   | true =>
    simp only[hX,e,rJ,qB] at q;refine codeAny_handlers_suite ((I.hand ea).mr (fr:=none) h3 λh' I2=>?_);refine Ow (hb ea JX _ σ Hc D (I2.yi h1 h2 h3) ⟨B,H₀,Hs,env,sr,(ak.wL q).err⟩) (λf s' z=>z.fW I.ok) λ_ _ z=>z.elim
 | @BF x n i np pos b₀ K2 rest t h hs Dc hg hm hd hN hi hxn ht hb r ih =>
  intro s I h1 h2 h3 sr rp q;obtain⟨vs,oT,ts,hx,_⟩:=I.wG h3;refine RY (RK (gq (I.hand ea) hg hm ?_ hd)) (λq=>nomatch q);have LT:=xn (M:=model X.prog X.w) hx;cases e:t C with
  | none=>simp only[hX,e,rJ] at q;exact q.elim
  | some b =>
   refine(Tq I.gi LT (ht C b e)).here ?_;cases b with
   | false =>
    simp only[hX,e,rJ] at q;exact ih I h1 h2 h3 sr rp q
   | true =>
    simp only[hX,e,rJ,qB] at q;refine codeAny_handlers_suite_as ((I.hand ea).mr (fr:=none) h3 λh' I2=>?_);refine m5 (X:=X.hand ea) (v:=.ref ea) (i:=i) (I2.yi h1 h2 h3) hN hi (.inl hxn) rfl (λs3 I3=>?_) (.inr hxn);refine Ow (hb ea JX _ _ Hc (D.gone i) I3 ⟨B,H₀,Hs,_,sr.set rp,(ak.wL (E:=Z) ?_).err⟩) (λf s' z=>?_) λ_ _ z=>z.elim
    .exact(ak.bind q).imp (λo z=>KS.gone z) λ_ z=>z
    .cases f with
     | next=>obtain⟨σ',H',I4,d⟩:=z;exact(I4.fW I.ok).gone hN hi hxn λs5 I5=>⟨_,H',I5,d⟩
     | brk=>obtain⟨σ',H',I4,d⟩:=z;exact(I4.fW I.ok).gone hN hi hxn λs5 I5=>⟨_,H',I5,d⟩
     | cont=>obtain⟨σ',H',I4,d⟩:=z;exact(I4.fW I.ok).gone hN hi hxn λs5 I5=>⟨_,H',I5,d⟩
     |ret u=>obtain⟨v,σ',H',I4,rv,d⟩:=z;exact(I4.fW I.ok).gone hN hi hxn λs5 I5=>⟨v,_,H',I5,rv,d⟩
def DA{h₀:ExceptHandler}{f:aa->M Out}(KA:X.stack=X.env::X.outer)(hf:X.env.frame=some X.env.locals)(hb:∀(pn:List (Addr×Obj))(E2:St->XK),dG ((X.mn pn).out E2) E2->gP ((X.mn pn).out E2) body (IJ E2 f))(hh:Cc X E (h₀::MW) hd):PS X (.Try body (h₀::MW) [] [] pos) (tS E (Bj f hd)):=by
 intro JX s σ H D I q;obtain⟨B,H₀,Hs,env,sr,q⟩:=q;refine wpAny_Try_except ?_
 let E2:St->XK:=fun σ v _ Hc=>∃Hs C fo ea,v=.ref ea/\SR B H₀ Hs Hc σ env/\Rep Hs (.exc C fo) (.ref ea)/\ak (hX hd (C,fo) env) (KS D B H₀) (XW E B H₀)
 have q1:ak (f env) (KS D B H₀) (XW (E2 σ) Hs H):=by
  unfold Bj at q;cases e:f env with
  | none=>rwa[e] at q
  | some r =>
   rw[e] at q;cases r with
   | ok o=>exact q
   | error x=>exact λea J1 H' g rp=>⟨J1,x.1,x.2,ea,rfl,sr.grow g,rp,q⟩
 refine Ow (hb (X.pn++JX) E2 (qX KA hf) [] s σ H D (I.mn.l9 _) ⟨B,H₀,Hs,env,sr,q1⟩) (λfl s1 hq=>?_) (λe s1 z=>?_)
 .cases fl with
  | next=>obtain⟨σ',H',I',d⟩:=hq;exact PD ⟨σ',H',I'.dj.l5,d⟩
  | brk=>obtain⟨σ',H',I',d⟩:=hq;exact⟨σ',H',I'.dj.l5,d⟩
  | cont=>obtain⟨σ',H',I',d⟩:=hq;exact⟨σ',H',I'.dj.l5,d⟩
  | ret u=>obtain⟨v,σ',H',I',r,d⟩:=hq;exact⟨v,σ',H',I'.dj.l5,r,d⟩
 .refine Zx.note (X:=X.mn (X.pn++JX)) z KA hf λs' ea C dd Lp σ' Hc T he I2 h1 h2 h3 h4=>?_;subst he;refine I2.mr (fr:=none) h3 λh' I3=>?_;obtain⟨J1,C',fo,ea',ee,KN,rp,hp⟩:=h4;cases ee;have I4:=I3.yi h1 h2 h3;have eC:C'=C:=by
   obtain⟨vs,hx⟩:=I4.mL h1;cases rp with
   | pM hr =>
    obtain⟨vs2,KU⟩:=I4.mL (KN.gr.sub _ _ hr);rw[hx] at KU;injection KU with KU;injection KU with KU;injection KU with KU;exact KU.symm
   | nF hr _ _ =>
    obtain⟨vs2,KU⟩:=I4.mL (KN.gr.sub _ _ hr);rw[hx] at KU;injection KU with KU;injection KU with KU;injection KU with KU;exact KU.symm
  subst eC;exact hh.run I3.l5 h1 h2 h3 KN rp hp
end
def f9(ys ns:List Addr)(C:Addr):Option Bool:=if ys.contains C=true then some true else if ns.contains C=true then some false else none
variable{ns:List Addr}
def lX{ys:List Addr}(h:f9 ys ns C=some b):(b=true/\C∈ys)\/(b=false/\C∈ns):=by
 unfold f9 at h
 by_cases h1:ys.contains C=true
 .rw[if_pos h1] at h;cases h;exact .inl ⟨rfl,by simpa using h1⟩
 .rw[if_neg h1] at h
  by_cases h2:ns.contains C=true
  .rw[if_pos h2] at h;cases h;exact .inr ⟨rfl,by simpa using h2⟩
  .rw[if_neg h2] at h;cases h
def jf(f:Addr->Option Bool)(ys ns:List Addr):Bool:=ys.all (λC=>f C==some true)&&ns.all λC=>f C==some false
def uf{f:Addr->Option Bool}{ys:List Addr}(h:jf f ys ns=true)(e:f9 ys ns C=some b):f C=some b:=by
 unfold jf at h;rw[Oo,Ob,Ob] at h;rcases lX e with ⟨rfl,m⟩|⟨rfl,m⟩
 .exact eq_of_beq (h.1 C m)
 .exact eq_of_beq (h.2 C m)
structure IK (K:Nb) (mg:Str->Option Value) (x:Str) (D:Addr) (ys ns:List Addr):Prop where
 mg:mg x=some (.ref D)
 ok:∀C b,f9 ys ns C=some b->Qe K (.ref C) (.ref D)=some b
def IK.of{K:Nb}{ys:List Addr}(h1:mg x=some (.ref D))(h2:jf (λC=>Qe K (.ref C) (.ref D)) ys ns=true):IK K mg x D ys ns:=⟨h1,λ_ _ e=>uf h2 e⟩
def nJ:bootBuiltins "ValueError"=some (.type "ValueError"):=by decide +kernel
def bA{p:α->Prop}:∀x∈([]:List α),p x:=λ_ h=>nomatch h
def dQ{p:α->Prop}{a:α}{l:List α}(h:p a)(r:∀x∈l,p x):∀x∈a::l,p x:=λx m=>by
 rcases NB.mp m with rfl|m
 .exact h
 .exact r x m
def jP:List String:=["NoneType","bool","int","str","tuple","list","dict"]
def BE{a:String}(h:zW p=some a):a∈jP:=by
 cases p<;>first|(cases h;decide)|cases h
structure oC (K:Nb) (mg:Str->Option Value) (x:Str) (D:Addr) (ys ns yo no:List Addr):Prop where
 mg:mg x=some (.ref D)
 ty:∀p a,zW p=some a->Ng K (.type a) (.ref D)=some false
 ob:∀C b,f9 yo no C=some b->uh K C/\Ng K (.ref C) (.ref D)=some b
 oe:∀C b,f9 ys ns C=some b->cS K C/\Ng K (.ref C) (.ref D)=some b
def oC.of{K:Nb}{ys yo no:List Addr}(h1:mg x=some (.ref D))(h2:(jP.all λa=>Ng K (.type a) (.ref D)==some false)=true)(h3:jf (λC=>Ng K (.ref C) (.ref D)) yo no=true)(h4:jf (λC=>Ng K (.ref C) (.ref D)) ys ns=true)(o1:∀C∈yo,uh K C)(o2:∀C∈no,uh K C)(e1:∀C∈ys,cS K C)(e2:∀C∈ns,cS K C):oC K mg x D ys ns yo no where
 mg:=h1
 ty:=λp a h=>by
  rw[Ob] at h2;exact eq_of_beq (h2 a (BE h))
 ob:=λC b h=>⟨by rcases lX h with ⟨_,m⟩|⟨_,m⟩<;>first|exact o1 C m|exact o2 C m,uf h3 h⟩
 oe:=λC b h=>⟨by rcases lX h with ⟨_,m⟩|⟨_,m⟩<;>first|exact e1 C m|exact e2 C m,uf h4 h⟩
section
variable{p pt:Pos}{f:aa->M PV}{ys yo no:List Addr}
def oC.is(c:oC X.K X.mg x D ys ns yo no)(hg:Gl X "isinstance")(hm:X.mg "isinstance"=none)(hx:Gl X x)(he:PE X e (tE E f))(hd:autoParam ↑7 aD._auto_1)(h1:autoParam (starEach [e,.Name x pt] X.env=(false,eval e X.env)::starEach [.Name x pt] X.env) aR._auto_1)(h2:autoParam (starEach [.Name x pt] X.env=(false,eval (.Name x pt) X.env)::starEach [] X.env) aR._auto_1)(Kb:autoParam ((backTo pos (starEach [.Name x pt] X.env)).any (·.1)=false) aR._auto_1):PE X (.Call (.Name "isinstance" p) [e,.Name x pt] [] pos) (tE E (ji (λ_=>false) (f9 yo no) (f9 ys ns) f)) :=
 Ed hg hm (jC hx c.mg rfl hd) c.ty c.ob c.oe he h1 h2 Kb
def GU(ys:List Addr):PV->M PV
 | .exc C _=>bT (ys.contains C=true) (M.ok (.bl true))
 |_=>none
def E_(ys:List Addr)(f:aa->M PV):aa->M PV:=λenv=>(f env).bind (GU ys)
def Bk(hg:Gl X "isinstance")(hm:X.mg "isinstance"=none)(hT:PE X (.Name x pt) (tC (.ty "ValueError")))(Lv:∀C∈ys,cS X.K C/\Ng X.K (.ref C) (.type "ValueError")=some true)(he:PE X e (tE E f))(h1:autoParam (starEach [e,.Name x pt] X.env=(false,eval e X.env)::starEach [.Name x pt] X.env) aR._auto_1)(h2:autoParam (starEach [.Name x pt] X.env=(false,eval (.Name x pt) X.env)::starEach [] X.env) aR._auto_1)(Kb:autoParam ((backTo pos (starEach [.Name x pt] X.env)).any (·.1)=false) aR._auto_1):PE X (.Call (.Name "isinstance" p) [e,.Name x pt] [] pos) (tE E (E_ ys f)):=by
 refine(eI (bX.or m7 mD) hg hm iY (aT he (aT hT cZ h2) h1) ↑12 ↑12 h1 Kb).imp fun σ H Q q=>bx (K:=gu Q) gu.g q λB H₀ Hs H1 env p v sr rp hp=>?_;cases p with
 | exc C fo =>
  obtain⟨m,q⟩:=ak.bT hp;obtain⟨a,LS,rfl,hx⟩:=md sr.gr.sub rp;have m':C∈ys:=by simpa using m
  exact .inr ⟨a,C,LS,true,(Lv C m').1,hx,.inl ⟨"ValueError",rfl,(Lv C m').2⟩,cA.flat q sr.gr.sub (.bl _)⟩
 |_=>exact hp.elim
end
section
variable{o:Expr}{f g:aa->M PV}
def BV:List V->Hp->VK->Prop:=λxs H Q=>∃b,xs=[.bl b]/\Q (.int (if b then 1 else 0)) H
def vi:bX X (.type "int") BV:=by
 intro JX s σ H xs us Q I r h;obtain⟨b,rfl,q⟩:=h;obtain⟨u,rfl,rx⟩:=vals1 r;cases rx;exact call_int_bool ⟨.int _,H,I.kept (t':=s.toks+1) λ_ _ z=>z,⟨_,rfl⟩,q⟩
def F4:PV->M PV
 | .bl b=>M.ok (.int (if b then 1 else 0))
 |_=>none
def sy:List PV->M PV
 | [p]=>F4 p
 |_=>none
def Bz:iM E BV sy:=by
 intro σ Hs H ps vs Q s rp h
 match ps,rp,h with
 | [],_,h=>exact h.elim
 | _::_::_,_,h=>exact h.elim
 | [p],rp,h =>
  obtain⟨w,rfl,Lz⟩:=rp.one;cases Lz with
  | bl b=>exact⟨b,rfl,cA.flat h s (.int _)⟩
  |_=>exact h.elim
end
section
open PySem PySem.Spec PyProof.Rows _root_.HT
section
variable{E:Value->Shared->Prop}
def jT{t sl:Addr}{vl vu:Value}{lo hi:Option Int}(ht:IsTup s.heap t JZ)(hs:s.heap.IsSliceOf sl vl vu .none)(pl:IsPart vl lo)(pu:IsPart vu hi)(hw:cM JZ.size 0 lo=0/\cM JZ.size JZ.size hi=JZ.size)(h:Q (.ref t) s):wpAny ↑11 A (getItem (.ref t) (.ref sl)) Q E s:=by
 obtain⟨os,Mq,hcs,MQ⟩:=id hs;have hTs:s.TypeIs (.ref sl) "slice" := ⟨os,Mq,hcs⟩
 unfold getItem
 try with_reducible refine Ou ?_
 first|refine Na (Nh ?_)|skip
 refine Na (SD ht.typeIs ↑12 ?_);refine Na (N7 (name:=NF "__getitem__") ht.typeIs NV
  (OO NV ht.typeIs RV ?_ (R8 _ _)))
 show wpAny _ _ (QZ (.ref t) >>= _) _ _ s;refine Na (tupleItemsOf_ ht ?_);refine Na (SE hTs ?_);rw[if_pos ↑12];refine Na (fY hs pl pu ?_);have hyes:(((cM JZ.size 0 lo:Nat):Int)==0&&(1:Int)==1&&(cM JZ.size JZ.size hi-cM JZ.size 0 lo)==JZ.size)=true:=by
  rw[hw.1,hw.2];simp
 show wpAny _ _ (if (((cM JZ.size 0 lo:Nat):Int)==0&&(1:Int)==1&&(cM JZ.size JZ.size hi-cM JZ.size 0 lo)==JZ.size)=true then _ else _) _ _ s;rw[if_pos hyes];unfold Builtin.Tuple.tupleIsExact;refine Na (Na (SE ht.typeIs (Nh ?_)));rw[if_pos (show ((Ov "tuple" == Ov "tuple")=true) from beq_self_eq_true _)];refine Na (R9 ?_)
 first
  | exact Na (Nh (Nh ⟨_,rfl,Nh h⟩))
  | exact Na (Nh ⟨_,rfl,Nh h⟩)
  |exact Nh ⟨_,rfl,Nh h⟩
end
section
variable{lo hi:Option Expr}{p2:Pos}{f:aa->M PV}{gl gh:aa->M (Option Int)}
def G2(K:Nb):V->Option Int->Option Int->Hp->VK->Prop:=λx lo hi H Q=>∃a xs,x=.ref a/\fg K H a xs/\(cM xs.length 0 lo=0/\cM xs.length xs.length hi=xs.length)/\Q (.ref a) H
def Al:zR X (G2 X.K):=by
 intro JX s σ H x v vl vu lo hi sl Q I rx hs pl pu h;obtain⟨a,xs,rfl,hx,hw,q⟩:=h;cases rx;obtain⟨J2,r,ht,hz⟩:=I.tuple hx;have hlen:J2.toArray.size=xs.length:=by rw[Nn];exact r.length.symm
 refine⟨"tuple",_,NV.lookup,ht.typeIs,?_⟩;exact jT ht hs pl pu (by rwa[hlen]) ⟨.ref a,H,I,rfl,q⟩
def Hv(p:PV)(lo hi:Option Int):M PV:=match p with
 | .tup xs=>M.ok (.tup (iG xs lo hi))
 | .lst xs=>M.ok (.lst (iG xs lo hi))
 | .aY xs=>M.ok (.lst (iG xs lo hi))
 |_=>none
def km(f:aa->M PV)(lo hi:aa->M (Option Int)):aa->M PV:=λenv=>(f env).bind λp=>(lo env).bind λl=>(hi env).bind λh=>Hv p l h
def oA(he:PE X e (tE E f))(hl:PO X lo (Gq E gl))(hh:PO X hi (Gq E gh)):PE X (.Subscript e (.Slice lo hi none p2) pos) (tE E (km f gl gh)):=by
 refine(xj (zR.or Cw (zR.or Al Bp)) he hl hh).imp fun σ H Q q=>bx (K:=gu Q) gu.g q λB H₀ Hs H1 env p v sr rp hp=>?_;refine⟨B,H₀,Hs,env,sr,(ak.bind hp).imp (λl hl J5 H2 g2=>?_) λe he=>he⟩;have Kd:=sr.grow g2;refine⟨B,H₀,J5,env,Kd,(ak.bind hl).imp (λh hh KY H3 g3=>?_) λe he=>he.grow g2⟩;have Li:=Kd.grow g3;have hz:ak (Hv p l h) (cA KY H3 Q) (λ_=>True):=hh.imp (λz hz w Hs4 H4 g4 r=>hz w Hs4 H4 ((g2.trans g3).trans g4) r) λ_ _=>trivial;have rp3:=(rp.mono g2.st).mono g3.st;cases rp3 with
 | @tup a xs vs ha hx =>
  by_cases hn:cM xs.length 0 l=0/\cM xs.length xs.length h=xs.length
  .refine .inr (.inl ⟨_,_,rfl,fg.of (Li.gr.sub _ _ ha),by rwa[<- hx.length],?_⟩);have e:iG xs l h=xs:=by
    unfold iG;rw[hn.1,hn.2,List.drop_zero,Nat.sub_zero,List.take_length]
   have M3:cA KY H3 Q (.tup xs):=by
    have z:cA KY H3 Q (.tup (iG xs l h)):=hz;rwa[e] at z
   exact cA.flat M3 Li.gr.sub (.tup ha hx)
  .exact .inl ⟨_,_,rfl,fg.of (Li.gr.sub _ _ ha),by rwa[<- hx.length],cA.tup hz Li.gr.sub (hx.cut l h)⟩
 | lst ha hx=>exact .inr (.inr ⟨_,_,rfl,fj.of (Li.gr.sub _ _ ha),cA.lst hz Li.gr.sub (hx.cut l h)⟩)
 | aY ha hx=>exact .inr (.inr ⟨_,_,rfl,.inl (.inr ⟨_,Li.gr.sub _ _ ha⟩),cA.lst hz Li.gr.sub (hx.cut l h)⟩)
 |_=>exact hz.elim
end
end
def JH(ys:List Addr)(f:Str):PV->M PV
 | .exc C (some fs)=>bT (ys.contains C=true) (fu (fs.lookup f))
 |_=>none
def Bi(ys:List Addr)(f:Str)(g:aa->M PV):aa->M PV:=λenv=>(g env).bind (JH ys f)
def B0{g:aa->M PV}{ys:List Addr}{f:Str}(he:PE X e (tE E g))(hy:∀C∈ys,cS X.K C/\bM X.K C f)(hb:attributeBase e f X.env (eval e X.env)=eval e X.env):PE X (.Attribute e f pos) (tE E (Bi ys f g)):=by
 refine(AW he hb).imp fun σ H Q q=>bx (K:=gu Q) gu.g q λB H₀ Hs H1 env p v sr rp hp=>?_;cases p with
 | exc C fo =>
  cases fo with
  | none=>exact hp.elim
  | some fs =>
   obtain⟨m,hp⟩:=ak.bT hp;obtain⟨x,ex,hp⟩:=ak.opt hp;have m':C∈ys:=by simpa using m
   cases rp with
   | @nF a _ d _ vs h1 h2 h3 =>
    obtain⟨u,h4,h5⟩:=h3.look ex;exact⟨a,C,vs,u,rfl,⟨d,sr.gr.sub _ _ h1,sr.gr.sub _ _ h2⟩,(hy C m').1,(hy C m').2,h4,cA.flat hp sr.gr.sub h5⟩
 |_=>exact hp.elim
section
variable{o:Expr}{g:aa->M PV}{fs:aa->M (List PV)}{L:List (Addr×(List PV->M PV))}{K:Nb}
end
section
open PySem.SeqAt (shaped EqAt RcAt RcNeAt)
section
variable{b:Addr}
def pO(I:Inv X JX σ H s)(e:H a=some (.dK [])):(a==sysModules)=false/\∀(P:Program)(w:World),s.heap.DictOf (qC P w) a ([]:List (Key×Value)):=by
 obtain⟨_,h1,vs,kv,o,es,ep,ho,ex,hd,_,pr,_⟩:=(show bz X.prog X.w H s.heap a (.dK []) from I.bo a _ e)
 cases kv;have e0:es=#[]:=by
  have:es.toList=[]:=by cases h:es.toList with
   | nil=>rfl
   | cons x y=>rw[h] at pr;cases pr
  exact Array.toList_inj.mp this
 subst e0;exact⟨h1,λP w=>⟨o,#[],ep,ho,ex,hd,λe he=>absurd he ↑13,.nil,by simp⟩⟩
def zD(I:Inv X JX σ H s)(ea:H a=some (.dK []))(eb:H b=some (.dK []))(hu:A.units<cLine):RcAt A s (.ref a) (.ref b) true:=λprog w E Q h =>
 PySem.W.keq_eq (pO I ea).1 (pO I eb).1 ((pO I ea).2 prog w) ((pO I eb).2 prog w) hu (λ_=>.nil) h
def Dq(I:Inv X JX σ H s)(ea:H a=some (.dK []))(eb:H b=some (.dK []))(hu:A.units<cLine):EqAt A s (.ref a) (.ref b) true:=by
 by_cases e:a=b
 .subst e;exact .same _
 .exact .of_refs e (zD I ea eb hu)
end
def uc(o:Bool->PV)(d e:PyData):M PV:=bT (shaped d=true/\shaped e=true) (M.ok (o (Sf d e)))
def sP(o:Bool->PV)(p q:PV):M PV:=match dat p,dat q with
 | some d,some e=>uc o d e
 |_,_=>none
def oh:PV->Bool
 | .emp=>true
 |_=>false
def xR:PV->Option Str
 | .tup [.str x,p]=>if oh p then some x else none
 |_=>none
def xO(p q:PV):M PV:=if oh p=true/\oh q=true then M.ok (.bl true) else sP (λb=>.bl b) p q
def B3(p q:PV):M PV:=match xR p,xR q with
 | some x,some y=>M.ok (.bl (!(x==y)))
 |_,_=>sP (λb=>.bl (!b)) p q
def DG(o:Bool->Bool):R2:=λx y H Q=>∃Hs p q d e,aW Hs H/\Rep Hs p x/\Rep Hs q y/\dat p=some d/\dat q=some e/\shaped d=true/\shaped e=true/\Q (.bl (o (Sf d e))) H
def E7:R2:=λx y H Q=>DG id x y H Q\/∃a b,x=.ref a/\y=.ref b/\H a=some (.dK [])/\H b=some (.dK [])/\Q (.bl true) H
def ER:R2:=λx y H Q=>DG not x y H Q\/∃t u z z' a b,x=.ref t/\y=.ref u/\H t=some (.tup [.str z,.ref a])/\H u=some (.tup [.str z',.ref b])/\H a=some (.dK [])/\H b=some (.dK [])/\Q (.bl (!(z==z'))) H
theorem y9(hu:X.A.units+64<cLine):fm X (compareOp .Eq) E7:=by
 intro JX s σ H x y v u Q I rx ry h;rcases h with h|⟨a,b,rfl,rfl,ea,eb,hq⟩
 .obtain⟨Hs,p,q,d,e,sm,rp,rq,hd,he,h1,h2,hq⟩:=h;obtain⟨as,ra⟩:=Rep.reads I sm rp rx hd;obtain⟨bs,rb⟩:=Rep.reads I sm rq ry he;exact PySem.SeqAt.compareEq_shaped ra rb h1 h2 hu (iw I hq rfl)
 .cases (show v=Nj a from rx);cases (show u=Nj b from ry);exact zD I ea eb ⋯ _ _ _ _ (iw I hq rfl)
theorem w9(hu:X.A.units+64<cLine):fm X (compareOp .NotEq) ER:=by
 intro JX s σ H x y v u Q I rx ry h;rcases h with h|⟨t,t',z,z',a,b,rfl,rfl,et,et',ea,eb,hq⟩
 .obtain⟨Hs,p,q,d,e,sm,rp,rq,hd,he,h1,h2,hq⟩:=h;obtain⟨as,ra⟩:=Rep.reads I sm rp rx hd;obtain⟨bs,rb⟩:=Rep.reads I sm rq ry he;exact PySem.SeqAt.compareNe_shaped ra rb h1 h2 hu (iw I hq rfl)
 .cases (show v=Nj t from rx);cases (show u=Nj t' from ry);obtain⟨J2,r1,i1,_⟩:=I.tuple (fg.of et);obtain⟨its',r2,i2,_⟩:=I.tuple (fg.of et');have key:∀{z:Str}{a:Addr}{J2:List Value},Vals [.str z,.ref a] J2->∃tk,J2=[.str z tk,.ref a]:=λr=>by
   cases r with
   | cons p q=>cases q with
    | cons p' q' =>
     cases q';obtain⟨tk,rfl⟩:=p;cases p';exact⟨tk,rfl⟩
  obtain⟨k1,rfl⟩:=key r1;obtain⟨k2,rfl⟩:=key r2;have:=RcNeAt.tuples (A:=X.A) (e:=λj=>if j=0 then z==z' else true) i1 i2 ⋯ λj h1 h2=>by
   match j,h1 with
   | 0,_=>exact EqAt.str_str z k1 z' k2
   | 1,_=>exact Dq I ea eb (by show X.A.units+1<cLine;lia)
  refine this _ _ _ _ (iw I hq ?_);simp[Tr]
def uM{o:Bool->Bool}{q:PV}{u:V}{Q:VK}(s:aW Hs H)(rp:Rep Hs p v)(rq:Rep Hs q u)(h:ak (sP (λb=>.bl (o b)) p q) (cA Hs H Q) (XW (E σ) Hs H)):DG o v u H Q:=by
 unfold sP at h
 split at h
 .rename_i d e hd he;obtain⟨⟨h1,h2⟩,h⟩:=ak.bT h;exact⟨Hs,p,q,d,e,s,rp,rq,hd,he,h1,h2,cA.flat h s (.bl _)⟩
 .exact h.elim
def kl(r:Rep Hs p v)(h:oh p=true):∃a,v=.ref a/\Hs a=some (.dK []):=by
 cases r with
 | emp e=>exact⟨_,rfl,e⟩
 |_=>cases h
def rh(r:Rep Hs p v)(h:xR p=some x):∃t a,v=.ref t/\Hs t=some (.tup [.str x,.ref a])/\Hs a=some (.dK []):=by
 unfold xR at h
 split at h
 .split at h
  .rename_i hp;cases h;cases r with
   | tup ht hx=>cases hx with
    | cons h1 h2=>cases h2 with
     | cons h3 h4 =>
      cases h4;cases h1;obtain⟨a,rfl,ea⟩:=kl h3 hp;exact⟨_,a,rfl,ht,ea⟩
  .cases h
 .cases h
def zo:jg E E7 xO:=by
 intro σ Hs H p q v u Q s rp rq h;unfold xO at h
 split at h
 .rename_i hh;obtain⟨a,rfl,ea⟩:=kl rp hh.1;obtain⟨b,rfl,eb⟩:=kl rq hh.2;exact .inr ⟨a,b,rfl,rfl,s _ _ ea,s _ _ eb,cA.flat h s (.bl _)⟩
 .exact .inl (uM s rp rq h)
def y_:jg E ER B3:=by
 intro σ Hs H p q v u Q s rp rq h;unfold B3 at h
 split at h
 .rename_i x y hx hy;obtain⟨t,a,rfl,et,ea⟩:=rh rp hx;obtain⟨t',b,rfl,et',eb⟩:=rh rq hy;exact .inr ⟨t,t',x,y,a,b,rfl,rfl,s _ _ et,s _ _ et',s _ _ ea,s _ _ eb,cA.flat h s (.bl _)⟩
 .exact .inl (uM s rp rq h)
end
end L2
namespace HT
open PySem PyProof.Rows
variable{E:Value->Shared->Prop}{A:Around}{w:World}{prog:Program}
section
variable{a b v:Value}{k:Bool}{I S ax:Addr}{t:Shared}{n:Nat}{R:Result->Shared->Prop}
end
section
open PySem.SeqAt
open PySem.AutoSeq1 (wpAny_loadPart')
open PySem.MeetsSeq PySem.MeetsSeq2 PySem.MeetsSeq3
end
section
variable{s:Shared}
end
end HT
namespace L2
open PySem PySem.Spec PyProof.Rows
variable{E:St->XK}{X:Cx}
variable{js:List Nat}{f:aa->M PV}{it:aa->M (List PV)}{wi:TI}{pos:Pos}{scope:Scope}
variable{y:Str}{i:Nat}
section
variable{tg elt iter c:Expr}{cl:List (Str×Addr)}{g:TG}{set:PV->aa->M aa}{ts fs:List Str}
variable{E:XK}{py Lf:Pos}
end
section
variable{tg elt iter c:Expr}{cl:List (Str×Addr)}{g:TG}{set:PV->aa->M aa}{u:aa->M Bool}{ts fs:List Str}
variable{E:XK}{py Lf:Pos}
end
section
variable{o:Expr}{apos J7:Pos}
end
section
open PySem.SeqAt (shaped)
end
end L2
local macro_rules|`(tactic| walk_at "u1")=>`(tactic| unfold $(Lean.mkIdent (Lean.mkPrivateNameCore `PySem.Builtin.List.W1All `PySem.Builtin.gallop)):ident)
namespace Srt
open PySem PyProof.Rows
section
variable{prog:Program}{w:World}{A:Around}{E:Value->Shared->Prop}{s:Shared}{κ:KeyKind}{k:SortKind}
end
end Srt
namespace Srt
open PySem PyProof.Rows
variable{R:Keyed->Keyed->Prop}{tot A B A1 A2 out:List Keyed}
section
variable{prog:Program}{w:World}{A:Around}{E:Value->Shared->Prop}{s:Shared}{κ:KeyKind}{k:SortKind}
end
end Srt
local macro_rules|`(tactic| walk_at "u2")=>`(tactic| unfold $(Lean.mkIdent (Lean.mkPrivateNameCore `PySem.Builtin.List.W1All `PySem.Builtin.mergeLo)):ident)
namespace Srt
open PySem PyProof.Rows
section
variable{κ:KeyKind}{a b out:Array Keyed}{ia ib m:Nat}
end
section
variable{prog:Program}{w:World}{A:Around}{E:Value->Shared->Prop}{s:Shared}{κ:KeyKind}{k:SortKind}
end
end Srt
local macro_rules|`(tactic| walk_at "u3")=>`(tactic| unfold $(Lean.mkIdent (Lean.mkPrivateNameCore `PySem.Builtin.List.W1All `PySem.Builtin.mergeHi)):ident)
namespace Srt
open PySem PyProof.Rows
section
variable{κ:KeyKind}{a b out:Array Keyed}{na nb m:Nat}
end
section
variable{prog:Program}{w:World}{A:Around}{E:Value->Shared->Prop}{s:Shared}{κ:KeyKind}{k:SortKind}
end
end Srt
local macro_rules|`(tactic| walk_at "u4")=>`(tactic| unfold $(Lean.mkIdent (Lean.mkPrivateNameCore `PySem.Builtin.List.W1All `PySem.Builtin.countRun)):ident)
local macro_rules|`(tactic| walk_at "u5")=>`(tactic| unfold $(Lean.mkIdent (Lean.mkPrivateNameCore `PySem.Builtin.List.W1All `PySem.Builtin.binarySort)):ident)
namespace Srt
open PySem PyProof.Rows
section
variable{κ:KeyKind}{st Mg L9:SortSt}{lo hi:Nat}
end
section
variable{prog:Program}{w:World}{A:Around}{E:Value->Shared->Prop}{s:Shared}{κ:KeyKind}{k:SortKind}
end
end Srt
local macro_rules|`(tactic| walk_at "u6")=>`(tactic| unfold $(Lean.mkIdent (Lean.mkPrivateNameCore `PySem.Builtin.List.W1All `PySem.Builtin.mergeAt)):ident)
namespace Srt
open PySem PyProof.Rows
section
variable{prog:Program}{w:World}{A:Around}{E:Value->Shared->Prop}{s:Shared}{κ:KeyKind}{k:SortKind}
end
end Srt
local macro_rules|`(tactic| walk_at "u7")=>`(tactic| unfold $(Lean.mkIdent (Lean.mkPrivateNameCore `PySem.Builtin.List.W1All `PySem.Builtin.sortRuns)):ident)
namespace Srt
open PySem PyProof.Rows
section
variable{κ:KeyKind}{a a':Array Keyed}
end
section
variable{prog:Program}{w:World}{A:Around}{E:Value->Shared->Prop}{s:Shared}{κ:KeyKind}{k:SortKind}{a0:Array Keyed}
end
end Srt
local macro_rules|`(tactic| walk_at "u8")=>`(tactic| unfold $(Lean.mkIdent (Lean.mkPrivateNameCore `PySem.Builtin.List.W1All `PySem.Builtin.keyLt)):ident)
namespace Srt
open PySem PyProof.Rows
section
variable{prog:Program}{w:World}{A:Around}{E:Value->Shared->Prop}{s:Shared}
end
end Srt
namespace Srt
open PySem PyProof.Rows
section
variable{prog:Program}{w:World}{A:Around}{E:Value->Shared->Prop}{s:Shared}
end
end Srt
namespace L2
open PySem PySem.Spec PyProof.Rows
variable{x:Str}{i:Nat}{f:aa->M PV}{pos:Pos}{e:Expr}{X:Cx}
section
variable{E:XK}
end
variable{d:Addr}{s:Shared}{w:World}{prog:Program}
section
variable{A:Around}{E:Value->Shared->Prop}{it:Addr}{es:Array DictEntry}{ep:Nat}
end
variable{vs:List V}{xs:List PV}{σ:St}{H₀ Hs H:Hp}{a:Addr}
section
variable{iL iS ic:Nat}{b0 b1:Addr}{B:Hp}{env:aa}{ys:List PV}{ws:List V}
end
variable{it:aa->M (List PV)}{wi:TI}
section
variable{E:XK}{st1 L9:Stmt}{rest:List Stmt}{iL iS ic:Nat}{fi fv:aa->M PV}{g:aa->M Out}
end
section
variable{κ:Type}[DecidableEq κ]
end
section
variable(sm:List Int->List Int->List Int)(z r:List Int)
end
section
variable{p:Addr}{H':Hp}{Kj kvs':List (List Key×V)}{vs vs':List Int}
end
variable{E:St->XK}{J8:List PV->M PV}
section
variable{K:Nb}{sm:List Int->List Int->List Int}{S:List Int}
end
variable{base:Heap}{mg:Str->Option Value}{P:Program}
section
variable{K:Nb}
end
variable{px:Pos}
section
variable{a b:Expr}{g:aa->M PV}
end
variable{o:HO}
section
variable{E:XK}{ie:Expr}{pos':Pos}{g h:aa->M PV}
def aP.side{p:Addr}(s:aW Hs H)(n:H p=none):aP Hs H Hs (upd H p o):=by
 have ne:∀c u,H c=some u->c≠p:=λc u e z=>by rw[z,n] at e;cases e
 exact⟨λ_ _ e=>e,λc u e=>by rwa[aq (ne c u e)],λc u e=>by rw[aq (ne c u (s c u e))];exact s c u e,λ_ _ e _ _=>e⟩
end
section
variable{ie:Expr}{pos':Pos}{g h:aa->M PV}
end
variable{tg:Expr}
section
variable{p:Pos}
end
section
variable{A:Around}{E:Value->Shared->Prop}{es:Array DictEntry}{ep:Nat}
end
section
variable{E:XK}{p1 p2 M9:Pos}{j:Nat}
end
section
variable{E:XK}{st:Stmt}{rest:List Stmt}{f:aa->M Out}{g:aa->M (List PV)}
end
section
variable{E:XK}{st:List Stmt}{g:aa->M (List PV)}
end
variable{es:List Expr}{ps:List Str}{fd:FuncData}{k n:Nat}
section
variable{f:Addr}{J8:List PV->M (List PV)}{p:Pos}{fs:aa->M (List PV)}
end
def Cr(K:Nb)(n:Nat)(t:zX):TG:=λv σ H Q=>∃a xs,v=.ref a/\fj K H a xs/\xs.length=n/\t xs σ H Q
def Eh{t:zX}(hc:X.calm=true)(h:Ff X es t)(hn:autoParam ((assignEach es X.env).length=n) aR._auto_1)(KA:autoParam ((assignEach es X.env).findIdx? (·.1)=none) aR._auto_1):PG X (.Tuple es k pos) (Cr X.K n t):=by
 intro JX s σ H v u Q I r hw;obtain⟨a,xs,e1,hq,hl,hw⟩:=hw;subst e1;cases r;obtain⟨J2,rv,ht,hz⟩:=I.list hq;rw[assign_Tuple];refine Na (Pw ?_);unfold unpack;rw[show (assignEach es X.env).length=J2.toArray.size by simp[hn,<- hl,rv.length],KA];refine Na (Ou (PySem.W.kun_itemsOf (I.ok.hd hc) ht.isList λh' hx=>?_));have I1:Inv X JX σ H { s with heap:=h' }:=I.kept (t':=s.toks) λb o e=>hx b o (Ny (Nk e)) e;exact h JX _ σ H xs _ Q I1 (by simpa using rv) hw
def qq:List Nat->zX
 | []=>qQ
 |i::is=>fN (bw i) (qq is)
def ud:List Nat->List PV->aa->aa
 | i::is,p::ps,env=>ud is ps (env.set i (some (.sh p)))
 |_,_,env=>env
def DZ(is:List Nat):PV->aa->M aa
 | .lst ps,env=>bT (ps.length=is.length) (M.ok (ud is ps env))
 |_,_=>none
theorem o3{B H₀ Hs H:Hp}{Q:St->Hp->Prop}:∀{is:List Nat}{ps:List PV}{vs:List V}{σ:St}{env:aa},SR B H₀ Hs H σ env->aB Hs ps vs->ps.length=is.length->(∀σ',SR B H₀ Hs H σ' (ud is ps env)->Q σ' H)->qq is vs σ H Q
 | [],_,_,σ,_,sr,.nil,_,h=>⟨rfl,h σ sr⟩
 |i::is,_,_,σ,_,sr,.cons rp r,hl,h=>⟨_,_,rfl,o3 (is:=is) (sr.set rp) r (by simpa using hl) h⟩
def Ef{E:XK}{K:Nb}{is:List Nat}:wM E (Cr K is.length (qq is)) (DZ is):=by
 intro B H₀ Hs H σ env p v Q Z sr r h;cases r with
 | @lst a xs vs ha hx =>
  obtain⟨hl,h⟩:=ak.bT h;exact⟨a,vs,rfl,fj.of (sr.gr.sub _ _ ha),by rwa[<- hx.length],o3 sr hx hl h⟩
 |_=>exact h.elim
section
variable{E:XK}{apos J7:Pos}
end
def y0:List PV->M PV
 | [.int i]=>bT (i.natAbs.log2<1920) (M.ok (.str (toString i)))
 |_=>none
def AI:iM E (λxs H Q=>∃i,xs=[.int i]/\i.natAbs.log2<1920/\Q (.str (toString i)) H) y0:=by
 intro σ Hs H ps vs Q s r h
 match ps,r with
 | [],_=>exact h.elim
 | _::_::_,r=>cases r with|cons a r=>cases a<;>exact h.elim
 | [p],r =>
  obtain⟨v,rfl,rp⟩:=r.one;cases rp with
  | int i =>
   obtain⟨hz,h⟩:=ak.bT h;exact⟨i,rfl,hz,cA.flat h s (.str _)⟩
  |_=>exact h.elim
section
variable{o a:Expr}{g:aa->M PV}{apos J7:Pos}{name:Str}{id:String}{r:V->List V->Hp->VK->Prop}{op:Str->PV->M PV}
end
variable{m:Nat}
def aV.no{K:Nb}{f:Addr}:aV P w K mg base (cf P w) k f fd ps (gb m (bL m λ_=>none)) where
 len:=λvs H Q E h=>by
  obtain⟨_,Hs,qs,sm,r,h⟩:=h;exact(ak.bT h).2.elim
 run:=λA outer s H args us vs Q E hr e hb rv h=>by
  obtain⟨_,Hs,qs,sm,r,h⟩:=h;exact(ak.bT h).2.elim
def FA(K:Nb):List V->Hp->VK->Prop:=λxs H Q=>∃e C fo tp D1 D2 b,cS K C/\ExcAt H e C fo/\xs=[.ref e,.ref tp]/\H tp=some (.tup [.ref D1,.ref D2])/\Oi K (.ref C) [.ref D1,.ref D2]=some b/\Q (.bl b) H
def wc:bX X (.builtin "isinstance") (FA X.K):=by
 intro JX s σ H xs us Q I r h;obtain⟨e,C,fo,tp,D1,D2,b,c,ha,rfl,Mu,hk,q⟩:=h;obtain⟨ox,od,J,_⟩:=I.lM ha;cases r with
 | cons r1 r2 =>
  cases r2 with
  | cons r3 r4 =>
   cases r4;cases (show _=Nj e from r1);cases (show _=Nj tp from r3);obtain⟨_,J2,rv,o,h1,h2,n,h3⟩:=(show bz X.prog X.w H s.heap tp (.tup [.ref D1,.ref D2]) from I.bo tp _ Mu)
   have ei:J2=[Nj D1,Nj D2]:=by
    cases rv with
    | cons a t =>
     cases t with
     | cons b t =>
      cases t;cases (show _=Nj D1 from a);cases (show _=Nj D2 from b);rfl
   subst ei;obtain⟨cls,dd,data,sl⟩:=o;dsimp only at h2 h3;subst h2 h3;exact RH (jU c) I.gi J h1 hk (λz=>nomatch z) λtk=>⟨.bl b,H,I.tok tk,rfl,q⟩
def z9(o1 o2:Addr->Option Bool):PV->M PV
 | .exc C _=>match o1 C,o2 C with
  | some a,some b=>M.ok (.bl (a||b))
  | _,_=>none
 |_=>none
def oY(o1 o2:Addr->Option Bool)(f:aa->M PV):aa->M PV:=λenv=>(f env).bind (z9 o1 o2)
variable{tk:Nat}
def BC{p p1 p2 pt:Pos}{x1 x2:Str}{D1 D2:Addr}{Ma L_ yo1 no1 ys2 ns2 yo2 no2:List Addr}(c1:oC X.K X.mg x1 D1 Ma L_ yo1 no1)(c2:oC X.K X.mg x2 D2 ys2 ns2 yo2 no2)(hg:Gl X "isinstance")(hm:X.mg "isinstance"=none)(Ml:Gl X x1)(KU:Gl X x2)(he:PE X e (tE E f))(hd1:autoParam ((x1==("__debug__" : Str))=false) aD._auto_1)(hd2:autoParam ((x2==("__debug__" : Str))=false) aD._auto_1)(h1:autoParam (starEach [e,.Tuple [.Name x1 p1,.Name x2 p2] tk pt] X.env=(false,eval e X.env)::starEach [.Tuple [.Name x1 p1,.Name x2 p2] tk pt] X.env) aR._auto_1)(h2:autoParam (starEach [.Tuple [.Name x1 p1,.Name x2 p2] tk pt] X.env=(false,eval (.Tuple [.Name x1 p1,.Name x2 p2] tk pt) X.env)::starEach [] X.env) aR._auto_1)(Kb:autoParam ((backTo pos (starEach [.Tuple [.Name x1 p1,.Name x2 p2] tk pt] X.env)).any (·.1)=false) aR._auto_1):PE X (.Call (.Name "isinstance" p) [e,.Tuple [.Name x1 p1,.Name x2 p2] tk pt] [] pos) (tE E (oY (f9 Ma L_) (f9 ys2 ns2) f)):=by
 refine(eI wc hg hm iY (aT he (aT (i6 (aT (jC (v:=.ref D1) Ml c1.mg rfl hd1) (aT (jC (v:=.ref D2) KU c2.mg rfl hd2) cZ))) cZ h2) h1) ↑12 ↑12 h1 Kb).imp fun σ H Q q=>bx (K:=gu Q) gu.g q λB H₀ Hs H1 env p v sr rp hp=>?_;cases p with
 | exc C fo =>
  cases e1:f9 Ma L_ C with
  | none=>simp only[z9,e1] at hp;exact hp.elim
  | some a =>
   cases e2:f9 ys2 ns2 C with
   | none=>simp only[z9,e1,e2] at hp;exact hp.elim
   | some b =>
    simp only[z9,e1,e2] at hp;refine⟨by show 2<=sizeLine;decide,λtp hn=>?_⟩;have g:=aP.new (o:=.tup [.ref D1,.ref D2]) sr.gr.sub hn;obtain⟨a',LS,rfl,hx⟩:=md g.sub (rp.mono g.st);have k1:=c1.oe C a e1;have k2:=c2.oe C b e2;refine⟨a',C,LS,tp,D1,D2,a||b,k1.1,hx,rfl,av,?_,hp _ _ _ g (.bl _)⟩;unfold Oi Oi Oi;rw[k1.2,k2.2];cases a<;>cases b<;>rfl
 |_=>exact hp.elim
def aP.cut{J1 H':Hp}(g:aP Hs H J1 H'):aP Hs (rem H a) J1 H' :=
 ⟨g.st,λc u e=>g.al c u (by unfold rem at e;split at e;cases e;exact e),g.sub,λc u q e t=>g.nw c u q (by unfold rem at e;split at e;cases e;exact e) t⟩
def aP.write{J1 H':Hp}{u:HO}(g:aP Hs (rem H a) J1 H')(n:J1 a=none):aP Hs (rem H a) J1 (upd H' a u) :=
 ⟨g.st,λc v e=>by
  have nc:c≠a:=λz=>by subst z;rw[ij] at e;cases e
  rw[aq nc];exact g.al c v e,λc v e=>by
  have nc:c≠a:=λz=>by subst z;rw[n] at e;cases e
  rw[aq nc];exact g.sub c v e,g.nw⟩
def EU(xs:List PV)(p:PV):PV->M (List PV)
 | .int n=>match vA xs.length n with
  | some j=>M.ok (xs.set j p)
  | none=>none
 |_=>none
def AF(u:aa->M Bool)(f h:aa->M PV)(xs:List PV)(env:aa):M (List PV):=(u (some (.sh (.lst xs))::env)).bind λb=>if b=true then (f (none::env)).bind λp=>(h (some (.sh (.lst xs))::env)).bind (EU xs p) else M.ok xs
abbrev KP(Q:Hp->Prop)(a:Addr)(Hs H:Hp):List PV->Prop:=λM_=>∀J1 H' MF,aP Hs (rem H a) J1 H'->H' a=some (.lst MF)->J1 a=none->aB J1 M_ MF->Q H'
def F1(u:aa->M Bool)(f h:aa->M PV):TS:=λD σ H=>∃(a:Addr)(us:List V)(xs:List PV)(Hs:Hp)(env:aa),σ[0]?=some (some (.ref a))/\H a=some (.lst us)/\Hs a=none/\aB Hs xs us/\SR Hs (rem H a) Hs H σ (none::env)/\(∀(j:Nat)(y:SV),env[j]?=some (some y)->eR y=false)/\ak (AF u f h xs env) (KP (D.nx σ) a Hs H) (λ_=>False)
variable{u:aa->M Bool}
variable{us:List V}
section
variable{E:XK}{t ie:Expr}{pos' ps:Pos}{h:aa->M PV}
def SR.shown{B:Hp}{env:aa}(r:SR B H₀ Hs H σ (none::env))(h0:σ[0]?=some (some (.ref a)))(ha:H a=some (.lst us))(h1:Hs a=none)(h2:H₀ a=none)(n:∀(j:Nat)(y:SV),env[j]?=some (some y)->eR y=false)(rl:aB Hs xs us):SR B H₀ (upd Hs a (.lst us)) H σ (some (.sh (.lst xs))::env):=by
 have g:=(r.gr.into ha h1 h2)
 exact r.xl (i:=0) (x:=some (.sh (.lst xs))) h0 g.1 g.2 (λy q=>by cases q;exact⟨_,rfl,.lst av (rl.mono g.2)⟩) (λj y b v nj ej o=>by
  cases j with
  | zero=>exact absurd rfl nj
  |succ j=>rw[n j y ej] at o;cases o) λy q o=>by cases q;cases o
def z8(ht:PT X t (tT (λ_=>E) u))(he:PE X e (tE (λ_=>E) f))(hk:PE X ie (tE (λ_=>E) h))(hi:X.N[0]?=some x)(hv:vI X.env.scope x)(hd:autoParam ↑7 aD._auto_1)(Ko:autoParam ↑6 aD._auto_1)
  (ha:autoParam (∀v,assign (.Subscript (.Name x px) ie pos') X.env v=(do
   let ov <- holding [v] (eval (.Name x px) X.env)
   let iv <- holding [v,ov] (eval ie X.env)
   standAt pos'
   holding [v,ov,iv] (setItem ov iv v)
   release [v,ov,iv] [])) aI._auto_1)
  (hs:autoParam (swapsWithSole [.Subscript (.Name x px) ie pos'] e pos.line X.env=pure false) aR._auto_1) (hw:autoParam (swappedStores [.Subscript (.Name x px) ie pos'] e X.env=pure none) aR._auto_1)
  (h1:autoParam ((assignEach [.Subscript (.Name x px) ie pos'] X.env).map (·.2)=[assign (.Subscript (.Name x px) ie pos') X.env]) aR._auto_1) :
  gP X [.If t [.Assign [.Subscript (.Name x px) ie pos'] e pos] [] ps] (F1 u f h):=by
 refine(qF (x_ ht (qF (tJ he (xg (fq hi hv hd Ko) hk set_list ha) hs hw h1)) gF)).imp λD σ H q=>?_;obtain⟨a,us,xs,Hs,env,h0,hH,hs0,rl,sr,no,q⟩:=q;have r0:rem H a a=none:=ij;have sh:=sr.shown h0 hH hs0 r0 no rl;refine⟨_,_,_,_,sh,(ak.bind q).imp (λb hb J4 H1 g1=>?_) λe he=>he.elim⟩;obtain⟨MK,e1⟩:=aP.back hs0 hH sr.gr.sub g1;have a1:=g1.al _ _ hH;have n1:rem J4 a a=none:=ij
 by_cases hb':b=true
 .subst hb';rw[if_pos rfl] at hb ⊢;have KW:=sr.grow MK;refine⟨_,_,_,_,KW,(ak.bind hb).imp (λp hp v J5 H2 g2 rp=>?_) λe he=>he.elim⟩;have Kd:=KW.grow g2;have a2:=g2.al _ _ a1;have n2:J5 a=none:=g2.nw _ _ n1 a1 (λ_=>nofun);have rl2:=(rl.mono MK.st).mono g2.st;have sh2:=Kd.shown h0 a2 n2 r0 no rl2;refine⟨.ref a,h0,_,_,_,_,sh2,(ak.bind hp).imp (λk hk w KY H3 g3 rk=>?_) λe he=>he.elim⟩;obtain⟨g3',e3⟩:=aP.back n2 a2 Kd.gr.sub g3;cases rk with
  | int n =>
   have Me:ak (match vA xs.length n with|some j=>M.ok (xs.set j p)|none=>none) _ _:=hk
   split at Me
   .rename_i j ej;have n3:rem KY a a=none:=ij;refine⟨a,us,n,j,rfl,rfl,g3.al _ _ a2,by rwa[<- rl.length],Me (rem KY a) _ _ ?_ av n3 (((rl2.mono g3'.st)).set (rp.mono g3'.st) j)⟩;exact aP.write ((MK.trans (g2.trans g3')).cut) n3
   .exact Me.elim
  | _=>exact hk.elim
 .rw[if_neg hb'] at hb ⊢;exact hb (rem J4 a) H1 us MK.cut a1 n1 (rl.mono MK.st)
end
def Ik(n:Nat)(J8:List PV->List PV->M (List PV)):Sp:=λvs H Q E=>vs.length=n+1/\∃a us vs' xs ps Hs,vs=.ref a::vs'/\aW Hs H/\H a=some (.lst us)/\Hs a=none/\aB Hs xs us/\aB Hs ps vs'/\ak (J8 xs ps) (KP (Q .aJ) a Hs H) (λ_=>False)
def p8{ps:List PV}{x:SV}(e:(eM m ps)[i]?=some (some x)):∃p,x=.sh p:=by
 unfold eM at e;rcases OX.mp (RN e) with h|h
 .obtain⟨p,_,q⟩:=OB.mp h;cases q;exact⟨p,rfl⟩
 .have:=(Sg.mp h).2;cases this
variable{N:List Str}
def SR.DJ{ps:List PV}(s:aW Hs H)(hN:0<N.length)(ha:H a=some (.lst us))(h0:Hs a=none)(r:aB Hs ps vs):SR Hs (rem H a) Hs H (L2.start N (.ref a::vs)) (none::eM (N.length-1) ps):=by
 have s0:=SR.start (N:=N.tail) s r;have e1:L2.start N (.ref a::vs)=some (.ref a)::L2.start N.tail vs:=by
  unfold L2.start;cases N with
  | nil=>simp at hN
  | cons x N=>simp
 have e2:N.length-1=N.tail.length:=by simp
 rw[e1,e2];refine⟨(aP.refl s).cut,by simp[s0.len],λi x e=>?_,λi j x y b n ei ej ox=>?_⟩
 .cases i with
  | zero=>simp at e
  | succ i =>
   have e':(eM N.tail.length ps)[i]?=some (some x):=by simpa using e
   obtain⟨v,q1,q2⟩:=s0.at_ i x e';obtain⟨p,rfl⟩:=p8 e';exact⟨v,by simpa using q1,q2⟩
 .cases i with
  | zero=>simp at ei
  | succ i =>
   obtain⟨p,rfl⟩:=p8 (show (eM N.tail.length ps)[i]?=some (some x) by simpa using ei);cases ox
variable{dv:Value}
theorem bC.JL{K:Nb}{qual:Str}{st:Stmt}{f:Addr}{g h:aa->M PV}(F:bC K x qual st dv f fd)(S:bD N ps (aA st))(hN:N.length=ps.length)(h0:0<N.length)(hb:∀(J6:Value)(A:Around)(outer:List Env)(s:Shared)(H:Hp)(E:XK),bH k (A.deeper (envOfC qual (aA st) s.heap.objs.size f J6))->dG ((gS (cf P w) P w K mg base N qual (aA st) f J6 A outer s H E).out λ_=>E) (λ_=>E)->gP ((gS (cf P w) P w K mg base N qual (aA st) f J6 A outer s H E).out λ_=>E) (cK st) (F1 u g h)):aV P w K mg base (cf P w) (k+1) f fd ps (Ik (N.length-1) λxs ps=>AF u g h xs (eM (N.length-1) ps)):=by
 obtain⟨oc,od,kV,doc,pm,an,J6,ct,LM,rfl,lk,Ko⟩:=F.ex;refine mF lk Ko S (λvs H Q E h=>by have:=h.1;lia) λA outer s H vs Q E hr hs=>⟨_,hb J6 A outer s H E hr (qX rfl rfl),?_⟩
 obtain⟨_,a,us,vs',xs,K_,Hs,rfl,sm,ha,hn,rl,rp,q⟩:=hs;refine⟨a,us,xs,Hs,_,?_,ha,hn,rl,SR.DJ sm h0 ha hn rp,λj y ej=>?_,q⟩
 .unfold L2.start;simp
 .obtain⟨p,rfl⟩:=p8 ej;rfl
structure IB (P:Program) (w:World) (K:Nb) (mg:Str->Option Value) (base:Heap) (n:Nat) (x:Str) (m:Nat) (J8:List PV->List PV->M (List PV)):Prop where
 ex:∃(f:Addr)(fd:FuncData)(ps:List Str),mg x=some (.ref f)/\NS K (.ref f)=true/\ps.length=m+1/\Binds K fd ps []/\aV P w K mg base (cf P w) n f fd ps (Ik m J8)
def t_(i m:Nat)(J8:List PV->List PV->M (List PV))(fs:aa->M (List PV)):aa->M Out:=λenv=>(ownAt i env).bind λxs=>(fs env).bind λps=>bT (ps.length=m) ((wL (J8 xs ps)).bind λM_=>M.ok (.nx (env.set i (some (.ow M_)))))
def pJ{E:XK}{y:Str}{J8:List PV->List PV->M (List PV)}{fs:aa->M (List PV)}{p J7:Pos}(F:IB X.prog X.w X.K X.mg X.base n x m J8)(hr:bH k X.A)(hn:n<=k)(hg:Gl X x)(O:dG X (λ_=>E))(hi:X.N[i]?=some y)(hv:vI X.env.scope y)(ha:PA X es (tL (λ_=>E) fs))(Kt:autoParam ↑7 aD._auto_1)(hd:autoParam ((y==("__debug__" : Str))=false) aD._auto_1)(Ko:autoParam ((y==("__classdict__" : Str))=false) aD._auto_1)(he:autoParam (starEach (.Name y px::es) X.env=(false,eval (.Name y px) X.env)::starEach es X.env) aR._auto_1)(Kb:autoParam ((backTo J7 (starEach es X.env)).any (·.1)=false) aR._auto_1)(hs:autoParam (swapsWith (.Call (.Name x p) (.Name y px::es) [] J7) none pos.line X.env=pure false) aR._auto_1):PS X (.Expr (.Call (.Name x p) (.Name y px::es) [] J7) pos) (tS E (t_ i m J8 fs)):=by
 obtain⟨f,fd,ps,h1,h2,h3,h4,h5⟩:=F.ex;refine(jI (q_ (E:=λ_=>E) h5 (hr.mono hn) hg h1 h2 h4 .nil O (aT (fq hi hv hd Ko) ha he) Kt he Kb) hs).imp λD σ H q=>?_;obtain⟨B,H₀,Hs,env,sr,q⟩:=q;obtain⟨xs,ex,q⟩:=ak.own (ak.bind q);obtain⟨a,us,q1,q2,q3,q4,q5⟩:=sr.ow i xs ex;refine⟨.ref a,q1,B,H₀,Hs,env,sr,(ak.bind q).imp (λK_ hp vs J4 H1 g1 rp=>?_) λe he=>he.grow sr.gr⟩;obtain⟨hl,hp⟩:=ak.bT hp;have KW:=sr.grow g1;obtain⟨a',MF,z1,z2,z3,z4,z5⟩:=KW.ow i xs ex;rw[q1] at z1;cases z1;rw[NX];refine⟨by rw[N_,<- rp.length,hl],a,MF,vs,xs,K_,J4,rfl,KW.gr.sub,z2,z3,z5,rp,(ak.wL (ak.bind hp)).imp (λM_ hx J1 H' us2 g e1 e2 rl=>?_) λe he=>he⟩;have ne:∀c v,H₀ c=some v->c≠a:=λc v e z=>by subst z;rw[z4] at e;cases e
 refine hx σ J1 H' (KW.xl (i:=i) (x:=some (.ow M_)) q1 ⟨λc v e=>g.st c v (KW.gr.st c v e),λc v e=>g.al c v (by rw[kh (ne c v e)];exact KW.gr.al c v e),g.sub,λc v e1 e2 t=>g.nw c v (KW.gr.nw c v e1 e2 t) (by rw[kh (ne c v e2)];exact KW.gr.al c v e2) t⟩ g.st (λy e=>by cases e;exact⟨_,rfl,a,us2,rfl,e1,e2,z4,rl⟩) (λj y b v nj ej o zj w1 w2 w3=>?_) λy e o kk z nk ek oz=>?_)
 .have nb:b≠a:=λw=>by subst w;exact KW.ap i j _ y b nj ex ej rfl o q1 zj
  have w1':rem H1 a b=some v:=by rwa[kh nb]
  exact⟨g.al _ _ w1',g.nw _ _ w2 w1' w3⟩
 .exact KW.ap i kk _ z a nk ex ek rfl oz q1
def F5(K:Nb):List V->Hp->VK->Prop:=λxs H Q=>∃(e C:Addr)(fo:_)(tp:Addr)(Ds:List Addr)(b:Bool),cS K C/\ExcAt H e C fo/\xs=[.ref e,.ref tp]/\H tp=some (.tup (Ds.map V.ref))/\Oi K (.ref C) (Ds.map Nj)=some b/\Q (.bl b) H
theorem oI:∀{Ds:List Addr}{J2:List Value},Vals (Ds.map V.ref) J2->J2=Ds.map Nj
 | [],_,.nil=>rfl
 |D::Ds,_,.cons a t=>by cases (show _=Nj D from a);rw[oI t];rfl
def v8:bX X (.builtin "isinstance") (F5 X.K):=by
 intro JX s σ H xs us Q I r h;obtain⟨e,C,fo,tp,Ds,b,c,ha,rfl,Mu,hk,q⟩:=h;obtain⟨ox,od,J,_⟩:=I.lM ha;cases r with
 | cons r1 r2 =>
  cases r2 with
  | cons r3 r4 =>
   cases r4;cases (show _=Nj e from r1);cases (show _=Nj tp from r3);obtain⟨_,J2,rv,o,h1,h2,n,h3⟩:=(show bz X.prog X.w H s.heap tp (.tup (Ds.map V.ref)) from I.bo tp _ Mu)
   have ei:=oI rv;subst ei;obtain⟨cls,dd,data,sl⟩:=o;dsimp only at h2 h3;subst h2 h3;exact RH (jU c) I.gi J h1 hk (λz=>nomatch z) λtk=>⟨.bl b,H,I.tok tk,rfl,q⟩
def Dk:List (List Addr×List Addr)->Addr->Option Bool
 | [],_=>some false
 | o::os,C=>match f9 o.1 o.2 C,Dk os C with
  | some a,some b=>some (a||b)
  |_,_=>none
inductive zS (X:Cx):List Expr->List Addr->List (List Addr×List Addr)->Prop where
 | nil:zS X [] [] []
 |cons {x:Str} {D:Addr} {ys ns yo no:List Addr} {es:List Expr} {Ds:List Addr} {os:List (List Addr×List Addr)} {p:Pos} (c:oC X.K X.mg x D ys ns yo no) (hx:Gl X x) (r:zS X es Ds os) (hd:autoParam ↑7 aD._auto_1) (hs:autoParam (starEach (.Name x p::es) X.env=(false,eval (.Name x p) X.env)::starEach es X.env) aR._auto_1):zS X (.Name x p::es) (D::Ds) ((ys,ns)::os)
def EJ(Ds:List Addr):TA:=λ_ H Q=>Q (Ds.map V.ref) H
variable{os:List (List Addr×List Addr)}{Ds:List Addr}
def zS.pa(h:zS X es Ds os):PA X es (EJ Ds):=by
 induction h with
 | nil=>exact cZ
 |@cons x D ys ns yo no es Ds os p c hx r hd hs ih=>exact aT (te:=tC (.ref D)) (jC (v:=.ref D) hx c.mg rfl hd) ih hs
def zS.len(h:zS X es Ds os):es.length=Ds.length:=by
 induction h with
 | nil=>rfl
 |cons _ _ _ _ _ ih=>simp[ih]
def zS.JP(h:zS X es Ds os):∀{C:Addr}{b:Bool},Dk os C=some b->Oi X.K (.ref C) (Ds.map Nj)=some b:=by
 induction h with
 | nil=>intro C b e;cases e;rfl
 | @cons x D ys ns yo no es Ds os p c hx r hd hs ih =>
  intro C b e;have e':(match f9 ys ns C,Dk os C with|some a,some b=>some (a||b)|_,_=>none)=some b:=e;cases e1:f9 ys ns C with
  | none=>rw[e1] at e';cases e'
  | some a =>
   cases e2:Dk os C with
   | none=>rw[e1,e2] at e';cases e'
   | some b' =>
    rw[e1,e2] at e';cases e';have k1:=(c.oe C a e1).2;have k2:=ih e2;rw[NJ];unfold Oi;rw[k1,k2];cases a<;>rfl
def C9(os:List (List Addr×List Addr)):PV->M PV
 | .exc C _=>match Dk os C with
  | some b=>M.ok (.bl b)
  | none=>none
 |_=>none
def BO(os:List (List Addr×List Addr))(f:aa->M PV):aa->M PV:=λenv=>(f env).bind (C9 os)
def BA{p pt:Pos}{x1:Str}{D1:Addr}{Ma L_ yo1 no1:List Addr}(c1:oC X.K X.mg x1 D1 Ma L_ yo1 no1)(n:zS X es Ds ((Ma,L_)::os))(hg:Gl X "isinstance")(hm:X.mg "isinstance"=none)(he:PE X e (tE E f))(hz:es.length<=sizeLine)(h1:autoParam (starEach [e,.Tuple es tk pt] X.env=(false,eval e X.env)::starEach [.Tuple es tk pt] X.env) aR._auto_1)(h2:autoParam (starEach [.Tuple es tk pt] X.env=(false,eval (.Tuple es tk pt) X.env)::starEach [] X.env) aR._auto_1)(Kb:autoParam ((backTo pos (starEach [.Tuple es tk pt] X.env)).any (·.1)=false) aR._auto_1):PE X (.Call (.Name "isinstance" p) [e,.Tuple es tk pt] [] pos) (tE E (BO ((Ma,L_)::os) f)):=by
 refine(eI v8 hg hm iY (aT he (aT (i6 n.pa) cZ h2) h1) ↑12 ↑12 h1 Kb).imp fun σ H Q q=>bx (K:=gu Q) gu.g q λB H₀ Hs H1 env p v sr rp hp=>?_;cases p with
 | exc C fo =>
  cases e1:Dk ((Ma,L_)::os) C with
  | none=>simp only[C9,e1] at hp;exact hp.elim
  | some b =>
   simp only[C9,e1] at hp;have ec:cS X.K C:=by
    have e':(match f9 Ma L_ C,Dk os C with|some a,some b=>some (a||b)|_,_=>none)=some b:=e1;cases e2:f9 Ma L_ C with
    | none=>rw[e2] at e';cases e'
    | some a=>exact(c1.oe C a e2).1
   refine⟨by rwa[Nm,<- n.len],λtp hn=>?_⟩;have g:=aP.new (o:=.tup (Ds.map V.ref)) sr.gr.sub hn;obtain⟨a',LS,rfl,hx⟩:=md g.sub (rp.mono g.st);exact⟨a',C,LS,tp,Ds,b,ec,hx,rfl,av,n.JP e1,hp _ _ _ g (.bl _)⟩
 |_=>exact hp.elim
def FV:PV->PV->M (List PV)
 | .lst xs,.lst ys=>bT (xs.length+ys.length<=sizeLine) (M.ok (xs++ys))
 |_,_=>none
def Es(f g:aa->M PV):aa->M (List PV):=λenv=>(f env).bind λp=>(g env).bind λq=>FV p q
def Cq{a b:Expr}{g:aa->M PV}(ha:PE X a (tE E f))(hb:PE X b (tE E g)):PE X (.BinOp a .Add b pos) (tO E (Es f g)):=by
 refine(BY xp ha hb).imp fun σ H Q q=>bx (K:=KO Q) KO.gr q λB H₀ Hs H1 env p v sr rp hp=>?_;refine⟨B,H₀,Hs,env,sr,(ak.bind hp).imp (λq hq u J1 H' g' ru=>?_) λe he=>he⟩;have KN:=sr.grow g';have rp':=rp.mono g'.st;cases rp' with
 | @lst l xs vs ha hx=>cases ru with
  | @lst l2 ys us hb hy =>
   obtain⟨h1,h⟩:=ak.bT hq;exact⟨l,l2,vs,us,rfl,rfl,KN.gr.sub _ _ ha,KN.gr.sub _ _ hb,by rwa[<- hx.length,<- hy.length],λp n=>h _ p J1 H' g' (hx.append hy) n⟩
  | _=>exact hq.elim
 |_=>exact hq.elim
section
variable{B J1 H':Hp}{env:aa}{as:List Addr}
end
variable{js:List Nat}{ts:List Str}
section
variable{g:TG}{set:PV->aa->M aa}{fo:aa->M (List PV)}{fs:List Str}
end
section
variable{ih:Nat}{D:Addr}{as:List Addr}{zs:List PV}{B J1 H':Hp}{env:aa}
end
section
variable{E:XK}{st1:Stmt}{e2 e3 e4:Expr}{rest body:List Stmt}{ih ig:Nat}{g:TG}{set:PV->aa->M aa}{fo:aa->M (List PV)}{g2:aa->M PV}{u3:aa->M Bool}{fb f:aa->M Out}{L9 ME st4:Stmt}
end
mutual
def fk:PV->Option PV
 | .aJ=>some .aJ
 | .bl b=>some (.bl b)
 | .int i=>some (.int i)
 | .str x=>some (.str x)
 | .tup xs=>(cz xs).map .tup
 | .lst xs=>(cz xs).map .aY
 | .aY xs=>(cz xs).map .aY
 |_=>none
def cz:List PV->Option (List PV)
 | []=>some []
 |p::r=>(fk p).bind λq=>(cz r).map (q::·)
end
section
variable{J1:Hp}
mutual
theorem Rep.tQ(h1:∀a ws,Hs a=some (.lst ws)->∃o,J1 a=some (.k9 o (.lst ws)))(h2:∀a o,Hs a=some o->(∀ws,o≠.lst ws)->J1 a=some o):∀{p q:PV}{v:V},Rep Hs p v->fk p=some q->Rep J1 q v
 | _,_,_,.aJ,e=>by cases e;exact .aJ
 | _,_,_,.bl b,e=>by cases e;exact .bl b
 | _,_,_,.int i,e=>by cases e;exact .int i
 | _,_,_,.str x,e=>by cases e;exact .str x
 | _,q,_,.tup (xs:=xs) h r,e=>by
  obtain⟨ys,e1,rfl⟩:=Nf.mp (show (cz xs).map .tup=some q from e);exact .tup (h2 _ _ h λ_=>nofun) (r.tQ h1 h2 e1)
 | _,q,_,.lst (xs:=xs) h r,e=>by
  obtain⟨ys,e1,rfl⟩:=Nf.mp (show (cz xs).map .aY=some q from e);obtain⟨o,ho⟩:=h1 _ _ h;exact .aY ho (r.tQ h1 h2 e1)
 | _,q,_,.aY (xs:=xs) h r,e=>by
  obtain⟨ys,e1,rfl⟩:=Nf.mp (show (cz xs).map .aY=some q from e);exact .aY (h2 _ _ h λ_=>nofun) (r.tQ h1 h2 e1)
 | _,_,_,.obj _ _,e=>by cases e
 | _,_,_,.pM _,e=>by cases e
 | _,_,_,.nF _ _ _,e=>by cases e
 | _,_,_,.emp _,e=>by cases e
 | _,_,_,.t8 _ _,e=>by cases e
 |_,_,_,.fn _,e=>by cases e
theorem aB.tQ(h1:∀a ws,Hs a=some (.lst ws)->∃o,J1 a=some (.k9 o (.lst ws)))(h2:∀a o,Hs a=some o->(∀ws,o≠.lst ws)->J1 a=some o):∀{ps qs:List PV}{vs:List V},aB Hs ps vs->cz ps=some qs->aB J1 qs vs
 | _,_,_,.nil,e=>by cases e;exact .nil
 | _,qs,_,.cons (p:=p) (ps:=ps) h r,e=>by
  obtain⟨q,e1,e2⟩:=Oq.mp (show (fk p).bind (λq=>(cz ps).map (q::·))=some qs from e);obtain⟨rs,e3,rfl⟩:=Nf.mp e2;exact .cons (h.tQ h1 h2 e1) (r.tQ h1 h2 e3)
end
end
def wQ(h:Heap)(Hs H:Hp):Hp:=λa=>match Hs a with
 | some (.lst vs)=>(h.get? a).map λo=>.k9 o (.lst vs)
 |_=>H a
variable{h:Heap}
def mR(n:∀ws,Hs a≠some (.lst ws)):wQ h Hs H a=H a:=by
 unfold wQ
 split
 .rename_i vs e;exact absurd e (n vs)
 .rfl
def qm(e:Hs a=some (.lst vs)):wQ h Hs H a=(h.get? a).map λo=>.k9 o (.lst vs):=by unfold wQ;rw[e]
def Inv.Fe{JX:List (Addr×Obj)}(I:Inv X JX σ H s)(sm:aW Hs H):Inv X JX σ (wQ s.heap Hs H) s:=by
 have none_:∀{a},H a=none->wQ s.heap Hs H a=none:=λ{a} e=>by
  rwa[mR λws z=>by have:=sm _ _ z;rw[e] at this;cases this]
 have Lq:∀{a o},H a=some o->(∀ws,o≠.lst ws)->wQ s.heap Hs H a=some o:=λ{a o} e n=>by
  rwa[mR λws z=>by have:=sm _ _ z;rw[e] at this;cases this;exact n _ rfl]
 refine⟨I.ok,I.os,I.bare,⟨I.base.keep,I.base.slot,λb o h1 h2 h3=>none_ (I.base.free b o h1 h2 h3),I.base.there,λb xs e=>Lq (I.base.lJ b xs e) λ_=>nofun,λb o u e=>Lq (I.base.iH b o u e) λ_=>nofun,λb ps e=>?_⟩,I.loc,I.cell,none_ I.free,λx c e=>none_ (I.eQ x c e),λp hp=>⟨(I.pin p hp).1,none_ (I.pin p hp).2.1,(I.pin p hp).2.2⟩,λa o e=>?_,I.len⟩
 .obtain⟨more,q⟩:=I.base.lF b ps e;exact⟨more,Lq q λ_=>nofun⟩
 .have go:∀{o},H a=some o->bz X.prog X.w (wQ s.heap Hs H) s.heap a o:=λ{o} q=>(I.bo a o q).jd (λ_ _ _ z=>z) (λb z=>Lq z λ_=>nofun) λb xs z=>Lq z λ_=>nofun
  by_cases z:∃ws,Hs a=some (.lst ws)
  .obtain⟨ws,z⟩:=z;rw[qm z] at e;obtain⟨ob,e1,rfl⟩:=Nf.mp e;exact⟨e1,go (sm _ _ z)⟩
  .rw[mR λws q=>z ⟨ws,q⟩] at e;exact go e
def pv(env:aa):aa:=env.map λo=>match o with
 | some (.sh p)=>(fk p).map .sh
 |_=>none
def uG{env:aa}{x:SV}(e:(pv env)[i]?=some (some x)):∃p q,env[i]?=some (some (.sh p))/\fk p=some q/\x=.sh q:=by
 unfold pv at e;rw[NP] at e;obtain⟨o,e1,e2⟩:=Nf.mp e;cases o with
 | none=>cases e2
 | some y =>
  cases y with
  | sh p =>
   obtain⟨q,e3,e4⟩:=Nf.mp (show (fk p).map SV.sh=some x from e2);exact⟨p,q,e1,e3,e4.symm⟩
  |_=>cases e2
def SR.marked{B:Hp}{env:aa}(r:SR B H₀ Hs H σ env)(th:∀a ws,Hs a=some (.lst ws)->∃o,h.get? a=some o):SR (wQ h Hs Hs) (wQ h Hs H) (wQ h Hs Hs) (wQ h Hs H) σ (pv env) where
 gr:=aP.refl λa o e=>by
  by_cases z:∃ws,Hs a=some (.lst ws)
  .obtain⟨ws,z⟩:=z;rw[qm z] at e ⊢;exact e
  .rw[mR λws q=>z ⟨ws,q⟩] at e ⊢;exact r.gr.sub _ _ e
 len:=by unfold pv;rw[Nm];exact r.len
 at_:=λi x e=>by
  obtain⟨p,q,e1,e2,rfl⟩:=uG e;obtain⟨v,h1,h2⟩:=r.sh i p e1;refine⟨v,h1,h2.tQ (λa ws z=>?_) (λa o z n=>?_) e2⟩
  .obtain⟨o,ho⟩:=th a ws z;exact⟨o,by rw[qm z,ho];rfl⟩
  .rw[mR λws q=>by rw[z] at q;exact n ws (Nx q)];exact z
 ap:=λi j x y a n ei ej ox=>by
  obtain⟨p,q,_,_,rfl⟩:=uG ei;cases ox
def BU(u:TS):TS:=λD σ H=>∃B H₀ Hs env,SR B H₀ Hs H σ env/\∀J1 H',SR J1 H' J1 H' σ (pv env)->u D σ H'
def xM{st:List Stmt}{u:TS}(h:gP X st u):gP X st (BU u):=by
 intro JX s σ H D I q;obtain⟨B,H₀,Hs,env,sr,q⟩:=q;refine h JX s σ _ D (I.Fe sr.gr.sub) (q _ _ (sr.marked λa ws e=>?_));obtain⟨_,J2,n,_,e1⟩:=(show bz X.prog X.w H s.heap a (.lst ws) from I.bo a _ (sr.gr.sub _ _ e))
 exact⟨_,e1⟩
mutual
def pP:PV->Bool
 | .aJ=>true
 | .bl _=>true
 | .int _=>true
 | .str _=>true
 | .tup xs=>qH xs
 | .aY xs=>qH xs
 | .obj _ fs=>Gn fs
 |_=>false
def qH:List PV->Bool
 | []=>true
 |p::r=>pP p&&qH r
def Gn:List (Str×PV)->Bool
 | []=>true
 |p::r=>pP p.2&&Gn r
end
def jy(Hs:Hp):Hp:=λa=>match Hs a with
 | some (.lst _)=>none
 |o=>o
def iO(e:Hs a=some o)(n:∀ws,o≠.lst ws):jy Hs a=some o:=by
 unfold jy
 split
 .rename_i ws q;rw[e] at q;exact absurd (Nx q) (n ws)
 .exact e
def yz(e:jy Hs a=some o):Hs a=some o/\∀ws,o≠.lst ws:=by
 unfold jy at e
 split at e
 .cases e
 .rename_i n;exact⟨e,λws z=>n ws (by rw[e,z])⟩
mutual
theorem Rep.nl:∀{p:PV}{v:V},Rep Hs p v->pP p=true->Rep (jy Hs) p v
 | _,_,.aJ,_=>.aJ
 | _,_,.bl b,_=>.bl b
 | _,_,.int i,_=>.int i
 | _,_,.str x,_=>.str x
 | _,_,.tup h r,n=>.tup (iO h λ_=>nofun) (r.nl n)
 | _,_,.lst _ _,n=>by cases n
 | _,_,.aY h r,n=>.aY (iO h λ_=>nofun) (r.nl n)
 | _,_,.obj h r,n=>.obj (iO h λ_=>nofun) (r.nl n)
 | _,_,.pM _,n=>by cases n
 | _,_,.nF _ _ _,n=>by cases n
 | _,_,.emp _,n=>by cases n
 | _,_,.t8 _ _,n=>by cases n
 |_,_,.fn _,n=>by cases n
theorem aB.nl:∀{ps:List PV}{vs:List V},aB Hs ps vs->qH ps=true->aB (jy Hs) ps vs
 | _,_,.nil,_=>.nil
 | _,_,.cons (p:=p) (ps:=ps) h r,n=>by
  have n':=NU.mp (show (pP p&&qH ps)=true from n);exact .cons (h.nl n'.1) (r.nl n'.2)
theorem eV.nl:∀{ps:List (Str×PV)}{vs:List (Str×V)},eV Hs ps vs->Gn ps=true->eV (jy Hs) ps vs
 | _,_,.nil,_=>.nil
 | _,_,.cons (p:=p) (ps:=ps) h r,n=>by
  have n':=NU.mp (show (pP p&&Gn ps)=true from n);exact .cons (h.nl n'.1) (r.nl n'.2)
end
def qw(env:aa):aa:=env.map λo=>match o with
 | some (.sh p)=>if pP p=true then some (.sh p) else none
 |_=>none
def uQ{env:aa}{x:SV}(e:(qw env)[i]?=some (some x)):∃p,env[i]?=some (some (.sh p))/\pP p=true/\x=.sh p:=by
 unfold qw at e;rw[NP] at e;obtain⟨o,e1,e2⟩:=Nf.mp e;cases o with
 | none=>cases e2
 | some y =>
  cases y with
  | sh p =>
   have e3:(if pP p=true then some (SV.sh p) else none)=some x:=e2
   split at e3
   .exact⟨p,e1,by assumption,(Nx e3).symm⟩
   .cases e3
  |_=>cases e2
variable{α β:Type}
variable{x0:Option SV}
variable{p:PV}
variable{b:aa->M Out}
variable{j:Int}
section
open PySem.SeqAt (shaped noMix noMixAll)
def M.aL(a:α)(f:α->M β):M.bind (M.ok a) f=f a:=NL rfl rfl
def M.yh(e:EX)(f:α->M β):M.bind (some (Except.error e)) f=some (.error e):=NL rfl rfl
def M.bind_none(f:α->M β):M.bind none f=none:=NL rfl rfl
def M.bind_some(a:α)(f:α->M β):M.bind (some (Except.ok a)) f=f a:=NL rfl rfl
def M.bind_assoc{γ:Type}(x:M α)(f:α->M β)(g:β->M γ):M.bind (M.bind x f) g=M.bind x λa=>M.bind (f a) g:=by
 cases x with
 | none=>rfl
 |some x=>cases x<;>rfl
def au{c:Prop}[Decidable c]{x:M α}(h:c):bT c x=x:=if_pos h
def Eb(a:α):wL (M.ok a)=M.ok a:=NL rfl rfl
def vC(x:PV):fu (some x)=M.ok x:=NL rfl rfl
def r9(g:aa->M Out)(env:aa):zz g (.nx env)=g env:=NL rfl rfl
def rY(g:aa->M Out)(p:PV):zz g (.rt p)=M.ok (.rt p):=NL rfl rfl
def AD(b:Bool):sZ (.bl b)=M.ok b:=NL rfl rfl
def Av(p:PV):v5 (.rt p)=M.ok p:=NL rfl rfl
def AL(e:aa):v5 (.nx e)=M.ok .aJ:=NL rfl rfl
def tI(xs:List Int):PV:=.tup (xs.map PV.int)
def lI(xs:List Int):PV:=.lst (xs.map PV.int)
def A4(xs:List Int):aS (tI xs)=some (xs.map PV.int):=NL rfl rfl
def Bo(xs:List Int):aS (lI xs)=some (xs.map PV.int):=NL rfl rfl
def wX(xs:List PV):aS (.tup xs)=some xs:=NL rfl rfl
def ya(xs:List PV):aS (.lst xs)=some xs:=NL rfl rfl
def zg(xs:List PV):aS (.aY xs)=some xs:=NL rfl rfl
def Br(xs:List Int):mH (tI xs)=M.ok (.int xs.length):=by simp[mH,tI,aS,fu]
def Bm(xs:List Int):mH (lI xs)=M.ok (.int xs.length):=by simp[mH,lI,aS,fu]
def zf(xs:List PV):mH (.tup xs)=M.ok (.int xs.length):=NL rfl rfl
def xV(xs:List PV):mH (.lst xs)=M.ok (.int xs.length):=NL rfl rfl
def zm(xs:List PV):mH (.aY xs)=M.ok (.int xs.length):=NL rfl rfl
def zh(xs:List Bool):wy [.lst (xs.map PV.bl)]=M.ok (.bl (xs.all id)):=by simp[wy,all1,rP,fu]
def tf{inj h:α->PV}{rest:aa}(xs:List α)(H:∀a∈xs,f (some (.sh (inj a))::rest)=M.ok (h a)):cT (c_ 0) none f (xs.map inj) (x0::rest)=M.ok (xs.map h):=by
 induction xs generalizing x0 with
 | nil=>rfl
 | cons a r ih =>
  rw[NJ,cT];show M.bind (M.ok ((x0::rest).set 0 (some (.sh (inj a))))) _=_;rw[M.aL,Pc];show M.bind (f _) _=_;rw[H a Nt,M.aL,ih λb hb=>H b (Nl _ hb)];rfl
def wU{p q h:α->PV}{rest:aa}{x1:Option SV}(xs:List α)(H:∀a∈xs,f (some (.sh (p a))::some (.sh (q a))::rest)=M.ok (h a)):cT (gX 0 1) none f (xs.map λa=>.tup [p a,q a]) (x0::x1::rest)=M.ok (xs.map h):=by
 induction xs generalizing x0 x1 with
 | nil=>rfl
 | cons a r ih =>
  rw[NJ,cT];show M.bind (M.ok (((x0::x1::rest).set 0 (some (.sh (p a)))).set 1 (some (.sh (q a))))) _=_;rw[M.aL,Pc,List.set_cons_succ,Pc];show M.bind (f _) _=_;rw[H a Nt,M.aL,ih λb hb=>H b (Nl _ hb)];rfl
def r_{f:α->PV}{g:β->PV}{q:PV}(xs:List α)(ys:List β)(hp:aS p=some (xs.map f))(hq:aS q=some (ys.map g)):zip2 [p,q]=M.ok ((xs.zip ys).map λz=>.tup [f z.1,g z.2]):=by
 simp only[zip2,hp,hq];congr 2;rw[List.zipWith_map,List.zip_eq_zipWith,S9]
def vE{f:α->PV}(xs:List α):fD (xs.map f)=(xs.zipIdx).map λz=>.tup [.int (z.2:Int),f z.1]:=by
 unfold fD;rw[List.mapIdx_eq_zipIdx_map,List.zipIdx_map,Qf];rfl
theorem mh{set:PV->aa->M aa}{body:aa->M Out}{α:Type}{inj:α->PV}(J:List α->aa->Prop)(H:∀a r env,J (a::r) env->∃e' J0,set (inj a) env=M.ok e'/\body e'=M.ok (.nx J0)/\J r J0):∀(xs:List α)(env:aa),J xs env->∃J0,gO set body (xs.map inj) env=M.ok (.nx J0)/\J [] J0
 | [],env,h=>⟨env,rfl,h⟩
 | a::r,env,h=>by
  obtain⟨e',J0,h1,h2,h3⟩:=H a r env h;obtain⟨LQ,h4,h5⟩:=mh J H r J0 h3;refine⟨LQ,?_,h5⟩;rwa[NJ,gO,h1,M.aL,h2,M.aL]
theorem o6(J:aa->Prop)(m:aa->Nat)(H:∀env,J env->(u env=M.ok false)\/(u env=M.ok true/\∃J0,b env=M.ok (.nx J0)/\J J0/\m J0<m env))(env:aa)(h:J env):∃J0,iV u b env=M.ok (.nx J0)/\J J0/\u J0=M.ok false:=by
 have key:∀(n:Nat)(env:aa),J env->m env<n->∃J0,bU u b n env=M.ok (.nx J0)/\J J0/\u J0=M.ok false:=by
  intro n
  induction n with
  | zero=>intro env _ hn;lia
  | succ n ih =>
   intro env h hn;rcases H env h with hu|⟨hu,J0,hb,hj,hm⟩
   .exact⟨env,by rw[bU,hu,M.aL];rfl,h,hu⟩
   .obtain⟨LQ,h1,h2,h3⟩:=ih J0 hj ⋯;exact⟨LQ,by rwa[bU,hu,M.aL,if_pos rfl,hb,M.aL],h2,h3⟩
 obtain⟨J0,h1,h2,h3⟩:=key (m env+1) env h (Om _);refine⟨J0,?_,h2,h3⟩;rw[wz (n:=m env+1) (by rw[h1];exact λz=>nomatch z),h1]
theorem log2_small{i:Int}(h:i.natAbs<2^k)(hk:k<=9000):i.natAbs.log2<67108864:=by
 by_cases z:i.natAbs=0
 .rw[z];decide
 .have:=(Tf z).mpr h;lia
def bZ{i:Int}{l:Nat}(hi:i.natAbs<2^k)(hj:j.natAbs<2^l)(hk:autoParam (k<=9000) aD._auto_1)(hl:autoParam (l<=9000) aD._auto_1):cu (.int i) (.int j)=M.ok (.int (i*j)):=by
 rw[cu,au ⟨log2_small hi hk,log2_small hj hl⟩]
theorem oM{i:Int}(h0:j≠0)(h:j.natAbs<2^9000):cU (.int i) (.int j)=M.ok (.int (i.fdiv j)):=by
 show bT _ _=_;refine au (decide_eq_true ⟨h0,(Tf ⋯).mpr h⟩)
def xA{i:Int}(h0:j≠0):bN (.int i) (.int j)=M.ok (.int (i.fmod j)):=by
 show bT _ _=_;exact au (decide_eq_true h0)
theorem bj{i:Int}(h0:0<j)(h:j<2^64):cU (.int i) (.int j)=M.ok (.int (i/j)):=by
 rw[oM ⋯ (Nr (show j.natAbs<2^64 by lia) (Qz ↑12 ↑12)),Pj _ ⋯]
theorem aw{i:Int}(h0:0<j):bN (.int i) (.int j)=M.ok (.int (i%j)):=by
 rw[xA ⋯,Int.fmod_eq_emod_of_nonneg _ ⋯]
def bJ{j:Nat}{x:PV}(hs:aS p=some xs)(h:xs[j]?=some x):aC p (.int (j:Int))=M.ok x:=by
 cases p with
 | tup ys=>cases hs;simp only[aC,pb h,fu]
 | lst ys=>cases hs;simp only[aC,pb h,fu]
 | aY ys=>cases hs;simp only[aC,pb h,fu]
 |_=>cases hs
section
variable{b:String->Bool}{ob oe:Addr->Option Bool}
def Dr(xs:List Int):sL b ob oe (tI xs)=M.ok (.bl (b "tuple")):=NL rfl rfl
def CQ(xs:List Int):sL b ob oe (lI xs)=M.ok (.bl (b "list")):=NL rfl rfl
def AY(xs:List PV):sL b ob oe (.tup xs)=M.ok (.bl (b "tuple")):=NL rfl rfl
def Ap(xs:List PV):sL b ob oe (.lst xs)=M.ok (.bl (b "list")):=NL rfl rfl
def Bq(i:Int):sL b ob oe (.int i)=M.ok (.bl (b "int")):=NL rfl rfl
def CW(i:Bool):sL b ob oe (.bl i)=M.ok (.bl (b "bool")):=NL rfl rfl
def Bv:sL b ob oe .aJ=M.ok (.bl (b "NoneType")):=NL rfl rfl
def Af(x:Str):sL b ob oe (.str x)=M.ok (.bl (b "str")):=NL rfl rfl
def z0:sL b ob oe .emp=M.ok (.bl (b "dict")):=NL rfl rfl
end
def AO(i j:Int):qp (.int i) (.int j)=M.ok (.bl (!decide (i=j))):=by
 simp only[qp,lH,dat,AB,shaped,Q6,RD,noMix];rw[au ⟨rfl,rfl,trivial⟩];unfold same;rw[M.aL];congr
def Bf(i j:Int):lu (.int i) (.int j)=M.ok (.bl (decide (i=j))):=by
 simp only[lu,lH,dat,AB,shaped,Q6,RD,noMix];rw[au ⟨rfl,rfl,trivial⟩];unfold same;rw[M.aL];congr
def Dj(i j:Bool):qp (.bl i) (.bl j)=M.ok (.bl (!decide (i=j))):=by
 simp only[qp,lH,dat,AB,shaped,Q6,RD,noMix];rw[au ⟨rfl,rfl,trivial⟩];unfold same;rw[M.aL];congr
def Dz(i j:Bool):lu (.bl i) (.bl j)=M.ok (.bl (decide (i=j))):=by
 simp only[lu,lH,dat,AB,shaped,Q6,RD,noMix];rw[au ⟨rfl,rfl,trivial⟩];unfold same;rw[M.aL];congr
def Aj(i j:Int):ED (.int i) (.int j)=M.ok (.bl (decide (i<j))):=NL rfl rfl
def AM(i j:Int):BL (.int i) (.int j)=M.ok (.bl (decide (i<=j))):=NL rfl rfl
def Aq(i j:Int):z_ (.int i) (.int j)=M.ok (.bl (decide (j<i))):=NL rfl rfl
def Ah(i j:Int):BN (.int i) (.int j)=M.ok (.bl (decide (j<=i))):=NL rfl rfl
def xm(i j:Int):dc (.int i) (.int j)=M.ok (.int (i+j)):=NL rfl rfl
def za(i j:Int):jS (.int i) (.int j)=M.ok (.int (i-j)):=NL rfl rfl
theorem cF{n:Int}(h:0<=n)(h2:n<2^62):iE [.int n]=M.ok ((ND n.toNat).map λ(i:Nat)=>.int (i:Int)):=by
 show bT (-(2^62)<=n/\n<2^62) _=_;rw[au ⋯];simp
def f7{set:PV->aa->M aa}{body:aa->M Out}{inj:α->PV}{k:Out->M β}{r:M β}(xs:List α)(J:List α->aa->Prop){env:aa}(h:J xs env)(H:∀a r env,J (a::r) env->∃e' J0,set (inj a) env=M.ok e'/\body e'=M.ok (.nx J0)/\J r J0)(hk:∀J0,J [] J0->k (.nx J0)=r):M.bind (gO set body (xs.map inj) env) k=r:=by
 obtain⟨J0,e,h'⟩:=mh J H xs env h;rw[e,M.aL];exact hk J0 h'
def tU{k:Out->M β}{r:M β}(J:aa->Prop)(m:aa->Nat){env:aa}(h:J env)(H:∀env,J env->(u env=M.ok false)\/(u env=M.ok true/\∃J0,b env=M.ok (.nx J0)/\J J0/\m J0<m env))(hk:∀J0,J J0->u J0=M.ok false->k (.nx J0)=r):M.bind (iV u b env) k=r:=by
 obtain⟨J0,e,h',h2⟩:=o6 J m H env h;rw[e,M.aL];exact hk J0 h' h2
def aX(h:n<=1000):n<=sizeLine:=PX (oU h)
def tupK(ps:List PV):M PV:=bT (ps.length<=sizeLine) (M.ok (.tup ps))
def lstK(ps:List PV):M PV:=bT (ps.length<=sizeLine) (M.ok (.lst ps))
def AJ(fs:aa->M (List PV))(env:aa):gY fs env=(fs env).bind tupK:=rfl
def AU(fs:aa->M (List PV))(env:aa):dn fs env=(fs env).bind lstK:=rfl
def Ec:tupK []=M.ok (.tup []):=au (aX (show 0<=1000 by decide))
def DB:lstK []=M.ok (.lst []):=au (aX (show 0<=1000 by decide))
def D4(a:PV):tupK [a]=M.ok (.tup [a]):=au (aX (show 1<=1000 by decide))
def C0(a:PV):lstK [a]=M.ok (.lst [a]):=au (aX (show 1<=1000 by decide))
def Cy(a b:PV):tupK [a,b]=M.ok (.tup [a,b]):=au (aX (show 2<=1000 by decide))
def DT(a b:PV):lstK [a,b]=M.ok (.lst [a,b]):=au (aX (show 2<=1000 by decide))
def CT(a b c:PV):tupK [a,b,c]=M.ok (.tup [a,b,c]):=au (aX (show 3<=1000 by decide))
def EA(a b c:PV):lstK [a,b,c]=M.ok (.lst [a,b,c]):=au (aX (show 3<=1000 by decide))
def C3(a b c d:PV):tupK [a,b,c,d]=M.ok (.tup [a,b,c,d]):=au (aX (show 4<=1000 by decide))
def Ee(a b c d:PV):lstK [a,b,c,d]=M.ok (.lst [a,b,c,d]):=au (aX (show 4<=1000 by decide))
def Ej(a b c d e:PV):tupK [a,b,c,d,e]=M.ok (.tup [a,b,c,d,e]):=au (aX (show 5<=1000 by decide))
def Ex(a b c d e:PV):lstK [a,b,c,d,e]=M.ok (.lst [a,b,c,d,e]):=au (aX (show 5<=1000 by decide))
def Cs(a b c d e f:PV):tupK [a,b,c,d,e,f]=M.ok (.tup [a,b,c,d,e,f]):=au (aX (show 6<=1000 by decide))
def CA(a b c d e f:PV):lstK [a,b,c,d,e,f]=M.ok (.lst [a,b,c,d,e,f]):=au (aX (show 6<=1000 by decide))
end
def qe(m:M α)(Q:α->Prop):Prop:=∃a,m=M.ok a/\Q a
section
variable{γ:Type}{Q Q':α->Prop}{m:M α}
end
def EY(i:Nat)(env:aa)(xs:List PV)(p:PV):M Out:=if xs.length<sizeLine then M.ok (.nx (env.set i (some (.ow (xs++[p]))))) else none
def jF(i:Nat)(f:aa->M PV)(env:aa):qk i f env=(ownAt i env).bind λxs=>(f env).bind λp=>EY i env xs p:=by
 unfold qk ownAt;rcases env[i]? with _|_|(_|_|_)<;>rfl
def jQ{env:aa}(h:xs.length<1000):EY i env xs p=M.ok (.nx (env.set i (some (.ow (xs++[p]))))):=if_pos (oU (PX h))
def Bg{f:α->PV}(xs:List α)(h:aS p=some (xs.map f)):Fm [p]=M.ok (xs.zipIdx.map λz=>.tup [.int (z.2:Int),f z.1]):=by
 show Hl p=_;unfold Hl;rw[h];show M.ok (fD _)=_;rw[vE]
def JU{us:List α}(h:us.length=1):∃a,us=[a]:=by
 cases us with
 | nil=>cases h
 | cons a t=>cases t with
  | nil=>exact⟨a,rfl⟩
  |cons b t=>cases h
def ln2{us:List α}(h:us.length=2):∃a b,us=[a,b]:=by
 cases us with
 | nil=>cases h
 |cons a t=>obtain⟨b,rfl⟩:=JU (RE h);exact⟨a,b,rfl⟩
def G6{us:List α}(h:us.length=3):∃a b c,us=[a,b,c]:=by
 cases us with
 | nil=>cases h
 |cons a t=>obtain⟨b,c,rfl⟩:=ln2 (RE h);exact⟨a,b,c,rfl⟩
def Jt{us:List α}(h:us.length=4):∃a b c d,us=[a,b,c,d]:=by
 cases us with
 | nil=>cases h
 |cons a t=>obtain⟨b,c,d,rfl⟩:=G6 (RE h);exact⟨a,b,c,d,rfl⟩
def uF(K:Nb):Bool:=K.all λp=>match p.2.cls with
 | .type t=>t != "list"
 |_=>true
def zQ{K:Nb}(h:uF K=true){o:Obj}(e:K.lookup a=some o):o.cls≠.type "list" := by
 induction K with
 | nil=>cases e
 | cons p r ih =>
  obtain⟨b,u⟩:=p;rw[uF,TQ,Oo] at h;rw[Oa] at e;cases q:a==b with
  | true =>
   rw[q] at e;cases e;intro z;have h1:=h.1;simp only[z] at h1;exact absurd h1 ↑12
  |false=>rw[q] at e;exact ih h.2 e
theorem oK{H:Hp}:∀ns:List Int,aB H (ns.map PV.int) (ns.map V.int)
 | []=>.nil
 |i::r=>.cons (.int i) (oK r)
abbrev vf(x q:Str)(t:Stmt)(s:Value)(c:Addr):FuncData:=N6 x q (fJ t) (cK t) (aA t) .none .none .none s none (.ref c) .none
variable{t:Stmt}
def bC.of{K:Nb}{q:Str}{kV doc pm:Value}{an:Option Addr}{J6 ct:Value}{f:Addr}(h1:K.lookup f=some ⟨.type "function",none,.func (N6 x q (fJ t) (cK t) (aA t) dv kV doc pm an J6 ct),⟨[]⟩⟩)(h2:OG K J6 q=true)(h3:NS K (.ref f)=true):bC K x q t dv f (N6 x q (fJ t) (cK t) (aA t) dv kV doc pm an J6 ct):=⟨⟨_,_,_,_,_,_,_,_,_,rfl,h1,h2⟩,h3⟩
section
variable{P:List α->Prop}
def GB(h:∀a b,P [a,b]):∀us,us.length=2->P us:=λus hl=>by obtain⟨a,b,rfl⟩:=ln2 hl;exact h a b
def JC(h:∀a b c,P [a,b,c]):∀us,us.length=3->P us:=λus hl=>by obtain⟨a,b,c,rfl⟩:=G6 hl;exact h a b c
def JD(h:∀a b c d,P [a,b,c,d]):∀us,us.length=4->P us:=λus hl=>by obtain⟨a,b,c,d,rfl⟩:=Jt hl;exact h a b c d
end
def bD.of{P:List Str}{sc:Scope}(h1:autoParam (sc.kind=.function) aR._auto_1)(h2:autoParam (sc.isCoroutine=false) aR._auto_1)(h3:autoParam (sc.isGenerator=false) aR._auto_1)(h4:autoParam (N.Nodup) aN._auto_1)(h5:autoParam (N.take P.length=P) aR._auto_1)(h6:autoParam (∀x∈P,sc.names.lookup x=some .local\/sc.names.lookup x=some .cell) aN._auto_1)(h7:autoParam (∀y∈sc.names,y.2≠.free) aN._auto_1):bD N P sc:=⟨h1,h2,h3,h4,h5,h6,h7⟩
def bF(hN:X.N.Nodup)(hi:autoParam (X.N[i]?=some x) aR._auto_1)(hx:autoParam (Loc X.env.scope x) aG._auto_1)(hf:autoParam ↑1 aG._auto_1):PG X (.Name x pos) (bw i):=Ax hN hi hx hf
def goN(k:aa->M Out):Out->M Out
 | .nx e=>k e
 |o=>M.ok o
def runs:List (aa->M Out)->aa->M Out
 | [],env=>M.ok (.nx env)
 |f::fs,env=>(f env).bind (goN (runs fs))
def chain(E:XK):List (aa->M Out)->TS->TS
 | [],u=>u
 |f::fs,u=>xE (tS E f) (chain E fs u)
theorem jk{E:XK}{u:TS}{B H₀:Hp}{D:Ends}:∀{fs:List (aa->M Out)}{Hs H:Hp}{σ:St}{env:aa},SR B H₀ Hs H σ env->(∃e,runs fs env=M.ok (.nx e)/\∀σ' J1 H',SR B H₀ J1 H' σ' e->u D σ' H')\/(∃p,runs fs env=M.ok (.rt p)/\∀v J1 H',aP B H₀ J1 H'->Rep J1 p v->D.rt v H')->chain E fs u D σ H
 | [],Hs,H,σ,env,sr,h=>by
  rcases h with ⟨e,h1,h2⟩|⟨p,h1,_⟩
  .cases h1;exact h2 _ _ _ sr
  .cases h1
 | f::fs,Hs,H,σ,env,sr,h=>by
  have hr:∃o,f env=M.ok o:=by
   have:∃z,(f env).bind (goN (runs fs))=M.ok z:=by
    rcases h with ⟨e,h1,_⟩|⟨p,h1,_⟩
    .exact⟨_,h1⟩
    .exact⟨_,h1⟩
   obtain⟨z,hz⟩:=this;cases q:f env with
   | none=>rw[q] at hz;cases hz
   | some x=>cases x with
    | error e=>rw[q] at hz;cases hz
    | ok o=>exact⟨o,rfl⟩
  obtain⟨o,ho⟩:=hr;have hb:∀z,runs (f::fs) env=M.ok z->goN (runs fs) o=M.ok z:=λz hz=>by
   have:(f env).bind (goN (runs fs))=M.ok z:=hz;rwa[ho] at this
  refine⟨B,H₀,Hs,env,sr,?_⟩;rw[ho];cases o with
  | nx e' =>
   intro σ' J1 H' KN;refine jk KN ?_;rcases h with ⟨e,h1,h2⟩|⟨p,h1,h2⟩
   .exact .inl ⟨e,hb _ h1,h2⟩
   .exact .inr ⟨p,hb _ h1,h2⟩
  | rt p' =>
   intro v J1 H' g r;rcases h with ⟨e,h1,h2⟩|⟨p,h1,h2⟩
   .have:=hb _ h1;cases this
   .have:=hb _ h1;cases this;exact h2 v J1 H' g r
  | bk e'=>rcases h with ⟨e,h1,h2⟩|⟨p,h1,h2⟩<;>(have:=hb _ h1;cases this)
  |ct e'=>rcases h with ⟨e,h1,h2⟩|⟨p,h1,h2⟩<;>(have:=hb _ h1;cases this)
def Ij(p:PV):Bool:=match p with
 | .aJ=>true
 | .bl _=>true
 | .int _=>true
 | .str _=>true
 | .tup _=>true
 | .lst _=>true
 |_=>false
abbrev yx(K:Nb)(i:Nat):TS:=xE (E8 (tB (GA (FK K) (zG (DV i) (zG (tC (.ty "list")) D9)))) (xE (BZ (FO K "list" yN (DV i))) rH) rH) rH
structure BM (l:Addr) (H H':Hp):Prop where
 at_:H' l=H l
 old:∀a o,H a=some o->(∀ws,o≠.lst ws)->H' a=some o
 lst:∀a ws,H a=some (.lst ws)->∃ws',H' a=some (.lst ws')
def SR.FP{H':Hp}{B:Hp}{σ':St}{env:aa}{l:Addr}{v:Option V}(r:SR B H₀ Hs H σ env)(w:BM l H H')(hσ:σ'=σ\/∃v,σ'=σ.set i v)(hi:∀p,env[i]?=some (some (.sh p))->pP p=false):SR (jy Hs) H' (jy Hs) H' σ' (qw env) where
 gr:=aP.refl λa o e=>by
  obtain⟨e1,n⟩:=yz e;exact w.old a o (r.gr.sub _ _ e1) n
 len:=by
  unfold qw;rw[Nm];rcases hσ with rfl|⟨v,rfl⟩
  .exact r.len
  .rw[OZ];exact r.len
 at_:=λj x e=>by
  obtain⟨p,e1,n,rfl⟩:=uQ e;obtain⟨v,h1,h2⟩:=r.sh j p e1;refine⟨v,?_,h2.nl n⟩;rcases hσ with rfl|⟨v,rfl⟩
  .exact h1
  .rw[Oe,if_neg]
   .exact h1
   .rintro rfl;rw[hi p e1] at n;cases n
 ap:=λj k x y a n ei ej ox=>by
  obtain⟨p,_,_,rfl⟩:=uQ ei;cases ox
def yc(fo:aa->M (List PV))(i:Nat)(env:aa):Prop:=(∃ys,fo env=M.ok ys/\∀p∈ys,Ij p=true)/\∀p,env[i]?=some (some (.sh p))->pP p=false
variable{D:Ends}
theorem A0{K:Nb}{fo:aa->M (List PV)}{B:Hp}{env:aa}(sr:SR B H₀ Hs H σ env)(hi:i<σ.length)(ok:yc fo i env)(q:∀σ' J1 H',SR J1 H' J1 H' σ' (qw env)->D.nx σ' H'):C4 (xi K (tO E fo)) (bw i) (yx K i) D σ H:=by
 obtain⟨⟨ys,ey,ky⟩,ki⟩:=ok;refine⟨B,H₀,Hs,env,sr,?_⟩;rw[ey];intro vs l J4 H1 g rl nl;have KW:=sr.grow g;have hs1:J4 l=none:=by
  cases z:J4 l with
  | none=>rfl
  | some o=>have:=g.sub _ _ z;rw[nl] at this;cases this
 have vl:=rl.length;refine⟨l,rfl,⟨vs,fj.of av⟩,?_⟩
 let J:Nat->St->Hp->Prop:=λj σ' H'=>(σ'=σ\/∃v,σ'=σ.set i v)/\BM l (upd H1 l (.lst vs)) H'
 refine⟨λj m σ' H'=>m=vs.length-j/\j<=vs.length/\J j σ' H',⟨_,rfl,NT _,.inl rfl,⟨rfl,λ_ _ e _=>e,λ_ ws e=>⟨ws,e⟩⟩⟩,?_⟩;rintro j m σ' H' ⟨rfl,hj,hσ,w⟩;have hl:H' l=some (.lst vs):=w.at_.trans av
 by_cases lt:j<vs.length
 .refine .inr ⟨⟨vs,vs[j],fj.of hl,Nd lt⟩,J (j+1),fun σ2 H2 h=>⟨_,by lia,rfl,lt,h⟩,λx H2 yl=>?_⟩;obtain⟨eH,yl⟩:=yl;rw[eH];have ex:=yl _ (fj.of hl);rw[Nd lt] at ex;cases ex;have lt':j<ys.length:=by lia
  obtain⟨u,eu,ru⟩:=rl.get (Nd lt');rw[Nd lt] at eu;cases eu;have okp:=ky _ (Rp lt');have hσ2:∃v,σ'.set i (some vs[j])=σ.set i v:=by
   rcases hσ with rfl|⟨v,rfl⟩
   .exact⟨_,rfl⟩
   .exact⟨some vs[j],by rw[List.set_set]⟩
  have il:i<σ'.length:=by
   rcases hσ with rfl|⟨v,rfl⟩
   .exact hi
   .rw[OZ];exact hi
  have si:(σ'.set i (some vs[j]))[i]?=some (some vs[j]):=by rw[Oe,if_pos rfl,if_pos il]
  have ne:∀{a o},J4 a=some o->a≠l:=λ{a o} e z=>by subst z;rw[hs1] at e;cases e
  have in1:∀{a o},J4 a=some o->(upd H1 l (.lst vs)) a=some o:=λ{a o} e=>by rw[aq (ne e)];exact g.sub _ _ e
  generalize hp:ys[j]=p at *;generalize hv:vs[j]=v at *;have no:∀a,zW p=some a->dU a "list"=false->gm K H' v (.type a)->yx K i { D with nx:=J (j+1),ct:=J (j+1),bk:=D.nx } (σ'.set i (some v)) H':=λa ha hb ht=>by
   refine⟨v,si,v,"list",_,false,rfl,ht,by rw[Az K ha ↑12,hb],false,rfl,?_⟩;show (if false=true then _ else _);rw[if_neg N1];exact⟨.inr hσ2,w⟩
  cases ru with
  | aJ=>exact no _ rfl rfl .aJ
  | bl b=>exact no _ rfl rfl (.bl b)
  | int n=>exact no _ rfl rfl (.int n)
  | str x=>exact no _ rfl rfl (.str x)
  | tup h r=>exact no _ rfl rfl (.tup (w.old _ _ (in1 h) λ_=>nofun))
  | @lst a xs ws h r =>
   obtain⟨ws',hw⟩:=w.lst _ _ (in1 h);refine⟨_,si,_,"list",_,true,rfl,.lst hw,Az K (p:=.lst []) rfl ↑12,true,rfl,?_⟩;show (if true=true then _ else _);rw[if_pos rfl];refine⟨_,si,.inl ⟨rfl,ws',fj.of hw⟩,a,ws',rfl,rfl,hw,.inr hσ2,?_⟩;have na:l≠a:=(ne h).symm;refine⟨by rw[aq na];exact w.at_,λb o e n=>?_,λb us e=>?_⟩
   .have nb:b≠a:=λz=>by
     subst z;rw[in1 h] at e;exact n _ (Nx e).symm
    rw[aq nb];exact w.old b o e n
   .by_cases z:b=a
    .subst z;exact⟨[],av⟩
    .rw[aq z];exact w.lst b us e
  | _=>cases okp
 .refine .inl ⟨⟨vs,fj.of hl,by lia⟩,q _ _ _ ((KW.grow (aP.side (o:=.lst vs) KW.gr.sub nl)).FP (i:=i) (v:=none) w hσ ki)⟩
def DI(fF fM fT:List (aa->M Out))(fo:aa->M (List PV))(i:Nat)(env:aa):Prop :=
 ∃e1,runs fF env=M.ok (.nx e1)/\(runs fM (pv e1)=M.ok (.rt (.bl true))\/∃e2,runs fM (pv e1)=M.ok (.nx e2)/\i<e2.length/\yc fo i e2/\runs fT (qw e2)=M.ok (.rt (.bl true)))
def GH(n:Nat)(ph:aa->Prop):Sp:=λvs H Q E=>vs.length=1/\∃ps Hs,aW Hs H/\aB Hs ps vs/\(∀H',Q (.bl true) H')/\ph (eM n ps)
abbrev IQ(K:Nb)(E:XK)(fF fM fT:List (aa->M Out))(fo:aa->M (List PV))(i:Nat):TS:=chain E fF (BU (chain E fM (xE (C4 (xi K (tO (λ_=>E) fo)) (bw i) (yx K i)) (chain E fT rH))))
def FX{K:Nb}{E:XK}{fF fM fT:List (aa->M Out)}{fo:aa->M (List PV)}{B:Hp}{env:aa}(sr:SR B H₀ Hs H σ env)(hq:∀H',D.rt (.bl true) H')(h:DI fF fM fT fo i env):IQ K E fF fM fT fo i D σ H:=by
 obtain⟨e1,h1,h2⟩:=h;have rt:∀{B H₀:Hp}(v:V)(J1 H':Hp),aP B H₀ J1 H'->Rep J1 (.bl true) v->D.rt v H':=λv J1 H' _ r=>by cases r;exact hq H'
 refine jk sr (.inl ⟨e1,h1,fun σ1 J4 H1 KW=>⟨_,_,J4,e1,KW,λJ5 H2 Kd=>jk Kd ?_⟩⟩);rcases h2 with h2|⟨e2,h2,hl,ok,h3⟩
 .exact .inr ⟨_,h2,rt⟩
 .refine .inl ⟨e2,h2,fun σ3 KY H3 Li=>?_⟩;exact A0 Li (by rwa[Li.len]) ok fun σ4 Hs4 H4 sr4=>jk sr4 (.inr ⟨_,h3,rt⟩)
def bC.JJ{K:Nb}{qual:Str}{st:Stmt}{f:Addr}{fF fM fT:List (aa->M Out)}{fo:aa->M (List PV)}(F:bC K x qual st dv f fd)(S:bD N ps (aA st))(h1:ps.length=1)(hb:∀(J6:Value)(A:Around)(outer:List Env)(s:Shared)(H:Hp)(E:XK),bH k (A.deeper (envOfC qual (aA st) s.heap.objs.size f J6))->dG ((gS (cf P w) P w K mg base N qual (aA st) f J6 A outer s H E).out λ_=>E) (λ_=>E)->gP ((gS (cf P w) P w K mg base N qual (aA st) f J6 A outer s H E).out λ_=>E) (cK st) (IQ K E fF fM fT fo i)):aV P w K mg base (cf P w) (k+1) f fd ps (GH N.length (DI fF fM fT fo i)):=by
 obtain⟨oc,od,kV,doc,pm,an,J6,ct,LM,rfl,lk,Ko⟩:=F.ex;refine mF lk Ko S (λvs H Q E h=>by rw[h.1,h1]) λA outer s H vs Q E hr hs=>⟨_,hb J6 A outer s H E hr (qX rfl rfl),?_⟩
 obtain⟨_,K_,Hs,sm,r,hq,ph⟩:=hs;exact FX (SR.start sm r) hq ph
def sV{l:PySem.W.OpenLaw}{q:Program}{loose:List Str}{XP:(Str->Option Value)->Heap->Prop}{YP:World->Heap->Prop}{d:DefRec}{K:Params->Nb}{ph:aa->Prop}(hn:l.most=some n)(Mf:n<=sizeLine)(hdf:d.params.defaults=[])(hr:bH k callerA)(hY:∀(w:World)(h:Heap),YP w h->(K w.params).In h)(hK:∀w:World,uF (K w.params)=true)(F:∀(w:World)(mg:Str->Option Value)(fa:Addr)(h:Heap),(K w.params).In h->h.Ns mainGlobals mg->mg d.name=some (.ref fa) ->∃ fd:FuncData,(∀(s:Shared)(u:Value),BindsTo s fd ⟨[u],[]⟩ [(x,u)]) ∧∀base:Heap,(K w.params).In base->base.Ns mainGlobals mg->aV l.prog w (K w.params) mg base (cf l.prog w) k fa fd [x] (GH m ph))(Mr:∀ns:List Int,ns.length<=n->(∀i∈ns,QO i<=1048576)->ph (eM m [.aY (ns.map PV.int)])):PySem.W.WalkO q loose XP YP l.row.toRowW d [] (λf vs=>PySem.call f vs):=by
 intro w s₀ s₁ mg mb G Y fa o pm cd doc dV kV ho hd Ko hD hmg hg args vals as vQ hlay hrd hwl hlo;obtain rfl:dV=.none:=PySem.W.Dflts.none hD hdf;obtain rfl:kV=.none:=PySem.W.Dflts.noKw hD;obtain⟨a,vs,ns,rfl,rfl,hobj,hints,hlen⟩:=Att.vJ hn vQ hwl;have MM:∀i∈ns,QO i<=1048576:=λi hi=>intBits_le_of_layable (PySem.W.layableW_item (PySem.W.layableW_arg hlay _ (N3.mpr rfl)) (.int i) (OB.mpr ⟨i,hi,rfl⟩));have KX:=hY w _ Y;obtain⟨fd,hb,hF⟩:=F w mg fa _ KX G.T.g hmg;have hs:=Mr ns hlen MM;refine PySem.W.enter_call (QU (ye KX G.T.g G.T.b G.T.builtins G.T.nolimit hg hobj hints (NZ hlen Mf) hr hF hb (λH hO hS=>⟨rfl,[.aY (ns.map PV.int)],H,λ_ _ e=>e,?_,λ_=>rfl,hs⟩) λH e s' z=>?_) λr s' hq=>?_)
 .rcases hS with (hS|⟨ob,hS⟩)|⟨ob,J2,m,e1,e2,_⟩
  .rcases hO a with z|⟨ob,xs,z⟩
   .rw[z] at hS;cases hS
   .rw[z] at hS;cases hS
  .exact .cons (.aY hS (oK ns)) .nil
  .exact absurd e2 (zQ (hK w) e1)
 .obtain⟨ea,T,C,dd,Hc,_,_,_,_,_,_,_,_,z⟩:=z;exact z
 .obtain⟨rfl,h2,h3,h4⟩:=hq;exact⟨.inl ⟨.bool true,.bool true,[],rfl,λ_=>rfl,.bool true,Att.vG l _,λ_=>⟨List.Pairwise.nil,λ_ hm=>(nomatch hm)⟩⟩,h2,h3,h4⟩
def z6:Nat->(List Value->Prop)->Prop
 | 0,P=>P []
 |n+1,P=>∀a,z6 n λl=>P (a::l)
theorem qd:∀{n:Nat}{P:List Value->Prop},z6 n P->∀us:List Value,us.length=n->P us
 | 0,_,h,[],_=>h
 |n+1,_,h,a::r,e=>qd (h a) r (RE e)
section
variable{K:Nb}{q:Str}{tO:List PV->M (List PV)}
def mS(P:Program)(w:World)(base:Heap)(X:K.In h)(G:h.Ns mainGlobals mg)(a c:Addr)(s:Value)(ok:bC K x q t .none a (vf x q t s c)->aV P w K mg base (cf P w) n a (vf x q t s c) ps (gb m (bL m J8)))(h1:autoParam (K.lookup a=some ⟨.type "function",none,.func (vf x q t s c),⟨[]⟩⟩) aK._auto_1)(h2:autoParam (OG K (.ref c) q=true) aK._auto_1)(h3:autoParam (NS K (.ref a)=true) aK._auto_1)(h4:autoParam (RC K mainGlobals x=some (some (.ref a))) aK._auto_1)(h5:autoParam (ps.length=m) aR._auto_1)(h6:z6 ps.length λus=>bindArgs (vf x q t s c) ⟨us,[]⟩=pure (ps.zip us):=by (repeat intro _);rfl):gf P w K mg base n x m J8 :=
 ⟨⟨a,_,ps,TR X G h4,h3,h5,.all (qd h6),ok (.of h1 h2 h3)⟩⟩
def Gy(P:Program)(w:World)(base:Heap){C:Addr}(cc:nV K C)(a c:Addr)(s:Value)(ok:bC K x q t .none a (vf x q t s c)->aV P w K mg base (cf P w) n a (vf x q t s c) ps (gb m (bL m J8)))(h1:autoParam (K.lookup a=some ⟨.type "function",none,.func (vf x q t s c),⟨[]⟩⟩) aK._auto_1)(h2:autoParam (OG K (.ref c) q=true) aK._auto_1)(h3:autoParam (NS K (.ref a)=true) aK._auto_1)(h4:autoParam (NO K (.ref C) x=some (some (.ref a))) aK._auto_1)(h5:autoParam (Pk K (.ref a)=true) aK._auto_1)(h6:z6 ps.length λus=>bindArgs (vf x q t s c) ⟨us,[]⟩=pure (ps.zip us):=by (repeat intro _);rfl):AV P w K mg base C n x m J8 :=
 ⟨⟨a,_,ps,cc,⟨h4,h5,h3⟩,.all (qd h6),ok (.of h1 h2 h3)⟩⟩
end
def bC.jW{K:Nb}{qual:Str}{st:Stmt}{f:Addr}{g:aa->M Out}(F:bC K x qual st dv f fd)(N:List Str)(hb:N.Nodup->∀(J6:Value)(A:Around)(outer:List Env)(s:Shared)(H:Hp)(E:XK),bH k (A.deeper (envOfC qual (aA st) s.heap.objs.size f J6))->dG ((gS (cf P w) P w K mg base N qual (aA st) f J6 A outer s H E).out λ_=>E) (λ_=>E)->gP ((gS (cf P w) P w K mg base N qual (aA st) f J6 A outer s H E).out λ_=>E) (cK st) (tS E g))(S:bD N ps (aA st):=by exact .of):aV P w K mg base (cf P w) (k+1) f fd ps (gb ps.length (bL ps.length (bb N.length g))):=F.JN S (hb S.nd)
end L2
namespace sJ
open PySem L2 PyProof.Rows
def aO:Addr:=84
def jG:Addr:=257
def aH:Addr:=110
def jM:Addr:=302
def jV:Addr:=283
def gG:Addr:=58
def aE:Addr:=136
def iC:Addr:=174
def fR:Addr:=155
def iu:Addr:=231
def aM:Addr:=193
def jt:Addr:=212
def az:Addr:=374
def jn:Addr:=38
def ez:List Addr:=[aO,aH,aE,aM]
def eB:List Addr:=[]
def d_:List Addr:=[aO]
def dN:List Addr:=[aH,aE,aM]
def dY:List Addr:=[]
def dX:List Addr:=[]
def kD:List Addr:=[]
def kC:List Addr:=[aO,aH,aE,aM]
def oW:List Addr:=[]
def o7:List Addr:=[]
def dJ:List Addr:=[aH]
def dP:List Addr:=[aO,aE,aM]
def iT:List Addr:=[]
def i9:List Addr:=[]
def ke:List Addr:=[]
def kI:List Addr:=[aO,aH,aE,aM]
def oO:List Addr:=[]
def ot:List Addr:=[]
def kx:List Addr:=[]
def j4:List Addr:=[aO,aH,aE,aM]
def nZ:List Addr:=[]
def oy:List Addr:=[]
def hU:List Addr:=[]
def g8:List Addr:=[aO,aH,aE,aM]
def k7:List Addr:=[]
def k_:List Addr:=[]
def dZ:List Addr:=[aE]
def dO:List Addr:=[aO,aH,aM]
def i7:List Addr:=[]
def i8:List Addr:=[]
def iU:List Addr:=[]
def iZ:List Addr:=[aO,aH,aE,aM]
def ng:List Addr:=[]
def mT:List Addr:=[]
def gj:List Addr:=[]
def gx:List Addr:=[aO,aH,aE,aM]
def jA:List Addr:=[]
def jK:List Addr:=[]
def kO:List Addr:=[]
def kA:List Addr:=[aO,aH,aE,aM]
def o5:List Addr:=[]
def n9:List Addr:=[]
def i_:List Addr:=[aM]
def jb:List Addr:=[aO,aH,aE]
def i0:List Addr:=[]
def i5:List Addr:=[]
def kH:List Addr:=[]
def kG:List Addr:=[aO,aH,aE,aM]
def oj:List Addr:=[]
def n8:List Addr:=[]
def Jr:List Addr:=[aO,aH,aE,aM]
def qh:List Addr:=[aO]
def jq:List Addr:=[aH,aE]
abbrev cI(i:Int):aa->M PV:=λ_=>M.ok (.int i)
def gD:aa->M Out :=
 (ar (retS (kf (ji (λa=>dU a "int") eW eW (af 0)) (wY (ji (λa=>dU a "bool") eW eW (af 0)))))
 ao)
def cY:List PV->M PV:=bL 1 (bb 1 gD)
def jJ:aa->M Out :=
 (ar (fH (ny (gR (cm (ji (λa=>["list","tuple"].any λt=>dU a t) eW eW (af 0)))) (cm (ah qp (ai cy (ae (af 0) aj)) (af 1)))) (ar (retS (λ_=>M.ok (.bl false)))
 ao) ao)
 (ar (retS (ai wy (ae (fZ (dq (itemsOf (af 0)) (c_ 0) none (ai cY (ae (af 0) aj)) 1 [])) aj)))
 ao))
def h_:List PV->M PV:=bL 2 (bb 2 jJ)
def jv:aa->M Out :=
 (ar (bO 2 (gY (ae (af 0) (ae (cI 1) (ae (cI 0) aj)))))
 (ar (bO 3 (gY (ae (af 1) (ae (cI 0) (ae (cI 1) aj)))))
 (ar (iV (cm (ah qp (ah aC (af 3) (cI 0)) (cI 0))) (ar (bO 4 (ah cU (ah aC (af 2) (cI 0)) (ah aC (af 3) (cI 0))))
 (ar (bO 5 (gY (ae (ah jS (ah aC (af 2) (cI 0)) (ah cu (af 4) (ah aC (af 3) (cI 0)))) (ae (ah jS (ah aC (af 2) (cI 1)) (ah cu (af 4) (ah aC (af 3) (cI 1)))) (ae (ah jS (ah aC (af 2) (cI 2)) (ah cu (af 4) (ah aC (af 3) (cI 2)))) aj)))))
 (ar (bO 2 (af 3))
 (ar (bO 3 (af 5))
 ao)))))
 (ar (fH (cm (ah ED (ah aC (af 2) (cI 0)) (cI 0))) (ar (retS (gY (ae (wt (ah aC (af 2) (cI 0))) (ae (wt (ah aC (af 2) (cI 1))) (ae (wt (ah aC (af 2) (cI 2))) aj)))))
 ao) ao)
 (ar (retS (af 2))
 ao)))))
def jw:List PV->M PV:=bL 2 (bb 6 jv)
def eG:aa->M Out :=
 (ar (bO 1 (cI 1))
 (ar (jH (itemsOf (af 0)) (c_ 2) (ar (bO 1 (ah cu (ah cU (af 1) (ah aC (ai jw (ae (af 1) (ae (af 2) aj))) (cI 0))) (af 2)))
 ao))
 (ar (retS (af 1))
 ao)))
def eF:List PV->M PV:=bL 1 (bb 3 eG)
def c8:aa->M Out :=
 (ar (retS (kf (ai cY (ae (af 0) aj)) (j7 BL BL (af 1) (af 0) (af 2))))
 ao)
def cC:List PV->M PV:=bL 3 (bb 3 c8)
def cH:aa->M Out :=
 (ar (fH (cm (ah z_ (ai cy (ae (af 0) aj)) (cI 6))) (ar (ja aM (ae (λ_=>M.ok (.str "a vault has at most six dials")) aj))
 ao) ao)
 (ar (fH (cm (ah lu (ai cy (ae (af 0) aj)) (cI 0))) (ar (dg aO "dial" (ae (cI 0) aj))
 ao) ao)
 (ar (jH (oN Fm (ae (af 0) aj)) (gX 1 2) (ar (fH (gR (cm (ai cC (ae (af 2) (ae (cI 2) (ae (cI 360) aj)))))) (ar (dg aO "dial" (ae (af 1) aj))
 ao) ao)
 ao))
 ao)))
def bg:List PV->M PV:=bL 1 (bb 3 cH)
def cN:aa->M Out :=
 (ar (fH (cm (ah z_ (ai cy (ae (af 0) aj)) (cI 8))) (ar (ja aM (ae (λ_=>M.ok (.str "a vault has at most eight levers")) aj))
 ao) ao)
 (ar (jH (oN Fm (ae (af 0) aj)) (gX 2 3) (ar (fH (gR (cm (ai h_ (ae (af 3) (ae (af 1) aj))))) (ar (dg aH "lever" (ae (af 2) aj))
 ao) ao)
 ao))
 ao))
def bp:List PV->M PV:=bL 2 (bb 4 cN)
def de:aa->M Out :=
 (ar (fH (cm (ah f_ (af 1) (λ_=>M.ok .aJ))) (ar (retS (ah cu (gY (ae (cI 1) aj)) (ai cy (ae (af 0) aj))))
 ao) ao)
 (ar (jH (oN iE (ae (ai (uE λi j=>if j>i then j else i) (ae (ai cy (ae (af 0) aj)) (ae (ai cy (ae (af 1) aj)) aj))) aj)) (c_ 2) (ar (fH (ny (cm (ah BN (af 2) (ai cy (ae (af 0) aj)))) (cm (ah BN (af 2) (ai cy (ae (af 1) aj))))) (ar (dg aE "lever" (ae (af 2) aj))
 ao) ao)
 (ar (fH (gR (cm (ai cC (ae (ah aC (af 1) (af 2)) (ae (cI 1) (ae (cI 1000) aj)))))) (ar (dg aE "lever" (ae (af 2) aj))
 ao) ao)
 ao)))
 (ar (retS (ai dW (ae (af 1) aj)))
 ao)))
def bQ:List PV->M PV:=bL 2 (bb 3 de)
def lO:aa->M Out :=
 (ar (retS (ai dW (ae (fZ (dq (oN zip2 (ae (af 0) (ae (af 1) aj))) (gX 0 1) none (ah bN (af 0) (af 1)) 2 [])) aj)))
 ao)
def iA:List PV->M PV:=bL 2 (bb 2 lO)
def eN:aa->M Out :=
 (ar (fH (cm (ah ED (af 1) (ai cy (ae (af 0) aj)))) (ar (retS (ah aC (af 0) (af 1)))
 ao) ao)
 (ar (bO 2 (ah dc (ah cu (cI 7919) (af 1)) (cI 5)))
 (ar (fH (cm (ah z_ (ai cy (ae (af 0) aj)) (cI 0))) (ar (bO 2 (ah bN (ah dc (ah aC (af 0) (ah bN (ah cu (cI 7) (af 1)) (ai cy (ae (af 0) aj)))) (ah cu (cI 7919) (af 1))) (cI 2147483647)))
 ao) ao)
 (ar (retS (ah bN (ah cu (af 2) (af 2)) (cI 2147483629)))
 ao))))
def bG:List PV->M PV:=bL 2 (bb 3 eN)
def ed:aa->M Out :=
 (ar (bO 2 (ah bN (ah dc (ah dc (af 0) (ah cu (cI 7919) (af 1))) (cI 11)) (cI 2147483647)))
 (ar (bO 2 (ah bN (ah dc (ah cu (af 2) (af 2)) (ah cu (cI 48271) (af 1))) (cI 2147483629)))
 (ar (retS (ah bN (ah dc (ah dc (ah cu (af 2) (af 2)) (ah cu (cI 7) (af 2))) (af 1)) (cI 2147483587)))
 ao)))
def bh:List PV->M PV:=bL 2 (bb 3 ed)
def c9(rS:List PV->M PV):aa->M Out :=
 (ar (fH (cm (ji (λa=>["list","tuple"].any λt=>dU a t) eW eW (af 1))) (ar (fH (ny (cm (ah qp (ji (λa=>dU a "list") eW eW (af 1)) (ji (λa=>dU a "list") eW eW (af 0)))) (gR (cm (ji (λa=>["list","tuple"].any λt=>dU a t) eW eW (af 0))))) (ar (retS (λ_=>M.ok (.bl false)))
 ao) ao)
 (ar (fH (cm (ah qp (ai cy (ae (af 0) aj)) (ai cy (ae (af 1) aj)))) (ar (retS (λ_=>M.ok (.bl false)))
 ao) ao)
 (ar (jH (oN zip2 (ae (af 0) (ae (af 1) aj))) (gX 2 3) (ar (fH (gR (cm (ai (bL 2 rS) (ae (af 2) (ae (af 3) aj))))) (ar (retS (λ_=>M.ok (.bl false)))
 ao) ao)
 ao))
 (ar (retS (λ_=>M.ok (.bl true)))
 ao)))) ao)
 (ar (fH (cm (ah f_ (af 1) (λ_=>M.ok .aJ))) (ar (retS (ah f_ (af 0) (λ_=>M.ok .aJ)))
 ao) ao)
 (ar (fH (cm (ji (λa=>dU a "str") eW eW (af 1))) (ar (retS (kf (ji (λa=>dU a "str") eW eW (af 0)) (ah lu (af 0) (af 1))))
 ao) ao)
 (ar (retS (kf (ji (λa=>dU a "int") eW eW (af 0)) (kf (wY (ji (λa=>dU a "bool") eW eW (af 0))) (ah lu (af 0) (af 1)))))
 ao))))
def aQ:Nat->List PV->M PV
 | 0=>λ_=>none
 |n+1=>bb 4 (c9 (aQ n))
def ba:List PV->M PV:=bL 2 (aQ 3)
def el:aa->M Out :=
 (ar (bO 2 (ai bh (ae (af 0) (ae (af 1) aj))))
 (ar (fH (cm (ah lu (ah bN (af 2) (cI 3)) (cI 0))) (ar (retS (ah jS (ah bN (ah cU (af 2) (cI 3)) (cI 9)) (cI 4)))
 ao) ao)
 (ar (fH (cm (ah lu (ah bN (af 2) (cI 3)) (cI 1))) (ar (retS (ah bN (ah cU (af 2) (cI 3)) (cI 720)))
 ao) ao)
 (ar (bO 3 (ah dc (ah cu (ah bN (ai bh (ae (af 0) (ae (ah dc (af 1) (cI 61)) aj))) (ah sH (cI 10) (cI 9))) (ah sH (cI 10) (cI 20))) (af 2)))
 (ar (retS (ah aC (dn (ae (af 3) (ae (ah jS (cI 0) (af 3)) aj))) (ah bN (ah cU (af 2) (cI 3)) (cI 2))))
 ao)))))
def cx:List PV->M PV:=bL 2 (bb 4 el)
def gc:aa->M Out :=
 (ar (bO 3 (ah bN (ah cU (af 0) (cI 9)) (ah sH (cI 10) (cI 29))))
 (ar (retS (ah aC (dn (ae (ah jS (af 1) (cI 1)) (ae (ah dc (af 2) (cI 1)) (ae (ah jS (ah jS (af 1) (cI 1)) (af 3)) (ae (ah dc (ah dc (af 2) (cI 1)) (af 3)) (ae (λ_=>M.ok (.bl true)) (ae (λ_=>M.ok .aJ) (ae (ai y0 (ae (af 1) aj)) (ae (gY (ae (af 1) aj)) (ae (dn (ae (af 1) aj)) aj)))))))))) (ah bN (af 0) (cI 9))))
 ao))
def gv:List PV->M PV:=bL 3 (bb 4 gc)
def hW:aa->M Bool :=
 (yD (cm (ah qp (af 0) (dn aj))) (cm (ah lu (ah bN (af 1) (λ_=>M.ok (.int 5))) (λ_=>M.ok (.int 0)))))
def g9:aa->M PV :=
 (ai gv (ae (ah cU (af 1) (λ_=>M.ok (.int 40))) (ae (af 2) (ae (af 3) aj))))
def iq:aa->M PV :=
 (ah bN (ah cU (af 1) (λ_=>M.ok (.int 5))) (ai cy (ae (af 0) aj)))
def cj:List PV->List PV->M (List PV):=λxs ps=>AF hW g9 iq xs (eM 3 ps)
def cO:aa->M Out :=
 (ar (bO 1 (fZ (dq (oN iE (ae (cI 8) aj)) (c_ 0) none (ai bh (ae (ai bG (ae (af 1) (ae (af 0) aj))) (ae (af 0) aj))) 1 [0])))
 (ar (p_ 2 (dq (oN iE (ae (ah aC (dn (ae (ah bN (ah aC (af 1) (cI 0)) (cI 9)) (ae (ah dc (cI 1) (ah bN (ah aC (af 1) (cI 0)) (cI 6))) aj))) (ah bN (ah aC (af 1) (cI 1)) (cI 2))) aj)) (c_ 0) none (ah dc (cI 2) (ah bN (ai bh (ae (ah aC (af 1) (cI 0)) (ae (af 0) aj))) (cI 359))) 1 [1]))
 (ar (t_ 2 3 cj (ae (ah aC (af 1) (cI 2)) (ae (cI 2) (ae (cI 360) aj))))
 (ar (t_ 2 3 cj (ae (ai bh (ae (ah aC (af 1) (cI 2)) (ae (cI 2) aj))) (ae (cI 2) (ae (cI 360) aj))))
 (ar (p_ 3 (m9 aj))
 (ar (jH (oN iE (ae (ah aC (dn (ae (ah bN (ah aC (af 1) (cI 3)) (cI 11)) (ae (ah bN (ah aC (af 1) (cI 3)) (cI 9)) aj))) (ah bN (ah cU (ah aC (af 1) (cI 1)) (cI 2)) (cI 2))) aj)) (c_ 4) (ar (lY [2] (qk 3 (fZ (dq (oN iE (ae (ai cy (ae (af 2) aj)) aj)) (c_ 0) none (ai cx (ae (ai bG (ae (af 1) (ae (ah dc (cI 8) (af 2)) aj))) (ae (af 0) aj))) 1 [0,4]))))
 ao))
 (ar (fH (yD (oB 3 (cm (ah qp (af 3) (dn aj)))) (cm (ah lu (ah bN (ah aC (af 1) (cI 4)) (cI 4)) (cI 0)))) (ar (bO 5 (ah bN (ah cU (ah aC (af 1) (cI 4)) (cI 4)) (ve 3 (ai cy (ae (af 3) aj)))))
 (ar (lY [2] (bO 6 (dn (ae (km (EH 3 (af 5)) (j5 (cI 1)) vO) (ae (ah dc (EH 3 (af 5)) (dn (ae (cI 0) aj))) (ae (λ_=>M.ok .aJ) (ae (λ_=>M.ok (.str "0 0")) (ae (cI 7) (ae (ah cu (dn (ae (λ_=>M.ok (.bl true)) aj)) (ai cy (ae (af 2) aj))) (ae (EH 3 (af 5)) (ae (ah cu (dn (ae (λ_=>M.ok .aJ) aj)) (ai cy (ae (af 2) aj))) aj)))))))))))
 (ar (Gk 3 (af 5) (ah aC (af 6) (ah bN (ah cU (ah aC (af 1) (cI 4)) (cI 40)) (cI 8))))
 ao))) ao)
 (ar (lY [3] (p_ 7 (dq (oN iE (ae (ai cy (ae (af 3) aj)) aj)) (c_ 0) none (ah dc (cI 1) (ah bN (ai bh (ae (ah aC (af 1) (cI 5)) (ae (af 0) aj))) (cI 1000))) 1 [1])))
 (ar (t_ 7 3 cj (ae (ah aC (af 1) (cI 6)) (ae (cI 1) (ae (cI 1000) aj))))
 (ar (t_ 7 3 cj (ae (ai bh (ae (ah aC (af 1) (cI 6)) (ae (cI 2) aj))) (ae (cI 1) (ae (cI 1000) aj))))
 (ar (fH (cm (ah lu (ah bN (ah aC (af 1) (cI 7)) (cI 5)) (cI 0))) (ar (lY [7] (bO 7 (ah aC (dn (ae (ah dc (af 7) (dn (ae (cI 5) aj))) (ae (km (af 7) (j5 (cI 1)) vO) aj))) (ah bN (ah cU (ah aC (af 1) (cI 7)) (cI 5)) (cI 2)))))
 ao) ao)
 (ar (fH (cm (ah lu (ah bN (ah aC (af 1) (cI 7)) (cI 5)) (cI 1))) (ar (bO 7 (λ_=>M.ok .aJ))
 ao) ao)
 (ar (lY [2,3,7] (retS (dn (ae (af 2) (ae (af 3) (ae (af 7) aj))))))
 ao)))))))))))))
def eA:List PV->M PV:=bL 1 (bb 8 cO)
def eX:aa->M Out :=
 (ar (retS (kf (ji (λa=>dU a "int") eW eW (af 0)) (kf (wY (ji (λa=>dU a "bool") eW eW (af 0))) (j7 BL BL (af 1) (af 0) (af 2)))))
 ao)
def dC:List PV->M PV:=bL 3 (bb 3 eX)
def cW:aa->M Out :=
 (ar (fH (ny (gR (cm (ji (λa=>["list","tuple"].any λt=>dU a t) eW eW (af 0)))) (cm (ah qp (ai cy (ae (af 0) aj)) (af 1)))) (ar (retS (λ_=>M.ok (.bl false)))
 ao) ao)
 (ar (retS (ah lu (ai cy (ae (fZ (dq (itemsOf (af 0)) (c_ 0) (some (ny (gR (cm (ji (λa=>dU a "int") eW eW (af 0)))) (cm (ji (λa=>dU a "bool") eW eW (af 0))))) (af 0) 1 [])) aj)) (cI 0)))
 ao))
def cq:List PV->M PV:=bL 2 (bb 2 cW)
def gL:aa->M Out :=
 (ar (fH (cm (ah z_ (ai cy (ae (af 0) aj)) (cI 6))) (ar (retS (gY (ae (λ_=>M.ok (.str "many")) aj)))
 ao) ao)
 (ar (fH (cm (ah lu (af 0) (dn aj))) (ar (retS (gY (ae (λ_=>M.ok (.str "dial")) (ae (cI 0) aj))))
 ao) ao)
 (ar (jH (oN iE (ae (ai cy (ae (af 0) aj)) aj)) (c_ 3) (ar (fH (gR (cm (ai dC (ae (ah aC (af 0) (af 3)) (ae (cI 2) (ae (cI 360) aj)))))) (ar (retS (gY (ae (λ_=>M.ok (.str "dial")) (ae (af 3) aj))))
 ao) ao)
 ao))
 (ar (fH (cm (ah z_ (ai cy (ae (af 1) aj)) (cI 8))) (ar (retS (gY (ae (λ_=>M.ok (.str "many")) aj)))
 ao) ao)
 (ar (jH (oN iE (ae (ai cy (ae (af 1) aj)) aj)) (c_ 3) (ar (fH (gR (cm (ai cq (ae (ah aC (af 1) (af 3)) (ae (ai cy (ae (af 0) aj)) aj))))) (ar (retS (gY (ae (λ_=>M.ok (.str "lever")) (ae (af 3) aj))))
 ao) ao)
 ao))
 (ar (fH (cm (ah dh (af 2) (λ_=>M.ok .aJ))) (ar (jH (oN iE (ae (ai (uE λi j=>if j>i then j else i) (ae (ai cy (ae (af 2) aj)) (ae (ai cy (ae (af 1) aj)) aj))) aj)) (c_ 3) (ar (fH (ny (cm (ah BN (af 3) (ai cy (ae (af 2) aj)))) (ny (cm (ah BN (af 3) (ai cy (ae (af 1) aj)))) (gR (cm (ai dC (ae (ah aC (af 2) (af 3)) (ae (cI 1) (ae (cI 1000) aj)))))))) (ar (retS (gY (ae (λ_=>M.ok (.str "price")) (ae (af 3) aj))))
 ao) ao)
 ao))
 ao) ao)
 (ar (retS (λ_=>M.ok .aJ))
 ao)))))))
def gA:List PV->M PV:=bL 3 (bb 4 gL)
def gH:aa->M Out :=
 (ar (bO 1 (dn (ae (ji (λ_=>false) (f9 i0 i5) (f9 i_ jb) (af 0)) (ae (ji (λ_=>false) (f9 dY dX) (f9 d_ dN) (af 0)) (ae (ji (λ_=>false) (f9 iT i9) (f9 dJ dP) (af 0)) (ae (ji (λ_=>false) (f9 i7 i8) (f9 dZ dO) (af 0)) aj))))))
 (ar (bO 2 (BO [(hU,g8),(gj,gx),(iU,iZ),(kH,kG),(kO,kA),(kD,kC),(kx,j4),(ke,kI)] (af 0)))
 (ar (retS (ah dc (af 1) (dn (ae (af 2) (ae (E_ Jr (af 0)) aj)))))
 ao)))
def gk:List PV->M PV:=bL 1 (bb 3 gH)
def eZ:aa->M Out :=
 (ar (bO 1 (cI 1))
 (ar (jH (itemsOf (af 0)) (c_ 2) (ar (bO 3 (af 1))
 (ar (iV (cm (ah qp (ah bN (af 1) (af 2)) (cI 0))) (ar (bO 1 (ah dc (af 1) (af 3)))
 ao))
 ao)))
 (ar (retS (af 1))
 ao)))
def fe:List PV->M PV:=bL 1 (bb 4 eZ)
def gy:aa->M Out :=
 (ar (fH (cm (ji (λa=>dU a "list") eW eW (af 0))) (ar (retS (ah aC (dn (ae (ai sd (ae (af 0) aj)) (ae (ai dW (ae (af 0) aj)) aj))) (af 1)))
 ao) ao)
 (ar (retS (af 0))
 ao))
def fy:List PV->M PV:=bL 2 (bb 2 gy)
def eo:aa->M Out :=
 (ar (p_ 2 (m9 aj))
 (ar (jH (oN iE (ae (cI 3) aj)) (c_ 3) (ar (bO 4 (ah aC (af 0) (af 3)))
 (ar (fH (cm (ah dh (af 4) (λ_=>M.ok .aJ))) (ar (bO 4 (fZ (dq (itemsOf (af 4)) (c_ 0) none (ai fy (ae (af 0) (ae (ai sy (ae (kf (ah lu (af 2) (cI 1)) (ah lu (ah bN (ah cU (af 1) (cI 16)) (cI 2)) (cI 1))) aj)) aj))) 1 [1,3])))
 (ar (bO 4 (ah aC (dn (ae (af 4) (ae (ai dW (ae (af 4) aj)) aj))) (ah bN (ah cU (af 1) (ah aC (dn (ae (cI 1) (ae (cI 2) (ae (cI 4) aj)))) (af 3))) (cI 2))))
 ao)) ao)
 (ar (qk 2 (af 4))
 ao))))
 (ar (lY [2] (retS (af 2)))
 ao)))
def bS:List PV->M PV:=bL 2 (bb 5 eo)
def cJ:aa->M Out :=
 (ar (nu (ai bg (ae (af 1) aj)))
 (ar (nu (ai bp (ae (af 2) (ae (ai cy (ae (af 1) aj)) aj))))
 (ar (lD 0 az "dial_sizes" (ai dW (ae (af 1) aj)))
 (ar (lD 0 az "lever_settings" (ai dW (ae (fZ (dq (itemsOf (af 2)) (c_ 0) none (ai iA (ae (af 0) (ae (af 1) aj))) 1 [1])) aj)))
 (ar (lD 0 az "lever_prices" (ai bQ (ae (af 2) (ae (af 3) aj))))
 (ar (lD 0 az "least_round" (ai eF (ae (af 1) aj)))
 ao))))))
def bf:Addr->List PV->M (List (Str×PV)):=nv 4 (tY 4 cJ az)
def eE:aa->M Out :=
 (ar (retS (nQ (λc=>c==az) "dial_sizes" (af 0)))
 ao)
def cw:List PV->M PV:=bL 1 (bb 1 eE)
def dk:aa->M Out :=
 (ar (retS (nQ (λc=>c==az) "lever_settings" (af 0)))
 ao)
def bY:List PV->M PV:=bL 1 (bb 1 dk)
def dy:aa->M Out :=
 (ar (retS (nQ (λc=>c==az) "lever_prices" (af 0)))
 ao)
def b_:List PV->M PV:=bL 1 (bb 1 dy)
def dE:aa->M Out :=
 (ar (retS (nQ (λc=>c==az) "least_round" (af 0)))
 ao)
def bW:List PV->M PV:=bL 1 (bb 1 dE)
def dz:aa->M Out :=
 (ar (bO 2 (λ_=>M.ok .aJ))
 (ar (Bj (nu (ai (dH az bf []) (ae (ah aC (af 0) (cI 0)) (ae (ah aC (af 0) (cI 1)) (ae (ah aC (af 0) (cI 2)) aj))))) [(f9 ez eB,some 3,(ar (bO 2 (af 3))
 ao))])
 (ar (bO 4 (dn (ae (λ_=>M.ok (.str "many")) (ae (λ_=>M.ok (.str "dial")) (ae (λ_=>M.ok (.str "lever")) (ae (λ_=>M.ok (.str "price")) aj))))))
 (ar (fH (ny (cm (ah f_ (af 2) (λ_=>M.ok .aJ))) (cm (ah qp (ai gk (ae (af 2) aj)) (ah dc (fZ (dq (itemsOf (af 4)) (c_ 0) none (ah lu (af 0) (ah aC (af 1) (cI 0))) 1 [1])) (dn (ae (λ_=>M.ok (.bl false)) (ae (λ_=>M.ok (.bl true)) aj))))))) (ar (retS (λ_=>M.ok (.bl false)))
 ao) ao)
 (ar (fH (cm (ji (λ_=>false) (f9 dY dX) (f9 d_ dN) (af 2))) (ar (retS (ai ba (ae (Bi qh "dial" (af 2)) (ae (ah aC (af 1) (cI 1)) aj))))
 ao) ao)
 (ar (fH (cm (oY (f9 dJ dP) (f9 dZ dO) (af 2))) (ar (retS (ai ba (ae (Bi jq "lever" (af 2)) (ae (ah aC (af 1) (cI 1)) aj))))
 ao) ao)
 (ar (retS (ah lu (af 1) (gY (ae (λ_=>M.ok (.str "many")) aj))))
 ao)))))))
def cB:List PV->M PV:=bL 2 (bb 5 dz)
def fP:aa->M Out :=
 (ar (p_ 4 (m9 aj))
 (ar (jH (itemsOf (af 2)) (c_ 5) (ar (qk 4 (ai dW (ae (fZ (dq (oN zip2 (ae (af 5) (ae (af 1) aj))) (gX 0 1) none (ah bN (af 0) (af 1)) 2 [])) aj)))
 ao))
 (ar (fH (cm (ah f_ (af 3) (λ_=>M.ok .aJ))) (ar (bO 3 (ah cu (dn (ae (cI 1) aj)) (ai cy (ae (af 2) aj))))
 ao) ao)
 (ar (lY [4] (fH (ny (gR (cm (ai ba (ae (cP az "sizes" cw (af 0) aj) (ae (ai dW (ae (af 1) aj)) aj))))) (gR (cm (ai ba (ae (cP az "levers" bY (af 0) aj) (ae (ai dW (ae (af 4) aj)) aj)))))) (ar (retS (λ_=>M.ok (.bl false)))
 ao) ao))
 (ar (retS (kf (ai ba (ae (cP az "prices" b_ (af 0) aj) (ae (ai dW (ae (af 3) aj)) aj))) (ai ba (ae (cP az "around" bW (af 0) aj) (ae (ai fe (ae (af 1) aj)) aj)))))
 ao)))))
def eL:List PV->M PV:=bL 4 (bb 6 fP)
def pW:aa->M Out :=
 (C7 (DZ [1,2,3]) (ai eA (ae (af 0) aj)))
def qi:aa->M Out :=
 (bO 4 (ai bh (ae (ai bG (ae (af 0) (ae (cI 20) aj))) (ae (cI 3) aj))))
def pD:aa->M Out :=
 (bO 5 (ai gA (ae (af 1) (ae (af 2) (ae (af 3) aj)))))
def fO:aa->M Out :=
 (bO 6 (ai bS (ae (dn (ae (af 1) (ae (af 2) (ae (af 3) aj)))) (ae (af 4) aj))))
def fE:aa->M Out :=
 (fH (cm (ah dh (af 5) (λ_=>M.ok .aJ))) (ar (retS (kf (ai cB (ae (af 6) (ae (af 5) aj))) (ah xO (af 6) (ai bS (ae (dn (ae (af 1) (ae (af 2) (ae (af 3) aj)))) (ae (af 4) aj))))))
 ao) ao)
def gz:aa->M Out :=
 (bO 7 (ai (dH az bf []) (ae (ah aC (af 6) (cI 0)) (ae (ah aC (af 6) (cI 1)) (ae (ah aC (af 6) (cI 2)) aj)))))
def gC:aa->M Out :=
 (fH (yD (cm (ah f_ (af 3) (λ_=>M.ok .aJ))) (cm (ah xO (ah bN (ah cU (af 4) (cI 8)) (cI 2)) (cI 1)))) (ar (bO 7 (ai (dH az bf [.aJ]) (ae (ah aC (af 6) (cI 0)) (ae (ah aC (af 6) (cI 1)) aj))))
 ao) ao)
def gp:aa->M Out :=
 (fH (ny (cm (ah B3 (af 6) (ai bS (ae (dn (ae (af 1) (ae (af 2) (ae (af 3) aj)))) (ae (af 4) aj))))) (gR (cm (ai eL (ae (af 7) (ae (af 1) (ae (af 2) (ae (af 3) aj)))))))) (ar (retS (λ_=>M.ok (.bl false)))
 ao) ao)
def lL:aa->M Out :=
 (retS (ai eL (ae (af 7) (ae (af 1) (ae (af 2) (ae (af 3) aj))))))
def lW:aa->M (List PV) :=
 (Es (ai sd (ae (ah aC (af 6) (λ_=>M.ok (.int 1))) aj)) (af 6))
def ma:aa->Prop:=DI [pW,qi,pD] [fO,fE,gz,gC,gp] [lL] lW 8
end sJ
namespace sJ
open PySem L2 PyProof.Rows
local macro_rules|`(tactic| walk_at "s")=>`(tactic| exact⟨rfl,rfl,rfl,by decide +kernel,rfl,by decide +kernel,by decide +kernel⟩)
local macro_rules|`(tactic| walk_at "l")=>`(tactic| first|exact .inl rfl|exact .inr rfl)
local macro_rules|`(tactic| walk_at "pp")=>do
 let mut st:Array (Array Lean.Term):=#[#[]]
 for k in "( gP _ _ ( tS _ ( ar _ _ ) ) ) ( zr 0 0 ) ( gP _ _ ( tS _ ao ) ) ( Bb ) ( PE _ _ ( tE _ ( af _ ) ) ) ( vr _ ) ( PA _ _ ( tL _ ( ae _ _ ) ) ) ( Bx 0 0 0 ) ( PA _ _ ( tL _ aj ) ) ( CZ ) ( PE _ _ ( tE _ ( ah dc _ _ ) ) ) ( ka Ai DS 0 0 ) ( PE _ _ ( tE _ ( ah jS _ _ ) ) ) ( ka Ck Et 0 0 ) ( PE _ _ ( tE _ ( ah cu _ _ ) ) ) ( ka Am C2 0 0 ) ( PE _ _ ( tE _ ( ah cU _ _ ) ) ) ( ka yr xq 0 0 ) ( PE _ _ ( tE _ ( ah bN _ _ ) ) ) ( ka BD Bw 0 0 ) ( PE _ _ ( tE _ ( ah sH _ _ ) ) ) ( ka EB A3 0 0 ) ( PE _ _ ( tE _ ( ah aC _ _ ) ) ) ( Ci 0 0 0 ) ( PT _ _ ( tT _ ( cm ( ah lu _ _ ) ) ) ) ( fS ( yR ( bH.units 1 ) ) BR 0 0 ( cb _ ) ) ( PE _ _ ( tE _ ( ah lu _ _ ) ) ) ( fV ( yR ( bH.units 1 ) ) BR 0 0 ( cb _ ) ) ( PT _ _ ( tT _ ( cm ( ah qp _ _ ) ) ) ) ( fS ( xU ( bH.units 1 ) ) Ce 0 0 ( cb _ ) ) ( PE _ _ ( tE _ ( ah qp _ _ ) ) ) ( fV ( xU ( bH.units 1 ) ) Ce 0 0 ( cb _ ) ) ( PT _ _ ( tT _ ( cm ( ah ED _ _ ) ) ) ) ( fS BW yW 0 0 ( cb _ ) ) ( PE _ _ ( tE _ ( ah ED _ _ ) ) ) ( fV BW yW 0 0 ( cb _ ) ) ( PT _ _ ( tT _ ( cm ( ah BL _ _ ) ) ) ) ( fS ou ko 0 0 ( cb _ ) ) ( PE _ _ ( tE _ ( ah BL _ _ ) ) ) ( fV ou ko 0 0 ( cb _ ) ) ( PT _ _ ( tT _ ( cm ( ah z_ _ _ ) ) ) ) ( fS BQ yg 0 0 ( cb _ ) ) ( PE _ _ ( tE _ ( ah z_ _ _ ) ) ) ( fV BQ yg 0 0 ( cb _ ) ) ( PT _ _ ( tT _ ( cm ( ah BN _ _ ) ) ) ) ( fS B8 wZ 0 0 ( cb _ ) ) ( PE _ _ ( tE _ ( ah BN _ _ ) ) ) ( fV B8 wZ 0 0 ( cb _ ) ) ( PT _ _ ( tT _ ( cm ( ah f_ _ _ ) ) ) ) ( fS zi yB 0 0 ( cb _ ) ) ( PE _ _ ( tE _ ( ah f_ _ _ ) ) ) ( fV zi yB 0 0 ( cb _ ) ) ( PT _ _ ( tT _ ( cm ( ah dh _ _ ) ) ) ) ( fS uZ uT 0 0 ( cb _ ) ) ( PE _ _ ( tE _ ( ah dh _ _ ) ) ) ( fV uZ uT 0 0 ( cb _ ) ) ( PT _ _ ( tT _ ( gR _ ) ) ) ( D8 0 ) ( PT _ _ ( tT _ ( cm ( ai _ _ ) ) ) ) ( mw 0 ) ( PT _ _ ( tT _ ( cm ( ji _ _ _ _ ) ) ) ) ( mw 0 ) ( PT _ _ ( tT _ ( cm ( cP _ _ _ _ _ ) ) ) ) ( mw 0 ) ( PT _ _ ( tT _ ( cm ( af _ ) ) ) ) ( mw 0 ) ( PS _ _ ( tS _ ( retS _ ) ) ) ( D7 0 ) ( PS _ _ ( tS _ ( fH _ _ _ ) ) ) ( Fb 0 0 0 ) ( PS _ _ ( tS _ ( qk _ _ ) ) ) ( vK rfl 5 0 ) ( PS _ _ ( tS _ ( p_ _ _ ) ) ) ( AX 1 rfl 4 0 ) ( PE _ _ ( tO _ ( m9 _ ) ) ) ( DM 0 ) ( PS _ _ ( tS _ ( lY _ _ ) ) ) ( Dg _ 0 ) ( PS _ _ ( tS _ ( nu _ ) ) ) ( zY 0 ) ( PS _ _ ( tS _ ( ja _ _ ) ) ) ( BB.raise 1 1 rfl 2 0 ) ( PS _ _ ( tS _ ( dg _ _ _ ) ) ) ( qf.raise 1 1 3 1 rfl 2 0 ) ( PE _ _ ( tE _ ( gY _ ) ) ) ( Cg 0 ) ( PE _ _ ( tE _ ( dn _ ) ) ) ( Df 0 ) ( PE _ _ ( tE _ ( wt _ ) ) ) ( D6 0 ) ( PE _ _ ( tE _ ( nQ _ _ _ ) ) ) ( DX 0 1 rfl ) ( PE _ _ ( tE _ ( ai cy _ ) ) ) ( jz wH CN 2 1 PySem.boot_len 0 ) ( PE _ _ ( tE _ ( ai dW _ ) ) ) ( iz nN yJ 2 1 gW 0 ) ( PE _ _ ( tE _ ( ai sd _ ) ) ) ( iz pY z7 2 1 e_ 0 ) ( PE _ _ ( tE _ ( ai wy _ ) ) ) ( jz ( vX rfl ) DK 2 1 C1 0 ) ( PE _ _ ( tE _ ( ai sy _ ) ) ) ( iz vi Bz 2 1 l_ 0 ) ( PE _ _ ( tE _ ( ai ( dH _ _ _ ) _ ) ) ) ( B5.make 1 1 3 2 6 0 ) ( PE _ _ ( tE _ ( ai _ _ ) ) ) ( gf.call 1 1 3 2 6 0 ) ( PE _ _ ( tE _ ( cP _ _ _ _ aj ) ) ) ( AV.ET 1 1 3 6 0 ) ( PE _ _ ( tE _ ( cP _ _ _ _ _ ) ) ) ( AV.call 1 1 3 6 0 0 ) ( PT _ _ ( tT _ ( cm ( ah xO _ _ ) ) ) ) ( fS ( y9 ( bH.units 1 ) ) zo 0 0 ( cb _ ) ) ( PE _ _ ( tE _ ( ah xO _ _ ) ) ) ( fV ( y9 ( bH.units 1 ) ) zo 0 0 ( cb _ ) ) ( PT _ _ ( tT _ ( cm ( ah B3 _ _ ) ) ) ) ( fS ( w9 ( bH.units 1 ) ) y_ 0 0 ( cb _ ) ) ( PE _ _ ( tE _ ( ah B3 _ _ ) ) ) ( fV ( w9 ( bH.units 1 ) ) y_ 0 0 ( cb _ ) )".splitOn " " do
  if k=="(" then st:=st.push #[]
  else
   let t:Lean.Term<-if k==")" then do
     let a:=st.back!
     st:=st.pop
     if a.size==1 then pure a[0]! else `($(a[0]!) $(a.extract 1 a.size)*)
    else if k=="_" then `(_) else if k=="0" then `(?_) else if k=="1" then `(by assumption) else if k=="2" then `(by rfl) else if k=="3" then `(by lia) else if k=="4" then `(by walk_at "l") else if k=="5" then `(by first|exact .inl rfl|exact .inr (.inl rfl)) else if k=="6" then `(by first|assumption|exact va) else pure (Lean.mkIdent k.toName)
   st:=st.modify (st.size-1) (·.push t)
 let a:=st[0]!
 let mut c:Array (Lean.TSyntax `Lean.Parser.Tactic.tacticSeq):=#[]
 for i in [0:a.size/2] do c:=c.push (<-`(tacticSeq|((with_reducible show $(a[2*i]!));refine $(a[2*i+1]!))))
 `(tactic|all_goals repeat' (first $[|$c]*|((with_reducible show starEach _ _=_);exact E9 rfl)|((with_reducible show PE _ _ (tE _ (λ_=>M.ok (.int _))));first|exact Cz|exact jB (Fg (by rfl) (by assumption)) λ_=>.int _)|((with_reducible show PE _ _ (tE _ (λ_=>M.ok (.bl _))));exact Fl)|((with_reducible show PE _ _ (tE _ (λ_=>M.ok .aJ)));exact Ew)|((with_reducible show PE _ _ (tE _ (λ_=>M.ok (.str _))));exact Dy)|((with_reducible show lK _);exact λ_ _=>rfl)|((with_reducible show PS _ _ (tS _ (bO _ _)));refine Ey ?_ ?_ ?_ ?_ ?_ ?_;assumption;exact rfl;(first|exact .inl rfl|exact .inr rfl);rotate_left;rfl;(first|exact .inl rfl|exact .inr rfl|assumption))))
def top(i:Nat):Stmt:=PySem.Challenge.pw_dialvault_k11_vaults_taken_and_refused.main.body.getD i (.Pass ⟨0,0,0,0⟩)
structure Txt (K:Nb) (mg:Str->Option Value):Prop where
 jo:mg "ValueError"=none
 F2:mg "all"=none
 m8:mg "bool"=none
 hR:mg "enumerate"=none
 sG:mg "int"=none
 ay:mg "isinstance"=none
 FQ:mg "len"=none
 gM:mg "list"=none
 yX:mg "max"=none
 dD:mg "range"=none
 uN:mg "str"=none
 jO:mg "tuple"=none
 u7:mg "zip"=none
 nK:∃u,mg "LEAST_PRICE"=some u/\RelV (.int 1) u
 qG:∃u,mg "LEAST_SIZE"=some u/\RelV (.int 2) u
 qy:∃u,mg "MOST_DIALS"=some u/\RelV (.int 6) u
 nI:∃u,mg "MOST_LEVERS"=some u/\RelV (.int 8) u
 qz:∃u,mg "MOST_PRICE"=some u/\RelV (.int 1000) u
 rE:∃u,mg "MOST_SIZE"=some u/\RelV (.int 360) u
 jN:nV K az
 vn:BB K mg aM "TooMany"
 gg:IK K mg "VaultError" jn ez eB
 lZ:oC K mg "NoDial" aO d_ dN dY dX
 rK:oC K mg "NoGear" jG kD kC oW o7
 kd:oC K mg "NoLever" aH dJ dP iT i9
 sj:oC K mg "NoLine" jM ke kI oO ot
 qY:oC K mg "NoLock" jV kx j4 nZ oy
 iW:oC K mg "NoNumber" gG hU g8 k7 k_
 kR:oC K mg "NoPrice" aE dZ dO i7 i8
 oE:oC K mg "NoPulls" iC iU iZ ng mT
 kZ:oC K mg "NoSetting" fR gj gx jA jK
 rm:oC K mg "NoText" iu kO kA o5 n9
 om:oC K mg "TooMany" aM i_ jb i0 i5
 rW:oC K mg "Unlike" jt kH kG oj n8
 uw:∀C∈qh,cS K C/\bM K C "dial"
 sk:∀C∈jq,cS K C/\bM K C "lever"
 Jl:∀C∈Jr,cS K C/\Ng K (.ref C) (.type "ValueError")=some true
 fx:bM K az "dial_sizes"
 eT:bM K az "least_round"
 eK:bM K az "lever_prices"
 dF:bM K az "lever_settings"
 qD:∀C,(C==az)=true->nV K C/\bM K C "dial_sizes"
 nS:∀C,(C==az)=true->nV K C/\bM K C "least_round"
 nh:∀C,(C==az)=true->nV K C/\bM K C "lever_prices"
 kU:∀C,(C==az)=true->nV K C/\bM K C "lever_settings"
local macro_rules|`(tactic| walk_at "t")=>`(tactic| (have z:=‹Txt _ _›;cases z))
variable{P:Program}{w:World}{K:Nb}{mg:Str->Option Value}{base:Heap}{f:Addr}{fd:FuncData}{dv:Value}
def qT(F:bC K "is_whole" "is_whole" (top 16) dv f fd)(T:Txt K mg)  : aV P w K mg base (cf P w) 1 f fd ["thing"] (gb 1 cY) :=
 F.jW ["thing"] λnd _ _ _ _ _ _ hr O=>by
 unfold gD;walk_at "t";walk_at "pp";refine(fU ?_ (h9 ?_));walk_at "pp";refine(dR (T := "int") (by rfl) T.ay (bq (v:=.ty "int") (by rfl) T.sG l_ rfl) ↑12 da da ?_);walk_at "pp";refine(tj ?_);walk_at "pp";refine(dR (T := "bool") (by rfl) T.ay (bq (v:=.ty "bool") (by rfl) T.m8 lU rfl) ↑12 da da ?_);walk_at "pp"
def qL:((["number"]:List Str)++([]:List Str)).Nodup:=by decide +kernel
def wj(F:bC K "is_row" "is_row" (top 17) dv f fd)(T:Txt K mg)(Kk:gf P w K mg base 1 "is_whole" 1 (bb 1 gD)):aV P w K mg base (cf P w) 2 f fd ["thing","length"] (gb 2 h_) :=
 F.jW ["thing","length"] λnd _ _ _ _ _ _ hr O=>by
 unfold jJ;walk_at "t";walk_at "pp";refine(iI ?_ (gE ?_)).pt;walk_at "pp";refine(lT (Ts:=["list","tuple"]) (by rfl) T.ay (i6 (aT (bq (v:=.ty "list") (by rfl) T.gM e_ rfl) (aT (bq (v:=.ty "tuple") (by rfl) T.jO gW rfl) cZ))) (fun σ H R h=>⟨by show 2<=sizeLine;decide,h⟩) ↑12 da ?_);walk_at "pp";refine(gZ (fw (g:=(bw 0)) (ts:=["number"]) (fs:=[]) (js:=[]) (cl:=[]) rfl rfl rfl rfl rfl rfl .nil .nil (gU ?_) fK (λ_ _ _ _ _=>(bF (i:=0) qL)) (λ_=>bK) ck (λ_ _ _ _ _=>?_)));walk_at "pp"
def wD(F:bC K "common" "common" (top 18) dv f fd)(T:Txt K mg)  : aV P w K mg base (cf P w) 1 f fd ["one","other"] (gb 2 jw) :=
 F.jW ["one","other","row","behind","times","rest"] λnd _ _ _ _ _ _ hr O=>by
 unfold jv;walk_at "t";walk_at "pp";refine(sx O ?_ ?_);walk_at "pp"
def mi(F:bC K "multiple_of" "multiple_of" (top 19) dv f fd)(T:Txt K mg)(Ln:gf P w K mg base 1 "common" 2 (bb 6 jv)):aV P w K mg base (cf P w) 2 f fd ["numbers"] (gb 1 eF) :=
 F.jW ["numbers","multiple","number"] λnd _ _ _ _ _ _ hr O=>by
 unfold eG;walk_at "t";walk_at "pp";refine(cV (g:=(bw 2)) O rfl (gU ?_) fK (bF (i:=2) nd) bK ?_);walk_at "pp"
def pL(F:bC K "is_within" "is_within" (top 28) dv f fd)(T:Txt K mg)(Kk:gf P w K mg base 1 "is_whole" 1 (bb 1 gD)):aV P w K mg base (cf P w) 2 f fd ["thing","least","most"] (gb 3 cC) :=
 F.jW ["thing","least","most"] λnd _ _ _ _ _ _ hr O=>by
 unfold c8;walk_at "t";walk_at "pp";refine(fU ?_ (h9 ?_));walk_at "pp";refine(rD ou ko ou ko ?_ ?_ ?_);walk_at "pp"
def nU(F:bC K "need_sizes" "need_sizes" (top 29) dv f fd)(T:Txt K mg)(Lr:qf P w K mg base aO "NoDial" "dial")(Kg:gf P w K mg base 2 "is_within" 3 (bb 3 c8)):aV P w K mg base (cf P w) 3 f fd ["sizes"] (gb 1 bg) :=
 F.jW ["sizes","dial","size"] λnd _ _ _ _ _ _ hr O=>by
 unfold cH;walk_at "t";walk_at "pp";refine(cV (g:=(t4 K 2 (fN (bw 1) (fN (bw 2) qQ)))) O rfl (yb (by rfl) T.hR ?_) uX (nt (n:=2) rfl (bV (bF (i:=1) nd) (bV (bF (i:=2) nd) iB))) jj ?_);walk_at "pp"
def mf(F:bC K "need_levers" "need_levers" (top 30) dv f fd)(T:Txt K mg)(Lo:gf P w K mg base 2 "is_row" 2 (bb 2 jJ))(Lb:qf P w K mg base aH "NoLever" "lever"):aV P w K mg base (cf P w) 3 f fd ["levers","dials"] (gb 2 bp) :=
 F.jW ["levers","dials","place","lever"] λnd _ _ _ _ _ _ hr O=>by
 unfold cN;walk_at "t";walk_at "pp";refine(cV (g:=(t4 K 2 (fN (bw 2) (fN (bw 3) qQ)))) O rfl (yb (by rfl) T.hR ?_) uX (nt (n:=2) rfl (bV (bF (i:=2) nd) (bV (bF (i:=3) nd) iB))) jj ?_);walk_at "pp"
def nA(F:bC K "prices_for" "prices_for" (top 31) dv f fd)(T:Txt K mg)(Ld:qf P w K mg base aE "NoPrice" "lever")(Kg:gf P w K mg base 2 "is_within" 3 (bb 3 c8)):aV P w K mg base (cf P w) 3 f fd ["levers","prices"] (gb 2 bQ) :=
 F.jW ["levers","prices","place"] λnd _ _ _ _ _ _ hr O=>by
 unfold de;walk_at "t";walk_at "pp";refine(cV (g:=(bw 2)) O rfl (cv (by rfl) T.dD ?_) cQ (bF (i:=2) nd) bK ?_);walk_at "pp";refine(jz (n5 rfl) uV (by rfl) T.yX zC ?_);walk_at "pp";refine(iI ?_ (gE ?_)).pt;walk_at "pp"
def my:((["number","size"]:List Str)++([]:List Str)).Nodup:=by decide +kernel
def wV(F:bC K "rests" "rests" (top 32) dv f fd)(T:Txt K mg)  : aV P w K mg base (cf P w) 1 f fd ["numbers","sizes"] (gb 2 iA) :=
 F.jW ["numbers","sizes"] λnd _ _ _ _ _ _ hr O=>by
 unfold lO;walk_at "t";walk_at "pp";refine(gZ (fw (g:=(t4 K 2 (fN (bw 0) (fN (bw 1) qQ)))) (ts:=["number","size"]) (fs:=[]) (js:=[]) (cl:=[]) rfl rfl rfl rfl rfl rfl .nil .nil (tw (by rfl) T.u7 ?_) pB (λ_ _ _ _ _=>(nt (n:=2) rfl (bV (bF (i:=0) my) (bV (bF (i:=1) my) iB)))) (λ_=>jj) mO (λ_ _ _ _ _=>?_)));walk_at "pp"
def pQ(F:bC K "_law_cell" "_law_cell" (top 34) dv f fd)(T:Txt K mg)  : aV P w K mg base (cf P w) 1 f fd ["_law_script","_law_k"] (gb 2 bG) :=
 F.jW ["_law_script","_law_k","_law_number_here"] λnd _ _ _ _ _ _ hr O=>by
 unfold eN;walk_at "t";walk_at "pp"
def rN(F:bC K "_law_mix" "_law_mix" (top 35) dv f fd)(T:Txt K mg)  : aV P w K mg base (cf P w) 1 f fd ["_law_cell_here","_law_k"] (gb 2 bh) :=
 F.jW ["_law_cell_here","_law_k","_law_number_here"] λnd _ _ _ _ _ _ hr O=>by
 unfold ed;walk_at "t";walk_at "pp"
def gJ(F:bC K "_law_same" "_law_same" (top 36) dv f fd)(T:Txt K mg){rS:List PV->M PV}{n:Nat}(o_rec:gf P w K mg base n "_law_same" 2 rS)(hn:0<=n):aV P w K mg base (cf P w) (n+1) f fd ["_law_found","_law_due_here"] (gb 2 (bL 2 (bb 4 (c9 rS)))) :=
 F.jW ["_law_found","_law_due_here","_law_one","_law_other"] λnd _ _ _ _ _ _ hr O=>by
 unfold c9;walk_at "t";walk_at "pp";refine(lT (Ts:=["list","tuple"]) (by rfl) T.ay (i6 (aT (bq (v:=.ty "list") (by rfl) T.gM e_ rfl) (aT (bq (v:=.ty "tuple") (by rfl) T.jO gW rfl) cZ))) (fun σ H R h=>⟨by show 2<=sizeLine;decide,h⟩) ↑12 da ?_);walk_at "pp";refine(iI ?_ (gE ?_)).pt;walk_at "pp";refine(dR (T := "list") (by rfl) T.ay (bq (v:=.ty "list") (by rfl) T.gM e_ rfl) ↑12 da da ?_);walk_at "pp";refine(dR (T := "list") (by rfl) T.ay (bq (v:=.ty "list") (by rfl) T.gM e_ rfl) ↑12 da da ?_);walk_at "pp";refine(lT (Ts:=["list","tuple"]) (by rfl) T.ay (i6 (aT (bq (v:=.ty "list") (by rfl) T.gM e_ rfl) (aT (bq (v:=.ty "tuple") (by rfl) T.jO gW rfl) cZ))) (fun σ H R h=>⟨by show 2<=sizeLine;decide,h⟩) ↑12 da ?_);walk_at "pp";refine(cV (g:=(t4 K 2 (fN (bw 2) (fN (bw 3) qQ)))) O rfl (tw (by rfl) T.u7 ?_) pB (nt (n:=2) rfl (bV (bF (i:=2) nd) (bV (bF (i:=3) nd) iB))) jj ?_);walk_at "pp";refine(dR (T := "str") (by rfl) T.ay (bq (v:=.ty "str") (by rfl) T.uN uu rfl) ↑12 da da ?_);walk_at "pp";refine(fU ?_ (h9 ?_));walk_at "pp";refine(dR (T := "str") (by rfl) T.ay (bq (v:=.ty "str") (by rfl) T.uN uu rfl) ↑12 da da ?_);walk_at "pp";refine(fU ?_ (fU ?_ (h9 ?_)));walk_at "pp";refine(dR (T := "int") (by rfl) T.ay (bq (v:=.ty "int") (by rfl) T.sG l_ rfl) ↑12 da da ?_);walk_at "pp";refine(tj ?_);walk_at "pp";refine(dR (T := "bool") (by rfl) T.ay (bq (v:=.ty "bool") (by rfl) T.m8 lU rfl) ↑12 da da ?_);walk_at "pp"
def mq(F:bC K "_law_number" "_law_number" (top 37) dv f fd)(T:Txt K mg)(J9:gf P w K mg base 1 "_law_mix" 2 (bb 3 ed)):aV P w K mg base (cf P w) 2 f fd ["_law_cell_here","_law_k"] (gb 2 cx) :=
 F.jW ["_law_cell_here","_law_k","_law_number_here","_law_far"] λnd _ _ _ _ _ _ hr O=>by
 unfold el;walk_at "t";walk_at "pp"
def qR(F:bC K "_law_odd" "_law_odd" (top 38) dv f fd)(T:Txt K mg)  : aV P w K mg base (cf P w) 1 f fd ["_law_cell_here","_law_low","_law_high"] (gb 3 gv) :=
 F.jW ["_law_cell_here","_law_low","_law_high","_law_number_here"] λnd _ _ _ _ _ _ hr O=>by
 unfold gc;walk_at "t";walk_at "pp";refine(iz pE AI (by rfl) T.uN uu ?_);walk_at "pp"
def k6:bD ["_law_things","_law_cell_here","_law_low","_law_high"] ["_law_things","_law_cell_here","_law_low","_law_high"] (aA (top 39)):=.of
def rQ(F:bC K "_law_put" "_law_put" (top 39) dv f fd)(T:Txt K mg)(K0:gf P w K mg base 1 "_law_odd" 3 (bb 4 gc)):aV P w K mg base (cf P w) 2 f fd ["_law_things","_law_cell_here","_law_low","_law_high"] (Ik 3 cj) :=
 F.JL k6 rfl ↑12 λ_ _ _ _ _ E hr O=>by
 unfold hW g9 iq;have:=k6.nd;have T2:=T;cases T2;walk_at "pp";refine(z8 (E:=E) ?_ ?_ ?_ rfl ↑3);walk_at "pp";refine(sT ?_ (pf ?_)).pt;walk_at "pp"
def kX:((["_law_k"]:List Str)++(["_law_script"]:List Str)).Nodup:=by decide +kernel
def kS:((["_law_k"]:List Str)++(["_law_cells"]:List Str)).Nodup:=by decide +kernel
def kn:((["_law_dial"]:List Str)++(["_law_script","_law_j"]:List Str)).Nodup:=by decide +kernel
def kK:((["_law_j"]:List Str)++(["_law_cells"]:List Str)).Nodup:=by decide +kernel
def m_(F:bC K "_law_handed" "_law_handed" (top 40) dv f fd)(T:Txt K mg)(Ke:gf P w K mg base 1 "_law_cell" 2 (bb 3 eN))(J9:gf P w K mg base 1 "_law_mix" 2 (bb 3 ed))(J_:IB P w K mg base 2 "_law_put" 3 cj)(Kz:gf P w K mg base 2 "_law_number" 2 (bb 4 el)):aV P w K mg base (cf P w) 3 f fd ["_law_script"] (gb 1 eA) :=
 F.jW ["_law_script","_law_cells","_law_sizes","_law_levers","_law_j","_law_at","_law_some","_law_prices"] λnd _ _ _ _ _ _ hr O=>by
 unfold cO;walk_at "t";walk_at "pp";refine(gZ (fw (g:=(bw 0)) (ts:=["_law_k"]) (fs:=["_law_script"]) (js:=[0]) rfl rfl rfl rfl rfl rfl (.cons rfl .nil) ↑4 (cv (by rfl) T.dD ?_) cQ (λ_ _ _ _ _=>(bF (i:=0) kX)) (λ_=>bK) ck (λ_ _ _ _ _=>?_)));walk_at "pp";refine(qJ (i:=2) (g:=(bw 0)) (ts:=["_law_k"]) (fs:=["_law_cells"]) (js:=[1]) rfl rfl rfl rfl rfl rfl (.cons rfl .nil) ↑4 (cv (by rfl) T.dD ?_) cQ (λ_ _ _ _ _=>(bF (i:=0) kS)) (λ_=>bK) ck (λ_ _ _ _ _=>?_) nd rfl ↑9);walk_at "pp";refine(pJ (i:=2) J_ hr ⋯ (by rfl) O rfl ↑3 ?_);walk_at "pp";refine(pJ (i:=2) J_ hr ⋯ (by rfl) O rfl ↑3 ?_);walk_at "pp";refine(cV (g:=(bw 4)) O rfl (cv (by rfl) T.dD ?_) cQ (bF (i:=4) nd) bK ?_);walk_at "pp";refine(gZ (fw (g:=(bw 0)) (ts:=["_law_dial"]) (fs:=["_law_script","_law_j"]) (js:=[0,4]) rfl rfl rfl rfl rfl rfl (.cons rfl (.cons rfl .nil)) (.cons rfl rfl ↑9 rfl rfl ↑4) (cv (by rfl) T.dD ?_) cQ (λ_ _ _ _ _=>(bF (i:=0) kn)) (λ_=>bK) ck (λ_ _ _ _ _=>?_)));walk_at "pp";refine(sT ?_ (pf ?_)).pt;walk_at "pp";refine(A5 3 ?_);walk_at "pp";refine(Bh 3 ?_);walk_at "pp";refine(oA ?_ (uB ?_) uH);walk_at "pp";refine(ub (i:=3) rfl ↑3 ?_ ?_);walk_at "pp";refine(ub (i:=3) rfl ↑3 ?_ ?_);walk_at "pp";refine(ub (i:=3) rfl ↑3 ?_ ?_);walk_at "pp";refine(Fy (i:=3) rfl ↑3 ?_ ?_);walk_at "pp";refine(qJ (i:=7) (g:=(bw 0)) (ts:=["_law_j"]) (fs:=["_law_cells"]) (js:=[1]) rfl rfl rfl rfl rfl rfl (.cons rfl .nil) ↑4 (cv (by rfl) T.dD ?_) cQ (λ_ _ _ _ _=>(bF (i:=0) kK)) (λ_=>bK) ck (λ_ _ _ _ _=>?_) nd rfl ↑9);walk_at "pp";refine(pJ (i:=7) J_ hr ⋯ (by rfl) O rfl ↑3 ?_);walk_at "pp";refine(pJ (i:=7) J_ hr ⋯ (by rfl) O rfl ↑3 ?_);walk_at "pp";refine(oA ?_ (uB ?_) uH);walk_at "pp"
def nM(F:bC K "_law_whole" "_law_whole" (top 41) dv f fd)(T:Txt K mg)  : aV P w K mg base (cf P w) 1 f fd ["_law_thing","_law_low","_law_high"] (gb 3 dC) :=
 F.jW ["_law_thing","_law_low","_law_high"] λnd _ _ _ _ _ _ hr O=>by
 unfold eX;walk_at "t";walk_at "pp";refine(fU ?_ (fU ?_ (h9 ?_)));walk_at "pp";refine(dR (T := "int") (by rfl) T.ay (bq (v:=.ty "int") (by rfl) T.sG l_ rfl) ↑12 da da ?_);walk_at "pp";refine(tj ?_);walk_at "pp";refine(dR (T := "bool") (by rfl) T.ay (bq (v:=.ty "bool") (by rfl) T.m8 lU rfl) ↑12 da da ?_);walk_at "pp";refine(rD ou ko ou ko ?_ ?_ ?_);walk_at "pp"
def iR:((["_law_notch"]:List Str)++([]:List Str)).Nodup:=by decide +kernel
def j6(F:bC K "_law_is_lever" "_law_is_lever" (top 42) dv f fd)(T:Txt K mg)  : aV P w K mg base (cf P w) 1 f fd ["_law_lever","_law_many"] (gb 2 cq) :=
 F.jW ["_law_lever","_law_many"] λnd _ _ _ _ _ _ hr O=>by
 unfold cW;walk_at "t";walk_at "pp";refine(iI ?_ (gE ?_)).pt;walk_at "pp";refine(lT (Ts:=["list","tuple"]) (by rfl) T.ay (i6 (aT (bq (v:=.ty "list") (by rfl) T.gM e_ rfl) (aT (bq (v:=.ty "tuple") (by rfl) T.jO gW rfl) cZ))) (fun σ H R h=>⟨by show 2<=sizeLine;decide,h⟩) ↑12 da ?_);walk_at "pp";refine(gZ (yy (g:=(bw 0)) (ts:=["_law_notch"]) (fs:=[]) (js:=[]) (cl:=[]) rfl rfl rfl rfl rfl rfl .nil .nil (gU ?_) fK (λ_ _ _ _ _=>(bF (i:=0) iR)) (λ_=>bK) ck (λ_ _ _ _ _=>?_) (λ_ _ _ _ _=>?_)));walk_at "pp";refine(iI ?_ (gE ?_)).pt;walk_at "pp";refine(dR (T := "int") (by rfl) T.ay (bq (v:=.ty "int") (by rfl) T.sG l_ rfl) ↑12 da da ?_);walk_at "pp";refine(dR (T := "bool") (by rfl) T.ay (bq (v:=.ty "bool") (by rfl) T.m8 lU rfl) ↑12 da da ?_);walk_at "pp"
def rg(F:bC K "_law_due" "_law_due" (top 43) dv f fd)(T:Txt K mg)(KH:gf P w K mg base 1 "_law_whole" 3 (bb 3 eX))(Kn:gf P w K mg base 1 "_law_is_lever" 2 (bb 2 cW)):aV P w K mg base (cf P w) 2 f fd ["_law_sizes","_law_levers","_law_prices"] (gb 3 gA) :=
 F.jW ["_law_sizes","_law_levers","_law_prices","_law_k"] λnd _ _ _ _ _ _ hr O=>by
 unfold gL;walk_at "t";walk_at "pp";refine(cV (g:=(bw 3)) O rfl (cv (by rfl) T.dD ?_) cQ (bF (i:=3) nd) bK ?_);walk_at "pp";refine(cV (g:=(bw 3)) O rfl (cv (by rfl) T.dD ?_) cQ (bF (i:=3) nd) bK ?_);walk_at "pp";refine(cV (g:=(bw 3)) O rfl (cv (by rfl) T.dD ?_) cQ (bF (i:=3) nd) bK ?_);walk_at "pp";refine(jz (n5 rfl) uV (by rfl) T.yX zC ?_);walk_at "pp";refine(iI ?_ (iI ?_ (gE ?_))).pt;walk_at "pp"
def nP(F:bC K "_law_flags" "_law_flags" (top 44) dv f fd)(T:Txt K mg)  : aV P w K mg base (cf P w) 1 f fd ["_law_e"] (gb 1 gk) :=
 F.jW ["_law_e","_law_flags_here","_law_others"] λnd _ _ _ _ _ _ hr O=>by
 unfold gH;walk_at "t";walk_at "pp";refine(T.om.is (by rfl) T.ay (by rfl) ?_);walk_at "pp";refine(T.lZ.is (by rfl) T.ay (by rfl) ?_);walk_at "pp";refine(T.kd.is (by rfl) T.ay (by rfl) ?_);walk_at "pp";refine(T.kR.is (by rfl) T.ay (by rfl) ?_);walk_at "pp";refine(BA T.iW (.cons T.iW (by rfl) (.cons T.kZ (by rfl) (.cons T.oE (by rfl) (.cons T.rW (by rfl) (.cons T.rm (by rfl) (.cons T.rK (by rfl) (.cons T.qY (by rfl) (.cons T.sj (by rfl) .nil)))))))) (by rfl) T.ay ?_ ↑12);walk_at "pp";refine(Bk (by rfl) T.ay (bq (v:=.ty "ValueError") (by rfl) T.jo nJ rfl) T.Jl ?_);walk_at "pp"
def nz(F:bC K "_law_round" "_law_round" (top 46) dv f fd)(T:Txt K mg)  : aV P w K mg base (cf P w) 1 f fd ["_law_sizes"] (gb 1 fe) :=
 F.jW ["_law_sizes","_law_found","_law_size","_law_step"] λnd _ _ _ _ _ _ hr O=>by
 unfold eZ;walk_at "t";walk_at "pp";refine(cV (g:=(bw 2)) O rfl (gU ?_) fK (bF (i:=2) nd) bK ?_);walk_at "pp";refine(sx O ?_ ?_);walk_at "pp"
def qI(F:bC K "_law_row" "_law_row" (top 48) dv f fd)(T:Txt K mg)  : aV P w K mg base (cf P w) 1 f fd ["_law_row_here","_law_way"] (gb 2 fy) :=
 F.jW ["_law_row_here","_law_way"] λnd _ _ _ _ _ _ hr O=>by
 unfold gy;walk_at "t";walk_at "pp";refine(dR (T := "list") (by rfl) T.ay (bq (v:=.ty "list") (by rfl) T.gM e_ rfl) ↑12 da da ?_);walk_at "pp"
def kP:((["_law_row_here"]:List Str)++(["_law_way","_law_at"]:List Str)).Nodup:=by decide +kernel
def mG(F:bC K "_law_copied" "_law_copied" (top 49) dv f fd)(T:Txt K mg)(K1:gf P w K mg base 1 "_law_row" 2 (bb 2 gy)):aV P w K mg base (cf P w) 2 f fd ["_law_handed_here","_law_way"] (gb 2 bS) :=
 F.jW ["_law_handed_here","_law_way","_law_found","_law_at","_law_rows"] λnd _ _ _ _ _ _ hr O=>by
 unfold eo;walk_at "t";walk_at "pp";refine(cV (g:=(bw 3)) O rfl (cv (by rfl) T.dD ?_) cQ (bF (i:=3) nd) bK ?_);walk_at "pp";refine(Ae (i:=4) (g:=(bw 0)) (ts:=["_law_row_here"]) (fs:=["_law_way","_law_at"]) (js:=[1,3]) rfl rfl rfl rfl rfl rfl (.cons rfl (.cons rfl .nil)) (.cons rfl rfl ↑9 rfl rfl ↑4) (gU ?_) fK (λ_ _ _ _ _=>(bF (i:=0) kP)) (λ_=>bK) ck (λ_ _ _ _ _=>?_) nd rfl ↑9);walk_at "pp";refine(fU ?_ (h9 ?_));walk_at "pp"
def iJ:bD ["self","sizes","levers","prices"] ["self","sizes","levers","prices"] (aA (inClass (top 27) 0)):=.of
def ly:((["lever"]:List Str)++(["sizes"]:List Str)).Nodup:=by decide +kernel
def iK(F:bC K "__init__" "Vault.__init__" (inClass (top 27) 0) dv f fd)(T:Txt K mg)(Kl:gf P w K mg base 3 "need_sizes" 1 (bb 3 cH))(Ki:gf P w K mg base 3 "need_levers" 2 (bb 4 cN))(Le:gf P w K mg base 1 "rests" 2 (bb 2 lO))(Km:gf P w K mg base 3 "prices_for" 2 (bb 3 de))(Kh:gf P w K mg base 2 "multiple_of" 1 (bb 3 eG)):aV P w K mg base (cf P w) 4 f fd ["self","sizes","levers","prices"] (CS 4 az bf) :=
 F.JE iJ ↑12 λ_ _ _ _ _ _ hr O=>by
 unfold cJ;have:=iJ.nd;have T2:=T;cases T2;walk_at "pp";refine(pK (i:=0) rfl ↑3 T.jN T.fx ?_);walk_at "pp";refine(pK (i:=0) rfl ↑3 T.jN T.dF ?_);walk_at "pp";refine(gZ (fw (g:=(bw 0)) (ts:=["lever"]) (fs:=["sizes"]) (js:=[1]) rfl rfl rfl rfl rfl rfl (.cons rfl .nil) ↑4 (gU ?_) fK (λ_ _ _ _ _=>(bF (i:=0) ly)) (λ_=>bK) ck (λ_ _ _ _ _=>?_)));walk_at "pp";refine(pK (i:=0) rfl ↑3 T.jN T.eK ?_);walk_at "pp";refine(pK (i:=0) rfl ↑3 T.jN T.eT ?_);walk_at "pp"
def mZ(F:bC K "sizes" "Vault.sizes" (inClass (top 27) 1) dv f fd)(T:Txt K mg)  : aV P w K mg base (cf P w) 1 f fd ["self"] (gb 1 cw) :=
 F.jW ["self"] λnd _ _ _ _ _ _ hr O=>by
 unfold eE;walk_at "t";walk_at "pp"
def lx(F:bC K "levers" "Vault.levers" (inClass (top 27) 2) dv f fd)(T:Txt K mg)  : aV P w K mg base (cf P w) 1 f fd ["self"] (gb 1 bY) :=
 F.jW ["self"] λnd _ _ _ _ _ _ hr O=>by
 unfold dk;walk_at "t";walk_at "pp"
def lC(F:bC K "prices" "Vault.prices" (inClass (top 27) 3) dv f fd)(T:Txt K mg)  : aV P w K mg base (cf P w) 1 f fd ["self"] (gb 1 b_) :=
 F.jW ["self"] λnd _ _ _ _ _ _ hr O=>by
 unfold dy;walk_at "t";walk_at "pp"
def lG(F:bC K "around" "Vault.around" (inClass (top 27) 4) dv f fd)(T:Txt K mg)  : aV P w K mg base (cf P w) 1 f fd ["self"] (gb 1 bW) :=
 F.jW ["self"] λnd _ _ _ _ _ _ hr O=>by
 unfold dE;walk_at "t";walk_at "pp"
def jL:((["_law_word"]:List Str)++(["_law_due_here"]:List Str)).Nodup:=by decide +kernel
def lz(F:bC K "_law_refused" "_law_refused" (top 45) dv f fd)(T:Txt K mg)(Kc:B5 P w K mg base az 4 "Vault" 4 [] bf)(KC:gf P w K mg base 1 "_law_flags" 1 (bb 3 gH))(Kf:gf P w K mg base 3 "_law_same" 2 (aQ 3)):aV P w K mg base (cf P w) 6 f fd ["_law_handed_here","_law_due_here"] (gb 2 cB) :=
 F.jW ["_law_handed_here","_law_due_here","_law_caught","_law_e","_law_words"] λnd _ _ _ _ _ _ hr O=>by
 unfold dz;walk_at "t";walk_at "pp";refine(DA rfl rfl (λpn E2 O2=>(Aa ?_)) (.BF (i:=3) (by rfl) T.gg.mg ↑12 nd rfl rfl T.gg.ok (λea=>?_) .nil));walk_at "pp";refine(iI ?_ (gE ?_)).pt;walk_at "pp";refine(gZ (fw (g:=(bw 0)) (ts:=["_law_word"]) (fs:=["_law_due_here"]) (js:=[1]) rfl rfl rfl rfl rfl rfl (.cons rfl .nil) ↑4 (gU ?_) fK (λ_ _ _ _ _=>(bF (i:=0) jL)) (λ_=>bK) ck (λ_ _ _ _ _=>?_)));walk_at "pp";refine(T.lZ.is (by rfl) T.ay (by rfl) ?_);walk_at "pp";refine(B0 ?_ T.uw rfl);walk_at "pp";refine(mw ?_ );walk_at "pp";refine(BC T.kd T.kR (by rfl) T.ay (by rfl) (by rfl) ?_);walk_at "pp";refine(B0 ?_ T.sk rfl);walk_at "pp"
def g_:((["_law_notch","_law_size"]:List Str)++([]:List Str)).Nodup:=by decide +kernel
def qg(F:bC K "_law_told" "_law_told" (top 47) dv f fd)(T:Txt K mg)(Kw:AV P w K mg base az 1 "sizes" 1 (bb 1 eE))(Kf:gf P w K mg base 3 "_law_same" 2 (aQ 3))(Kq:AV P w K mg base az 1 "levers" 1 (bb 1 dk))(Kr:AV P w K mg base az 1 "prices" 1 (bb 1 dy))(KD:gf P w K mg base 1 "_law_round" 1 (bb 4 eZ))(Kp:AV P w K mg base az 1 "around" 1 (bb 1 dE)):aV P w K mg base (cf P w) 4 f fd ["_law_vault","_law_sizes","_law_levers","_law_prices"] (gb 4 eL) :=
 F.jW ["_law_vault","_law_sizes","_law_levers","_law_prices","_law_rests","_law_lever"] λnd _ _ _ _ _ _ hr O=>by
 unfold fP;walk_at "t";walk_at "pp";refine(cV (g:=(bw 5)) O rfl (gU ?_) fK (bF (i:=5) nd) bK ?_);walk_at "pp";refine(gZ (fw (g:=(t4 K 2 (fN (bw 0) (fN (bw 1) qQ)))) (ts:=["_law_notch","_law_size"]) (fs:=[]) (js:=[]) (cl:=[]) rfl rfl rfl rfl rfl rfl .nil .nil (tw (by rfl) T.u7 ?_) pB (λ_ _ _ _ _=>(nt (n:=2) rfl (bV (bF (i:=0) g_) (bV (bF (i:=1) g_) iB)))) (λ_=>jj) mO (λ_ _ _ _ _=>?_)));walk_at "pp";refine(iI ?_ (gE ?_)).pt;walk_at "pp";refine(fU ?_ (h9 ?_));walk_at "pp"
def jY:bD ["_law_script","_law_sizes","_law_levers","_law_prices","_law_way","_law_due_here","_law_handed_here","_law_vault","_law_thing"] ["_law_script"] (aA (top 50)):=.of
def Cu(F:bC K "law" "law" (top 50) dv f fd)(T:Txt K mg)(Ky:gf P w K mg base 3 "_law_handed" 1 (bb 8 cO))(Ke:gf P w K mg base 1 "_law_cell" 2 (bb 3 eN))(J9:gf P w K mg base 1 "_law_mix" 2 (bb 3 ed))(KZ:gf P w K mg base 2 "_law_due" 3 (bb 4 gL))(Kx:gf P w K mg base 2 "_law_copied" 2 (bb 5 eo))(Ks:gf P w K mg base 6 "_law_refused" 2 (bb 5 dz))(Kc:B5 P w K mg base az 4 "Vault" 4 [] bf)(Kv:B5 P w K mg base az 4 "Vault" 4 [.aJ] bf)(KR:gf P w K mg base 4 "_law_told" 4 (bb 6 fP)):aV P w K mg base (cf P w) 7 f fd ["_law_script"] (GH 9 ma) :=
 F.JJ jY rfl λ_ _ _ _ _ E hr O=>by
 unfold IQ;simp only[chain];unfold lW pW qi pD fO fE gz gC gp lL;have:=jY.nd;have T2:=T;cases T2;walk_at "pp";refine(bP ?_ ?_);walk_at "pp";refine(Co (g:=(Cr K 3 (qq [1,2,3]))) (Eh (n:=3) rfl (bV (bF (i:=1) jY.nd) (bV (bF (i:=2) jY.nd) (bV (bF (i:=3) jY.nd) iB)))) Ef ?_);walk_at "pp";refine(bP ?_ ?_);walk_at "pp";refine(bP ?_ ?_);walk_at "pp";refine(xM ?_);walk_at "pp";refine(bP ?_ ?_);walk_at "pp";refine(bP ?_ ?_);walk_at "pp";refine(fU ?_ (h9 ?_));walk_at "pp";refine(bP ?_ ?_);walk_at "pp";refine(bP ?_ ?_);walk_at "pp";refine(sT ?_ (pf ?_)).pt;walk_at "pp";refine(bP ?_ ?_);walk_at "pp";refine(iI ?_ (gE ?_)).pt;walk_at "pp";refine(bP ?_ ?_);walk_at "pp";refine(zN O.own rfl ?_ (bF (i:=8) jY.nd) ?_);walk_at "pp";refine(A_ ?_);walk_at "pp";refine(Cq ?_ ?_);walk_at "pp";refine(bP ?_ gF);walk_at "pp";refine(x_ ?_ ?_ gF);walk_at "pp";refine(xv ?_);walk_at "pp";exact(eI m7 (by rfl) T.ay iY (aT (fq (i:=8) rfl ↑3) (aT (bq (v:=.ty "list") (by rfl) T.gM e_ rfl) cZ)));walk_at "pp";refine(bP ?_ gF);walk_at "pp";refine(jI ?_);walk_at "pp";exact(Cf Rr PySem.F.slot_list_clear PySem.F.type_list_clear xT (fq (i:=8) rfl ↑3));walk_at "pp";refine(bP ?_ gF);walk_at "pp"
end sJ
namespace sJ
open PySem L2 PyProof.Rows
open PySem.W (nsIn findIn codeIn keepIn isFn mroIn specialIn takesIn hasDictIn typeIn plainGet plainOver makesIn mg_of mg_none_of fnOf excIn clsIn)
abbrev κ(w:World):Nb:=HD.K w.params
variable(w:World)
abbrev Gm:Value:=HD.st "dialvault.wholes" 542
abbrev zV:Value:=HD.st "dialvault.vault" 578
abbrev q0:Value:=HD.st "law_dialvault_k11_vaults_taken_and_refused" 693
abbrev Ha:Value:=HD.st "dialvault.errors" 194
def cG:FuncData:=vf "_law_same" "_law_same" (top 36) q0 431
def cD:bC (κ w) "_law_same" "_law_same" (top 36) .none 432 cG:=.of ↑10 ↑10 ↑10
def fG:Binds (κ w) cG ["_law_found","_law_due_here"] []:=Binds.all (GB λ_ _=>rfl)
def ik:FuncData:=vf "_law_put" "_law_put" (top 39) q0 452
def nr:bC (κ w) "_law_put" "_law_put" (top 39) .none 453 ik:=.of ↑10 ↑10 ↑10
def sY:Binds (κ w) ik ["_law_things","_law_cell_here","_law_low","_law_high"] []:=Binds.all (JD λ_ _ _ _=>rfl)
def cR:FuncData:=fnOf "__init__" "Vault.__init__" (fJ (inClass (top 27) 0)) (cK (inClass (top 27) 0)) (aA (inClass (top 27) 0)) (.ref 338) .none .none zV none (.ref 342) .none
def e9:bC (κ w) "__init__" "Vault.__init__" (inClass (top 27) 0) (.ref 338) 343 cR:=.of ↑10 ↑10 ↑10
def tD:FuncData:=vf "law" "law" (top 50) q0 519
def Ft:bC (κ w) "law" "law" (top 50) .none 520 tD:=.of ↑10 ↑10 ↑10
def br:cS (κ w) aM:=⟨↑10,↑10,↑10,↑10,↑10,↑10,↑10,↑10,↑10⟩
def bu:cS (κ w) aO:=⟨↑10,↑10,↑10,↑10,↑10,↑10,↑10,↑10,↑10⟩
def fL:FuncData:=vf "__init__" "NoDial.__init__" (inClass (top 4) 0) Ha 73
def G9:(κ w).lookup 74=some ⟨.type "function",none,.func fL,⟨[]⟩⟩:=by kernel_rfl
def Hj:codeIn (κ w) (.ref 73) "NoDial.__init__"=true:=by kernel_rfl
def tH:Binds (κ w) fL ["self","dial"] []:=Binds.all (GB λ_ _=>rfl)
def tm:bD ["self","dial"] ["self","dial"] (aA (inClass (top 4) 0)):=.of
def IY:((clsIn (κ w) 84).any λcd=>ff cd.mro)=true:=by kernel_rfl
def IA:findIn (κ w) (.ref 84) "dial"=some none:=by kernel_rfl
def tV{P:Program}{w:World}{mg:Str->Option Value}{base:Heap}:aV P w (κ w) mg base (cf P w) 1 74 fL ["self","dial"] (wx (κ w) aO "dial") :=
 ni (n0 := "self") (n1 := "dial") (fl := "dial") (G9 w) (Hj w) tm (bu w) (IY w) (IA w) ↑3 ↑3 ↑12 ↑12 ↑12 ↑12 (λ_=>rfl)
def aZ:cS (κ w) aH:=⟨↑10,↑10,↑10,↑10,↑10,↑10,↑10,↑10,↑10⟩
def eY:FuncData:=vf "__init__" "NoLever.__init__" (inClass (top 5) 0) Ha 99
def Ja:(κ w).lookup 100=some ⟨.type "function",none,.func eY,⟨[]⟩⟩:=by kernel_rfl
def Iu:codeIn (κ w) (.ref 99) "NoLever.__init__"=true:=by kernel_rfl
def qU:Binds (κ w) eY ["self","lever"] []:=Binds.all (GB λ_ _=>rfl)
def qN:bD ["self","lever"] ["self","lever"] (aA (inClass (top 5) 0)):=.of
def HV:((clsIn (κ w) 110).any λcd=>ff cd.mro)=true:=by kernel_rfl
def GW:findIn (κ w) (.ref 110) "lever"=some none:=by kernel_rfl
def sF{P:Program}{w:World}{mg:Str->Option Value}{base:Heap}:aV P w (κ w) mg base (cf P w) 1 100 eY ["self","lever"] (wx (κ w) aH "lever") :=
 ni (n0 := "self") (n1 := "lever") (fl := "lever") (Ja w) (Iu w) qN (aZ w) (HV w) (GW w) ↑3 ↑3 ↑12 ↑12 ↑12 ↑12 (λ_=>rfl)
def a_:cS (κ w) aE:=⟨↑10,↑10,↑10,↑10,↑10,↑10,↑10,↑10,↑10⟩
def eU:FuncData:=vf "__init__" "NoPrice.__init__" (inClass (top 6) 0) Ha 125
def GO:(κ w).lookup 126=some ⟨.type "function",none,.func eU,⟨[]⟩⟩:=by kernel_rfl
def Hn:codeIn (κ w) (.ref 125) "NoPrice.__init__"=true:=by kernel_rfl
def sv:Binds (κ w) eU ["self","lever"] []:=Binds.all (GB λ_ _=>rfl)
def rO:bD ["self","lever"] ["self","lever"] (aA (inClass (top 6) 0)):=.of
def Jj:((clsIn (κ w) 136).any λcd=>ff cd.mro)=true:=by kernel_rfl
def Ic:findIn (κ w) (.ref 136) "lever"=some none:=by kernel_rfl
def rL{P:Program}{w:World}{mg:Str->Option Value}{base:Heap}:aV P w (κ w) mg base (cf P w) 1 126 eU ["self","lever"] (wx (κ w) aE "lever") :=
 ni (n0 := "self") (n1 := "lever") (fl := "lever") (GO w) (Hn w) rO (a_ w) (Jj w) (Ic w) ↑3 ↑3 ↑12 ↑12 ↑12 ↑12 (λ_=>rfl)
def dm:nV (κ w) az:=⟨↑10,↑10,↑10,↑10⟩
def Fi:findIn (κ w) (.ref 374) "dial_sizes"=some none:=by kernel_rfl
def Fq:findIn (κ w) (.ref 374) "least_round"=some none:=by kernel_rfl
def Gj:findIn (κ w) (.ref 374) "lever_prices"=some none:=by kernel_rfl
def Fp:findIn (κ w) (.ref 374) "lever_settings"=some none:=by kernel_rfl
def Hz:nsIn (κ w) mainGlobals "LEAST_PRICE"=some (some (.int 1 588)):=by kernel_rfl
def GP:nsIn (κ w) mainGlobals "LEAST_SIZE"=some (some (.int 2 582)):=by kernel_rfl
def G1:nsIn (κ w) mainGlobals "MOST_DIALS"=some (some (.int 6 580)):=by kernel_rfl
def GZ:nsIn (κ w) mainGlobals "MOST_LEVERS"=some (some (.int 8 586)):=by kernel_rfl
def HC:nsIn (κ w) mainGlobals "MOST_PRICE"=some (some (.int 1000 590)):=by kernel_rfl
def GS:nsIn (κ w) mainGlobals "MOST_SIZE"=some (some (.int 360 584)):=by kernel_rfl
def IP:nsIn (κ w) mainGlobals "VaultError"=some (some (.ref 38)):=by kernel_rfl
def HG:jf (λC=>Qe (κ w) (.ref C) (.ref jn)) ez eB=true:=by kernel_rfl
def GY:nsIn (κ w) mainGlobals "NoDial"=some (some (.ref 84)):=by kernel_rfl
def I_:(jP.all λa=>Ng (κ w) (.type a) (.ref aO)==some false)=true:=by kernel_rfl
def Hh:jf (λC=>Ng (κ w) (.ref C) (.ref aO)) dY dX=true:=by kernel_rfl
def Ji:jf (λC=>Ng (κ w) (.ref C) (.ref aO)) d_ dN=true:=by kernel_rfl
def H_:nsIn (κ w) mainGlobals "NoGear"=some (some (.ref 257)):=by kernel_rfl
def G8:(jP.all λa=>Ng (κ w) (.type a) (.ref jG)==some false)=true:=by kernel_rfl
def GN:jf (λC=>Ng (κ w) (.ref C) (.ref jG)) oW o7=true:=by kernel_rfl
def Hb:jf (λC=>Ng (κ w) (.ref C) (.ref jG)) kD kC=true:=by kernel_rfl
def HN:nsIn (κ w) mainGlobals "NoLever"=some (some (.ref 110)):=by kernel_rfl
def HK:(jP.all λa=>Ng (κ w) (.type a) (.ref aH)==some false)=true:=by kernel_rfl
def Hk:jf (λC=>Ng (κ w) (.ref C) (.ref aH)) iT i9=true:=by kernel_rfl
def Jf:jf (λC=>Ng (κ w) (.ref C) (.ref aH)) dJ dP=true:=by kernel_rfl
def HU:nsIn (κ w) mainGlobals "NoLine"=some (some (.ref 302)):=by kernel_rfl
def Je:(jP.all λa=>Ng (κ w) (.type a) (.ref jM)==some false)=true:=by kernel_rfl
def Hq:jf (λC=>Ng (κ w) (.ref C) (.ref jM)) oO ot=true:=by kernel_rfl
def HQ:jf (λC=>Ng (κ w) (.ref C) (.ref jM)) ke kI=true:=by kernel_rfl
def Jb:nsIn (κ w) mainGlobals "NoLock"=some (some (.ref 283)):=by kernel_rfl
def IE:(jP.all λa=>Ng (κ w) (.type a) (.ref jV)==some false)=true:=by kernel_rfl
def G7:jf (λC=>Ng (κ w) (.ref C) (.ref jV)) nZ oy=true:=by kernel_rfl
def Ir:jf (λC=>Ng (κ w) (.ref C) (.ref jV)) kx j4=true:=by kernel_rfl
def IS:nsIn (κ w) mainGlobals "NoNumber"=some (some (.ref 58)):=by kernel_rfl
def GK:(jP.all λa=>Ng (κ w) (.type a) (.ref gG)==some false)=true:=by kernel_rfl
def HE:jf (λC=>Ng (κ w) (.ref C) (.ref gG)) k7 k_=true:=by kernel_rfl
def Iv:jf (λC=>Ng (κ w) (.ref C) (.ref gG)) hU g8=true:=by kernel_rfl
def Ih:nsIn (κ w) mainGlobals "NoPrice"=some (some (.ref 136)):=by kernel_rfl
def Iq:(jP.all λa=>Ng (κ w) (.type a) (.ref aE)==some false)=true:=by kernel_rfl
def GX:jf (λC=>Ng (κ w) (.ref C) (.ref aE)) i7 i8=true:=by kernel_rfl
def G4:jf (λC=>Ng (κ w) (.ref C) (.ref aE)) dZ dO=true:=by kernel_rfl
def HP:nsIn (κ w) mainGlobals "NoPulls"=some (some (.ref 174)):=by kernel_rfl
def IX:(jP.all λa=>Ng (κ w) (.type a) (.ref iC)==some false)=true:=by kernel_rfl
def I0:jf (λC=>Ng (κ w) (.ref C) (.ref iC)) ng mT=true:=by kernel_rfl
def IU:jf (λC=>Ng (κ w) (.ref C) (.ref iC)) iU iZ=true:=by kernel_rfl
def HY:nsIn (κ w) mainGlobals "NoSetting"=some (some (.ref 155)):=by kernel_rfl
def Jg:(jP.all λa=>Ng (κ w) (.type a) (.ref fR)==some false)=true:=by kernel_rfl
def He:jf (λC=>Ng (κ w) (.ref C) (.ref fR)) jA jK=true:=by kernel_rfl
def HB:jf (λC=>Ng (κ w) (.ref C) (.ref fR)) gj gx=true:=by kernel_rfl
def Il:nsIn (κ w) mainGlobals "NoText"=some (some (.ref 231)):=by kernel_rfl
def Im:(jP.all λa=>Ng (κ w) (.type a) (.ref iu)==some false)=true:=by kernel_rfl
def G5:jf (λC=>Ng (κ w) (.ref C) (.ref iu)) o5 n9=true:=by kernel_rfl
def GR:jf (λC=>Ng (κ w) (.ref C) (.ref iu)) kO kA=true:=by kernel_rfl
def HM:nsIn (κ w) mainGlobals "TooMany"=some (some (.ref 193)):=by kernel_rfl
def IC:(jP.all λa=>Ng (κ w) (.type a) (.ref aM)==some false)=true:=by kernel_rfl
def Hu:jf (λC=>Ng (κ w) (.ref C) (.ref aM)) i0 i5=true:=by kernel_rfl
def G3:jf (λC=>Ng (κ w) (.ref C) (.ref aM)) i_ jb=true:=by kernel_rfl
def IM:nsIn (κ w) mainGlobals "Unlike"=some (some (.ref 212)):=by kernel_rfl
def HZ:(jP.all λa=>Ng (κ w) (.type a) (.ref jt)==some false)=true:=by kernel_rfl
def IV:jf (λC=>Ng (κ w) (.ref C) (.ref jt)) oj n8=true:=by kernel_rfl
def Hi:jf (λC=>Ng (κ w) (.ref C) (.ref jt)) kH kG=true:=by kernel_rfl
def IT:findIn (κ w) (.ref aO) "dial"=some none:=by kernel_rfl
def G0:findIn (κ w) (.ref aE) "lever"=some none:=by kernel_rfl
def II:findIn (κ w) (.ref aH) "lever"=some none:=by kernel_rfl
def Ay:nsIn (κ w) mainGlobals "_law_same"=some (some (.ref 432)):=by kernel_rfl
def Ga:(κ w).lookup 338=some (HD.tu [.none]):=by kernel_rfl
def pV:Binds (κ w) cR ["self","sizes","levers","prices"] []:=(e9 w).binds (Ga w) rfl λ_ _ _ _ _ _ us hl=>by obtain⟨a,b,c,d,rfl⟩:=Jt (show _=4 from (by simpa using hl));exact⟨_,rfl,rfl⟩
def nB:Binds (κ w) cR ["self","sizes","levers","prices"] [.none]:=(e9 w).binds (Ga w) rfl λ_ _ _ _ _ _ us hl=>by obtain⟨a,b,c,rfl⟩:=G6 (show _=3 from (by simpa using hl));exact⟨_,rfl,rfl⟩
variable{h:Heap}
def txt{w:World}{mg:Str->Option Value}(X:Tt (κ w) h)(G:h.Ns mainGlobals mg):Txt (κ w) mg where
 jo:=mg_none_of X G ↑10
 F2:=mg_none_of X G ↑10
 m8:=mg_none_of X G ↑10
 hR:=mg_none_of X G ↑10
 sG:=mg_none_of X G ↑10
 ay:=mg_none_of X G ↑10
 FQ:=mg_none_of X G ↑10
 gM:=mg_none_of X G ↑10
 yX:=mg_none_of X G ↑10
 dD:=mg_none_of X G ↑10
 uN:=mg_none_of X G ↑10
 jO:=mg_none_of X G ↑10
 u7:=mg_none_of X G ↑10
 nK:=⟨_,mg_of X G (Hz w),⟨_,rfl⟩⟩
 qG:=⟨_,mg_of X G (GP w),⟨_,rfl⟩⟩
 qy:=⟨_,mg_of X G (G1 w),⟨_,rfl⟩⟩
 nI:=⟨_,mg_of X G (GZ w),⟨_,rfl⟩⟩
 qz:=⟨_,mg_of X G (HC w),⟨_,rfl⟩⟩
 rE:=⟨_,mg_of X G (GS w),⟨_,rfl⟩⟩
 jN:=dm w
 vn:=⟨↑10,br w,↑10,↑10,mg_of X G ↑10⟩
 gg:=.of (mg_of X G (IP w)) (HG w)
 lZ:=.of (mg_of X G (GY w)) (I_ w) (Hh w) (Ji w) bA bA (dQ (bu w) bA) (dQ (aZ w) (dQ (a_ w) (dQ (br w) bA)))
 rK:=.of (mg_of X G (H_ w)) (G8 w) (GN w) (Hb w) bA bA bA (dQ (bu w) (dQ (aZ w) (dQ (a_ w) (dQ (br w) bA))))
 kd:=.of (mg_of X G (HN w)) (HK w) (Hk w) (Jf w) bA bA (dQ (aZ w) bA) (dQ (bu w) (dQ (a_ w) (dQ (br w) bA)))
 sj:=.of (mg_of X G (HU w)) (Je w) (Hq w) (HQ w) bA bA bA (dQ (bu w) (dQ (aZ w) (dQ (a_ w) (dQ (br w) bA))))
 qY:=.of (mg_of X G (Jb w)) (IE w) (G7 w) (Ir w) bA bA bA (dQ (bu w) (dQ (aZ w) (dQ (a_ w) (dQ (br w) bA))))
 iW:=.of (mg_of X G (IS w)) (GK w) (HE w) (Iv w) bA bA bA (dQ (bu w) (dQ (aZ w) (dQ (a_ w) (dQ (br w) bA))))
 kR:=.of (mg_of X G (Ih w)) (Iq w) (GX w) (G4 w) bA bA (dQ (a_ w) bA) (dQ (bu w) (dQ (aZ w) (dQ (br w) bA)))
 oE:=.of (mg_of X G (HP w)) (IX w) (I0 w) (IU w) bA bA bA (dQ (bu w) (dQ (aZ w) (dQ (a_ w) (dQ (br w) bA))))
 kZ:=.of (mg_of X G (HY w)) (Jg w) (He w) (HB w) bA bA bA (dQ (bu w) (dQ (aZ w) (dQ (a_ w) (dQ (br w) bA))))
 rm:=.of (mg_of X G (Il w)) (Im w) (G5 w) (GR w) bA bA bA (dQ (bu w) (dQ (aZ w) (dQ (a_ w) (dQ (br w) bA))))
 om:=.of (mg_of X G (HM w)) (IC w) (Hu w) (G3 w) bA bA (dQ (br w) bA) (dQ (bu w) (dQ (aZ w) (dQ (a_ w) bA)))
 rW:=.of (mg_of X G (IM w)) (HZ w) (IV w) (Hi w) bA bA bA (dQ (bu w) (dQ (aZ w) (dQ (a_ w) (dQ (br w) bA))))
 uw:=(dQ ⟨bu w,(IT w)⟩ bA)
 sk:=(dQ ⟨aZ w,(II w)⟩ (dQ ⟨a_ w,(G0 w)⟩ bA))
 Jl:=(dQ ⟨bu w,↑10⟩ (dQ ⟨aZ w,↑10⟩ (dQ ⟨a_ w,↑10⟩ (dQ ⟨br w,↑10⟩ bA))))
 fx:=(Fi w)
 eT:=(Fq w)
 eK:=(Gj w)
 dF:=(Fp w)
 qD:=λC h=>by obtain rfl:=eq_of_beq h;exact⟨dm w,(Fi w)⟩
 nS:=λC h=>by obtain rfl:=eq_of_beq h;exact⟨dm w,(Fq w)⟩
 nh:=λC h=>by obtain rfl:=eq_of_beq h;exact⟨dm w,(Gj w)⟩
 kU:=λC h=>by obtain rfl:=eq_of_beq h;exact⟨dm w,(Fp w)⟩
theorem Ek{P:Program}{w:World}{mg:Str->Option Value}(X:Tt (κ w) h)(G:h.Ns mainGlobals mg)(base:Heap):aV P w (κ w) mg base (cf P w) 7 520 tD ["_law_script"] (GH 9 ma):=by
 have T:=txt X G;have Lr:qf P w (κ w) mg base aO "NoDial" "dial" := ⟨⟨74,fL,["self","dial"],↑10,↑10,tV,tH w⟩,bu w,↑10,↑10,mg_of X G ↑10⟩
 have Lb:qf P w (κ w) mg base aH "NoLever" "lever" := ⟨⟨100,eY,["self","lever"],↑10,↑10,sF,qU w⟩,aZ w,↑10,↑10,mg_of X G ↑10⟩
 have Ld:qf P w (κ w) mg base aE "NoPrice" "lever" := ⟨⟨126,eU,["self","lever"],↑10,↑10,rL,sv w⟩,a_ w,↑10,↑10,mg_of X G ↑10⟩
 have Kk:=mS P w base X G 311 310 Gm λD=>qT D T;have Lo:=mS P w base X G 316 315 Gm λD=>wj D T Kk;have Ln:=mS P w base X G 323 322 Gm λD=>wD D T;have Kh:=mS P w base X G 330 329 Gm λD=>mi D T Ln;have Kg:=mS P w base X G 385 384 zV λD=>pL D T Kk;have Kl:=mS P w base X G 392 391 zV λD=>nU D T Lr Kg;have Ki:=mS P w base X G 399 398 zV λD=>mf D T Lo Lb;have Km:=mS P w base X G 406 405 zV λD=>nA D T Ld Kg;have Le:=mS P w base X G 411 410 zV λD=>wV D T;have Ke:=mS P w base X G 418 417 q0 λD=>pQ D T;have J9:=mS P w base X G 425 424 q0 λD=>rN D T;have K7:gf P w (κ w) mg base 0 "_law_same" 2 (aQ 0):=⟨⟨432,cG,["_law_found","_law_due_here"],mg_of X G (Ay w),(cD w).kp,rfl,fG w,aV.no⟩⟩
 have K8:gf P w (κ w) mg base 1 "_law_same" 2 (aQ 1):=⟨⟨432,cG,["_law_found","_law_due_here"],mg_of X G (Ay w),(cD w).kp,rfl,fG w,gJ (cD w) T K7 ⋯ ⟩⟩
 have K9:gf P w (κ w) mg base 2 "_law_same" 2 (aQ 2):=⟨⟨432,cG,["_law_found","_law_due_here"],mg_of X G (Ay w),(cD w).kp,rfl,fG w,gJ (cD w) T K8 ⋯ ⟩⟩
 have Kf:gf P w (κ w) mg base 3 "_law_same" 2 (aQ 3):=⟨⟨432,cG,["_law_found","_law_due_here"],mg_of X G (Ay w),(cD w).kp,rfl,fG w,gJ (cD w) T K9 ⋯ ⟩⟩
 have Kz:=mS P w base X G 439 438 q0 λD=>mq D T J9;have K0:=mS P w base X G 446 445 q0 λD=>qR D T;have J_:IB P w (κ w) mg base 2 "_law_put" 3 cj:=⟨⟨453,ik,["_law_things","_law_cell_here","_law_low","_law_high"],mg_of X G ↑10,(nr w).kp,rfl,sY w,rQ (nr w) T K0⟩⟩
 have Ky:=mS P w base X G 458 457 q0 λD=>m_ D T Ke J9 J_ Kz;have KH:=mS P w base X G 465 464 q0 λD=>nM D T;have Kn:=mS P w base X G 470 469 q0 λD=>j6 D T;have KZ:=mS P w base X G 477 476 q0 λD=>rg D T KH Kn;have KC:=mS P w base X G 484 483 q0 λD=>nP D T;have KD:=mS P w base X G 496 495 q0 λD=>nz D T;have K1:=mS P w base X G 508 507 q0 λD=>qI D T;have Kx:=mS P w base X G 513 512 q0 λD=>mG D T K1;have Kc:B5 P w (κ w) mg base az 4 "Vault" 4 [] bf:=⟨⟨343,cR,["self","sizes","levers","prices"],[],[],mg_of X G ↑10,⟨↑10,↑10,↑10,↑10⟩,pV w,.nil,λ_=>.nil,iK (e9 w) T Kl Ki Le Km Kh⟩⟩
 have Kv:B5 P w (κ w) mg base az 4 "Vault" 4 [.aJ] bf:=⟨⟨343,cR,["self","sizes","levers","prices"],[.none],[.aJ],mg_of X G ↑10,⟨↑10,↑10,↑10,↑10⟩,nB w,(.cons rfl .nil),λ_=>(.cons .aJ .nil),iK (e9 w) T Kl Ki Le Km Kh⟩⟩
 have Kw:=Gy P w base (dm w) 350 349 zV λD=>mZ D T;have Kq:=Gy P w base (dm w) 357 356 zV λD=>lx D T;have Kr:=Gy P w base (dm w) 364 363 zV λD=>lC D T;have Kp:=Gy P w base (dm w) 371 370 zV λD=>lG D T;have Ks:=mS P w base X G 489 488 q0 λD=>lz D T Kc KC Kf;have KR:=mS P w base X G 501 500 q0 λD=>qg D T Kw Kf Kq Kr KD Kp;exact Cu (Ft w) T Ky Ke J9 KZ Kx Ks Kc Kv KR
def HJ:uF (κ w)=true:=by kernel_rfl
def IH:nsIn (κ w) mainGlobals "law"=some (some (.ref 520)):=by kernel_rfl
end sJ
open PySem PySem.W
def sJ.hold(said:PySem.Challenge.rw_dialvault_k11_vaults_taken_and_refused.wellSaid=true)(Mr:∀ns:List Int,ns.length<=63->(∀i∈ns,QO i<=1048576)->sJ.ma (L2.eM 9 [.aY (ns.map L2.PV.int)])):PySem.Challenge.rw_dialvault_k11_vaults_taken_and_refused.Holds:=by
 refine holds_law said λsaid=>?_;refine holds_open (q:=HD.vw) (loose:=HD.loose) (Xt:=HD.Xt) (XP:=XL HD.vw []) (Yf:=Hook.obs HD.hook) (Ya:=Hook.val HD.hook) (YP:=Hook.says HD.hook) HD.EL (Hook.of HD.hook) (Hook.keeps HD.hook) (λs e=>xl_of s (NU.mp e).1) XL.keeps (by rfl) (by rfl) (by rfl) (λs e=>recFacts_of (NU.mp e).2) (by rfl) said (by decide +kernel) ⟨rfl,rfl,rfl,rfl,rfl,by decide +kernel⟩ ?hw ?hc
 case hw=>w_witness2
 refine L2.sV (l:=PySem.Challenge.rw_dialvault_k11_vaults_taken_and_refused) (n:=63) (k:=7) (m:=9) (x := "_law_script") (K:=HD.K) (ph:=sJ.ma) rfl ↑12 rfl ⟨rfl,by decide,by decide⟩ (λw h Y=>PySem.W.kIn_of Y) (λw=>sJ.HJ w) (λw mg fa h X G hmg=>?_) Mr;have e:=hmg.symm.trans (TR X G (sJ.IH w));cases e;exact⟨sJ.tD,λs v=>.of_eq rfl,λbase X' G'=>sJ.Ek X' G' base⟩
namespace Eu
def oJ(a b:Int)(hb:b≠0):(a-a.fdiv b*b).natAbs<b.natAbs/\0<=(a-a.fdiv b*b)*b/\(0<=a*b->a.natAbs=(a.fdiv b).natAbs*b.natAbs+(a-a.fdiv b*b).natAbs):=by
 have pos:∀(a b:Int),0<b->(a-a/b*b).natAbs<b.natAbs/\0<=(a-a/b*b)*b/\(0<=a*b->a.natAbs=(a/b).natAbs*b.natAbs+(a-a/b*b).natAbs):=by
  intro a b hb;have e:a-a/b*b=a%b:=by
   have h:=RL a b;rw[Int.mul_comm] at h;lia
  have h0:=OJ a (by lia:b≠0);have h1:=Ol a hb;rw[e];refine⟨by lia,TH h0 ⋯,λhab=>?_⟩;have ha:0<=a:=by
   rcases Int.lt_or_le a 0 with h|h
   .have:=Int.mul_neg_of_neg_of_pos h hb;lia
   .exact h
  have hq:0<=a/b:=Tu ha ⋯;have h2:=RL a b;have h3:((a/b).natAbs*b.natAbs:Nat)=(b*(a/b)).natAbs:=by
   rw[Qg,QS]
  rw[h3];have h4:0<=b*(a/b):=TH ⋯ hq;lia
 rcases Int.lt_or_le 0 b with h|h
 .rw[Pj a ⋯];exact pos a b h
 .have h':0 < -b:=by lia
  have e:a.fdiv b=(-a)/(-b):=by
   rw[<- Pj (-a) (by lia:0<=-b),Int.neg_fdiv_neg]
  obtain⟨p1,p2,p3⟩:=pos (-a) (-b) h';have e2:-a-(-a)/(-b)*(-b)=-(a-a.fdiv b*b):=by
   rw[<- e,Int.mul_neg];lia
  rw[e2] at p1 p2 p3;rw[<- e] at p3;simp only[RQ,Int.neg_mul_neg] at p1 p2 p3;exact⟨p1,p2,p3⟩
structure St (a b:Int) (r s t r' s' t':Int):Prop where
 c0:r=s*a+t*b
 c1:r'=s'*a+t'*b
 dv:∀d:Int,d∣r->d∣r'->d∣a/\d∣b
 bd:s'.natAbs*r.natAbs+s.natAbs*r'.natAbs<=b.natAbs
 sg:s'=0\/0<=r*r'
 b0:s.natAbs<=b.natAbs+1
 b1:s'.natAbs<=b.natAbs+1
 d0:t.natAbs<=a.natAbs+(b.natAbs+1)*a.natAbs+b.natAbs+1
 d1:t'.natAbs<=a.natAbs+(b.natAbs+1)*a.natAbs+b.natAbs+1
 m0:r.natAbs<=a.natAbs+b.natAbs
 m1:r'.natAbs<=b.natAbs
def start(a b:Int):St a b a 1 0 b 0 1 where
 c0:=by lia
 c1:=by lia
 dv:=λd h1 h2=>⟨h1,h2⟩
 bd:=by simp
 sg:=.inl rfl
 b0:=by lia
 b1:=by lia
 d0:=by simp
 d1:=by lia
 m0:=by lia
 m1:=by lia
def turn{a b r s t r' s' t':Int}(h:St a b r s t r' s' t')(h0:r'≠0):St a b r' s' t' (r-r.fdiv r'*r') (s-r.fdiv r'*s') (t-r.fdiv r'*t')/\(r-r.fdiv r'*r').natAbs<r'.natAbs:=by
 obtain⟨f1,f2,f3⟩:=oJ r r' h0;generalize hq:r.fdiv r'=q at *;have hb:b≠0:=by
  intro z;have:=h.m1;lia
 have MB:1<=r'.natAbs:=by lia
 have My:r-q*r'=(s-q*s')*a+(t-q*t')*b:=by
  rw[h.c0,h.c1,Int.sub_mul,Int.sub_mul,Int.mul_add,TU,TU];lia
 have bd':(s-q*s').natAbs*r'.natAbs+s'.natAbs*(r-q*r').natAbs<=b.natAbs:=by
  have Gs:(s-q*s').natAbs<=s.natAbs+q.natAbs*s'.natAbs:=by
   rw[<- Qg];lia
  have hbd:=h.bd;rcases h.sg with z|z
  .subst z;simp only[Int.mul_zero,Int.sub_zero,Int.natAbs_zero,Nat.zero_mul,Nat.zero_add,Nat.add_zero] at hbd ⊢;exact hbd
  .have e:=f3 z;have k1:(s-q*s').natAbs*r'.natAbs<=(s.natAbs+q.natAbs*s'.natAbs)*r'.natAbs:=QA _ Gs;have k2:(s.natAbs+q.natAbs*s'.natAbs)*r'.natAbs+s'.natAbs*(r-q*r').natAbs=s'.natAbs*r.natAbs+s.natAbs*r'.natAbs:=by
    rw[e,Nat.add_mul,Nat.mul_add,QS q.natAbs s'.natAbs,Nat.mul_assoc];lia
   lia
 have b1':(s-q*s').natAbs<=b.natAbs:=by
  have:(s-q*s').natAbs*1<=(s-q*s').natAbs*r'.natAbs:=Pq _ MB;lia
 have mm:(r-q*r').natAbs<=b.natAbs:=by
  have:=h.m1;lia
 have d1':(t-q*t').natAbs<=a.natAbs+(b.natAbs+1)*a.natAbs+b.natAbs+1:=by
  have e:(t-q*t')*b=(r-q*r')-(s-q*s')*a:=by lia
  have e1:((t-q*t')*b).natAbs<=(r-q*r').natAbs+((s-q*s')*a).natAbs:=by lia
  rw[Qg,Qg] at e1;have k1:(t-q*t').natAbs*1<=(t-q*t').natAbs*b.natAbs:=Pq _ ⋯;have k2:(s-q*s').natAbs*a.natAbs<=(b.natAbs+1)*a.natAbs:=QA _ ⋯;lia
 refine⟨⟨h.c1,My,λd e1 e2=>?_,bd',?_,h.b1,by lia,h.d1,d1',?_,mm⟩,f1⟩
 .refine h.dv d ?_ e1;have e3:d∣q*r':=R1 e1 (Rt _ _);have e4:=Int.dvd_add e2 e3
  rwa [Int.sub_add_cancel] at e4
 .exact .inr (by rwa[Int.mul_comm])
 .have:=h.m1;lia
def done{a b r s t s' t':Int}(h:St a b r s t 0 s' t'):r∣a/\r∣b:=h.dv r (Int.dvd_refl r) (Int.dvd_zero r)
end Eu
namespace Lc
def FY(ns:List Nat):Nat:=ns.foldl O1 1
def zO(m n:Nat):m/Nat.gcd m n*n=O1 m n:=by
 unfold O1;rw[Nat.div_mul_right_comm (Nat.gcd_dvd_left m n)]
end Lc
namespace Rg
abbrev yv:=Nat->Int
def Js(s:yv)(D:Nat->yv)(d:Nat):Int:=if D d d=0 then s d else D d d
def G(n:Nat)(s:yv)(D:Nat->yv):Nat->Nat->yv->Prop
 | 0,_,v=>∀i,i<n->s i∣v i
 |k+1,d,v=>Js s D d∣v d/\G n s D k (d+1) λi=>v i-v d/Js s D d*D d i
def U(i:Nat)(c:Int):yv:=λj=>if j=i then c else 0
variable{D:Nat->yv}{s:yv}{n:Nat}
section
variable{D' L:Nat->yv}{u v g:Nat->Int}
end
section
variable{D':Nat->yv}
variable{f:Nat}{W:Nat->yv}
end
end Rg
namespace sJ
open PySem L2 PyProof.Rows Rg
local macro_rules|`(tactic| dsimp? [$ts,*])=>do
 let l<-("cI bL bb eM ar r9 rY retS bO p_ nu fH ao M.aL M.bind_some M.bind_none M.yh M.bind_assoc af ah ai ae aj AJ AU Ec DB D4 C0 Cy DT CT EA C3 Ee Ej Ex Cs CA cm gR yD ny wY kf JT GQ wt Fo j7 AD itemsOf oN Av AL vC Br Bm zf xV zm A4 Bo wX ya zg cy dW sd Eb List.length_cons List.length_nil List.map_cons List.map_nil List.cons_append List.nil_append List.replicate List.getElem?_cons_zero List.getElem?_cons_succ List.getElem?_nil List.set_cons_zero List.set_cons_succ List.set_nil Nat.reduceAdd Nat.reduceSub if_true if_false Bool.not_true Bool.not_false Bool.false_eq_true ite_true ite_false reduceIte reduceCtorEq Nat.sub_self iX fZ dq Option.map_some Option.map_none ji Dr CQ AY Ap Bq CW Bv Af z0 dU List.any_cons List.any_nil String.reduceBEq Bool.or_false Bool.or_true Bool.true_or Bool.false_or Bool.and_true Bool.and_false Bool.true_and Bool.false_and AO Bf Dj Dz Aj AM Aq Ah xm za jH lY List.foldl_cons List.foldl_nil qA".splitOn " ").toArray.mapM fun n=>`(Lean.Parser.Tactic.simpLemma|$(Lean.mkIdent n.toName):term)
 `(tactic| simp only[$(⟨(Lean.Syntax.TSepArray.ofElems (sep:=",") l).elemsAndSeps⟩),*,au trivial,$(⟨ts.elemsAndSeps⟩),*])
def vL(i:Int):cY [.int i]=M.ok (.bl true):=by rfl
variable{p:PV}{α:Type}
def uI{inj:α->PV}{h:α->Bool}(xs:List α)(n:Int)(hp:p=.tup (xs.map inj)\/p=.lst (xs.map inj))(H:∀a∈xs,cY [inj a]=M.ok (.bl (h a)))(hz:xs.length<=sizeLine):h_ [p,.int n]=M.ok (.bl (decide ((xs.length:Int)=n)&&xs.all h)):=by
 have key:cT (c_ 0) none (ai cY (ae (af 0) aj)) (xs.map inj) [none]=M.ok (xs.map λa=>.bl (h a)):=tf xs λa ha=>by dsimp? [H a ha]
 have key2:wy [.lst (xs.map λa=>.bl (h a))]=M.ok (.bl (xs.all h)):=by
  have:=zh (xs.map h);rw[Qf] at this;rw[show (λa=>PV.bl (h a))=PV.bl∘h from rfl,this];simp[SK]
 unfold h_ jJ;rcases hp with rfl|rfl
 all_goals
  dsimp? [Nm]
  by_cases e:(xs.length:Int)=n
  .simp only[e,decide_true,Bool.not_true,M.aL,Sh,if_false,r9,O5];dsimp? [Nm,au hz,key,key2]
  .simp only[e,decide_false,Bool.not_false,M.aL,if_true,rY,QX];dsimp? []
def within_int(x a b:Int):cC [.int x,.int a,.int b]=M.ok (.bl (decide (a<=x/\x<=b))):=by
 unfold cC c8;dsimp? [vL]
 by_cases h:a<=x
 .simp only[h,decide_true,if_true,true_and];dsimp? []
 .simp only[h,decide_false,false_and];dsimp? []
variable{xs:List PV}
def bc(h:aS p=some xs):mH p=M.ok (.int xs.length):=by
 cases p<;>first|(cases h;rfl)|cases h
def rG(n:Nat)(p:PV):(Ni n [p]).flatten=Ni n p:=by
 induction n with
 | zero=>rfl
 |succ n ih=>rw[N5,OA,ih];rfl
theorem mul_one(p:PV)(n:Nat)(h8:n<=1000):cu (.tup [p]) (.int (n:Int))=M.ok (.tup (Ni n p)):=by
 have h2:[p].length*(n:Int).toNat<=sizeLine:=by
  rw[NC];exact aX (by show 1*n<=1000;lia)
 have h3:(n:Int)<2^63:=Si (SM.mpr h8) ↑12;have h4:-(2^63)<=(n:Int):=Int.le_trans ↑12 (Sj n);rw[cu,au ⟨rfl,h4,h3,h2⟩,NC,rG]
def kB(xs JY:List Int):List Int:=(xs.zip JY).map λz=>z.1%z.2
def xK(p q:PV)(xs JY:List Int)(hp:aS p=some (xs.map PV.int))(hq:aS q=some (JY.map PV.int))(hs:∀s∈JY,0<s)(hz:xs.length<=1000):iA [p,q]=M.ok (tI (kB xs JY)):=by
 have key:cT (gX 0 1) none (ah bN (af 0) (af 1)) ((xs.zip JY).map λz=>.tup [.int z.1,.int z.2]) [none,none]=M.ok ((xs.zip JY).map λz=>.int (z.1%z.2)):=by
  refine wU (p:=λz:Int×Int=>PV.int z.1) (q:=λz:Int×Int=>PV.int z.2) (xs.zip JY) λz hz=>?_;have:=hs z.2 (PJ (a:=z.1) (b:=z.2) hz).2;dsimp? [aw this]
 unfold iA lO;have hl:(xs.zip JY).length<=sizeLine:=by rw[Tv];exact aX (NZ (Nat.min_le_left _ _) hz)
 dsimp? [r_ xs JY hp hq,Nm,au hl,key];rw[tI,kB,Qf];rfl
def wA(a b c:PV):aC (.tup [a,b,c]) (.int 0)=M.ok a:=bJ (j:=0) rfl rfl
def EN(a b c:PV):aC (.tup [a,b,c]) (.int 1)=M.ok b:=bJ (j:=1) rfl rfl
def F3(a b c:PV):aC (.tup [a,b,c]) (.int 2)=M.ok c:=bJ (j:=2) rfl rfl
theorem vU(a b:Int)(ha:a.natAbs<2^60)(hb:b.natAbs<2^60):∃s t,jw [.int a,.int b]=M.ok (.tup [.int (O7 a b),.int s,.int t])/\s*a+t*b=O7 a b/\s.natAbs<=b.natAbs+1/\t.natAbs<=a.natAbs+(b.natAbs+1)*a.natAbs+b.natAbs+1:=by
 let J:aa->Prop:=λenv=>∃r s t r' s' t' x y,env=[some (.sh (.int a)),some (.sh (.int b)),some (.sh ((PV.tup [PV.int r,PV.int s,PV.int t]))),some (.sh ((PV.tup [PV.int r',PV.int s',PV.int t']))),x,y]/\Eu.St a b r s t r' s' t'
 let m:aa->Nat:=λenv=>match env with
  | [_,_,_,some (.sh (.tup [.int r,_,_])),_,_]=>r.natAbs
  | _=>0
 have hk:(b.natAbs+1)*a.natAbs<=2^60*2^60:=TJ ⋯ ⋯;have hk2:(2:Nat)^60*2^60=2^120:=by decide
 have start:J [some (.sh (.int a)),some (.sh (.int b)),some (.sh ((PV.tup [PV.int a,PV.int 1,PV.int 0]))),some (.sh ((PV.tup [PV.int b,PV.int 0,PV.int 1]))),none,none]:=⟨_,_,_,_,_,_,_,_,rfl,Eu.start a b⟩
 have loop:=o6 (u:=cm (ah qp (ah aC (af 3) (λ_=>M.ok (.int 0))) (λ_=>M.ok (.int 0)))) (b:=(ar (bO 4 (ah cU (ah aC (af 2) (λ_=>M.ok (.int 0))) (ah aC (af 3) (λ_=>M.ok (.int 0)))))
  (ar (bO 5 (gY (ae (ah jS (ah aC (af 2) (λ_=>M.ok (.int 0))) (ah cu (af 4) (ah aC (af 3) (λ_=>M.ok (.int 0))))) (ae (ah jS (ah aC (af 2) (λ_=>M.ok (.int 1))) (ah cu (af 4) (ah aC (af 3) (λ_=>M.ok (.int 1))))) (ae (ah jS (ah aC (af 2) (λ_=>M.ok (.int 2))) (ah cu (af 4) (ah aC (af 3) (λ_=>M.ok (.int 2))))) aj)))))
  (ar (bO 2 (af 3))
  (ar (bO 3 (af 5))
  ao))))) J m ?_ _ start
 .obtain⟨J0,e1,⟨r,s,t,r',s',t',x,y,rfl,st⟩,e2⟩:=loop;have MB:r'=0:=by
   revert e2;dsimp? [wA];intro e2;have:(!decide (r'=0))=false:=by injection e2 with e2;injection e2
   simpa using this
  subst MB;obtain⟨d1,d2⟩:=Eu.done st;have hg:(r.natAbs:Int)=O7 a b:=by
   have h1:r.natAbs∣O7 a b:=Int.dvd_gcd (TL.mpr d1) (TL.mpr d2);have h2:((O7 a b:Nat):Int)∣r:=by
    rw[st.c0];exact Int.dvd_add (R1 (S_ ..) (Rt _ _)) (R1 (Int.gcd_dvd_right ..) (Rt _ _))
   have h3:O7 a b∣r.natAbs:=Int.ofNat_dvd_left.mp h2;rw[Nat.dvd_antisymm h1 h3]
  unfold jw jv;dsimp? [];rw[e1];dsimp? [wA,EN,F3]
  by_cases hneg:r<0
  .refine⟨-s,-t,?_,?_,by rw[RQ];exact st.b0,by rw[RQ];exact st.d0⟩
   .simp only[hneg,decide_true,if_true];dsimp? [];rw[show -r=(O7 a b:Int) by lia]
   .have:=st.c0;rw[Int.neg_mul,Int.neg_mul];lia
  .refine⟨s,t,?_,?_,st.b0,st.d0⟩
   .simp only[hneg,decide_false,Sh,if_false];dsimp? [];rw[show r=(O7 a b:Int) by lia]
   .have:=st.c0;lia
 .rintro env ⟨r,s,t,r',s',t',x,y,rfl,st⟩
  by_cases h0:r'=0
  .refine .inl ?_;dsimp? [wA];simp[h0]
  .refine .inr ⟨?_,?_⟩
   .dsimp? [wA];simp[h0]
   .obtain⟨L9,lt⟩:=Eu.turn st h0;have b1:=st.m1;have b0:=st.m0;have c1:=st.b1;have c2:=st.d1;have c3:=L9.m1;have q1:(r.fdiv r').natAbs<=r.natAbs+1:=by
     obtain⟨f1,f2,f3⟩:=Eu.oJ r r' h0;generalize r.fdiv r'=q at *;have e:q*r'=r-(r-q*r'):=by lia
     have e2:(q*r').natAbs<=r.natAbs+(r-q*r').natAbs:=by lia
     rw[Qg] at e2;have:q.natAbs*1<=q.natAbs*r'.natAbs:=Pq _ ⋯;rcases SN (r.natAbs+1) q.natAbs with h|h
     .have h5:(r.natAbs+2)*r'.natAbs<=q.natAbs*r'.natAbs:=QA _ ⋯;have h6:r.natAbs*1<=r.natAbs*r'.natAbs:=Pq _ ⋯;rw[Nat.add_mul] at h5;lia
     .exact h
    have q2:(r.fdiv r').natAbs<2^200:=by lia
    refine⟨[some (.sh (.int a)),some (.sh (.int b)),some (.sh ((PV.tup [PV.int r',PV.int s',PV.int t']))),some (.sh ((PV.tup [PV.int (r-r.fdiv r'*r'),PV.int (s-r.fdiv r'*s'),PV.int (t-r.fdiv r'*t')]))),some (.sh (.int (r.fdiv r'))),some (.sh ((PV.tup [PV.int (r-r.fdiv r'*r'),PV.int (s-r.fdiv r'*s'),PV.int (t-r.fdiv r'*t')])))],?_,⟨_,_,_,_,_,_,_,_,rfl,L9⟩,lt⟩;dsimp? [wA,EN,F3,oM h0 (Nr (show r'.natAbs<2^200 by lia) (Qz ↑12 ↑12)),bZ (k:=200) (l:=200) q2 (show r'.natAbs<2^200 by lia),bZ (k:=200) (l:=200) q2 (show s'.natAbs<2^200 by lia),bZ (k:=200) (l:=200) q2 (show t'.natAbs<2^200 by lia)]
def R(JY:List Int):Int:=(Lc.FY (JY.map TV):Nat)
structure Sz (JY:List Int):Prop where
 h1:1<=JY.length
 h6:JY.length<=6
 hx:∀x∈JY,2<=x/\x<=360
structure Acc (JY r:List Int) (acc:Nat):Prop where
 pos:0<acc
 le:acc<=2^(9*(6-r.length))
 len:r.length<=6
 val:(r.map TV).foldl O1 acc=Lc.FY (JY.map TV)
 Ak:∀x∈r,2<=x/\x<=360
variable{JY:List Int}
def Acc.start(h:Sz JY):Acc JY JY 1:=⟨by decide,Nat.one_le_two_pow,h.h6,rfl,h.hx⟩
variable{acc:Nat}
theorem Acc.lt{r:List Int}(h:Acc JY r acc):acc<2^60:=by
 have h2:(2:Nat)^(9*(6-r.length))<=2^54:=Qz ↑12 ⋯;have:=h.le;lia
theorem Acc.turn{r:List Int}{x:Int}(h:Acc JY (x::r) acc):Acc JY r (O1 acc x.toNat)/\(acc:Int)/(O7 acc x:Nat)*x=(O1 acc x.toNat:Nat)/\(acc:Int)/(O7 acc x:Nat)<=acc/\0<O7 acc x:=by
 have hx:=h.Ak x Nt;have hp:=h.pos;obtain⟨n,rfl⟩:=Ot (show 0<=x by lia);have hg:O7 (acc:Int) (n:Int)=Nat.gcd acc n:=rfl;refine⟨⟨Nat.lcm_pos hp ⋯,?_,?_,h.val,λy hy=>h.Ak y (Nl _ hy)⟩,?_,?_,?_⟩
 .have h1:O1 acc n<=acc*n:=Qt (Nat.mul_pos hp ⋯) (Nat.lcm_dvd (Nat.dvd_mul_right ..) (Nat.dvd_mul_left ..));have h2:acc*n<=2^(9*(6-(r.length+1)))*2^9:=TJ h.le ⋯;have hl:r.length+1<=6:=h.len;rw[<- Nat.pow_add,show 9*(6-(r.length+1))+9=9*(6-r.length) by lia] at h2;exact NZ h1 h2
 .have hl:r.length+1<=6:=h.len;lia
 .rw[hg,NC,<- Lc.zO];norm_cast
 .rw[hg];exact SM.mpr (Nat.div_le_self acc (Nat.gcd acc n))
 .rw[hg];exact Nat.gcd_pos_of_pos_left _ hp
theorem rT(JY:List Int)(hp:aS p=some (JY.map PV.int))(h:Sz JY):eF [p]=M.ok (.int (R JY)):=by
 unfold eF eG;dsimp? [hp];refine f7 JY (λr env=>∃acc x,env=[some (.sh p),some (.sh (.int (acc:Nat))),x]/\Acc JY r acc) ⟨1,_,rfl,.start h⟩ ?_ ?_
 .rintro a r env ⟨acc,x,rfl,A⟩;obtain⟨A2,e1,e2,e3⟩:=A.turn;have l1:=A.lt;have ha:=A.Ak a Nt;obtain⟨s,t,ec,_,_,_⟩:=vU (acc:Int) a ⋯ ⋯;have g1:O7 acc a<=acc:=Qt A.pos (Ri.mp (S_ ..));have d0:0<=(acc:Int)/(O7 acc a:Nat):=Tu ⋯ ⋯;refine⟨_,[some (.sh p),some (.sh (.int (O1 acc a.toNat:Nat))),some (.sh (.int a))],rfl,?_,_,_,rfl,A2⟩;dsimp? [ec,wA,bj (i:=(acc:Int)) (show (0:Int)<(O7 acc a:Nat) by lia) (show ((O7 acc a:Nat):Int)<2^64 by lia),bZ (k:=64) (l:=64) (show ((acc:Int)/(O7 acc a:Nat)).natAbs<2^64 by lia) (show a.natAbs<2^64 by lia),e1]
 .rintro J0 ⟨acc,x,rfl,A⟩;dsimp? [];have:=A.val;rw[R,<- this];rfl
def mI(pz JY:List Int)(levers:List (List Int)):List (Str×PV):=[("dial_sizes",tI JY),("lever_settings",.tup (levers.map tI)),("lever_prices",tI pz),("least_round",.int (R JY))]
def l0(pz JY:List Int)(levers:List (List Int)):PV:=.obj az (mI pz JY levers)
theorem sE(f:Str)(p:PV):∀fs:List (Str×PV),(qj f p fs).length<=fs.length+1
 | []=>by simp[qj]
 | (g,q)::r=>by
  have:=sE f p r;unfold qj
  split
  .simp
  .simp;lia
variable{n:Nat}
theorem jc{f:Str}{fs:List (Str×PV)}(h:fs.length<=n):(qj f p fs).length<=n+1:=NZ (sE f p fs) ⋯
def iy(a C:Addr)(f:Str)(p:PV)(fs:List (Str×PV))(r:aa)(h:fs.length<1000):yQ 0 C f p (some (.bd a C fs)::r)=M.ok (.nx (some (.bd a C (qj f p fs))::r)):=by
 show bT _ _=_;rw[au ⟨rfl,h⟩];rfl
def wF(JY:List Int)(levers:List (List Int)):(mI pz JY levers).lookup (NF "lever_prices")=some (tI pz):=rfl
def vh(JY:List Int)(levers:List (List Int)):b_ [l0 pz JY levers]=M.ok (tI pz):=by
 unfold b_ dy;dsimp? [nQ,l0,beq_self_eq_true,wF]
def xt(JY:List Int)(levers:List (List Int)):(mI pz JY levers).lookup (NF "dial_sizes")=some (tI JY):=rfl
def vm(JY:List Int)(levers:List (List Int)):(mI pz JY levers).lookup (NF "lever_settings")=some (.tup (levers.map tI)):=rfl
def yk(JY:List Int)(levers:List (List Int)):(mI pz JY levers).lookup (NF "least_round")=some (.int (R JY)):=rfl
def Fn(JY:List Int)(levers:List (List Int)):(mI pz JY levers).lookup (NF "sizes")=none:=rfl
def F7(JY:List Int)(levers:List (List Int)):(mI pz JY levers).lookup (NF "levers")=none:=rfl
def xf(JY:List Int)(levers:List (List Int)):cw [l0 pz JY levers]=M.ok (tI JY):=by
 unfold cw eE;dsimp? [nQ,l0,beq_self_eq_true,xt]
def vo(JY:List Int)(levers:List (List Int)):bY [l0 pz JY levers]=M.ok (.tup (levers.map tI)):=by
 unfold bY dk;dsimp? [nQ,l0,beq_self_eq_true,vm]
variable{levers:List (List Int)}
def As{g:aa->M PV}{env:aa}(h:g env=M.ok (l0 pz JY levers)):cP az "sizes" cw g aj env=M.ok (tI JY):=by
 have:=xf (pz:=pz) JY levers;rw[cP,h,M.aL];show bT _ (M.bind (aj env) _)=_;rw[au ⟨rfl,Fn JY levers⟩];exact this
def zq{g:aa->M PV}{env:aa}(h:g env=M.ok (l0 pz JY levers)):cP az "levers" bY g aj env=M.ok (.tup (levers.map tI)):=by
 have:=vo (pz:=pz) JY levers;rw[cP,h,M.aL];show bT _ (M.bind (aj env) _)=_;rw[au ⟨rfl,F7 JY levers⟩];exact this
def Ty(p:PV):Prop:=∃a,zW p=some a
def wB:PV->Bool
 | .int _=>true
 |_=>false
def mY(lo hi:Int):PV->Bool
 | .int i=>decide (lo<=i/\i<=hi)
 |_=>false
def rB(n:Nat)(p:PV):Bool:=match aS p with
 | some xs=>decide (xs.length=n)&&xs.all wB
 |none=>false
def mX(h:Ty p):cY [p]=M.ok (.bl (wB p)):=by
 obtain⟨a,ha⟩:=h;cases p<;>first|rfl|(rename_i b;cases b<;>rfl)|cases ha
def DY(a x b:Int):(if decide (a<=x)=true then M.ok (PV.bl (decide (x<=b))) else M.ok (PV.bl false))=M.ok (PV.bl (decide (a<=x/\x<=b))):=by
 by_cases h:a<=x
 .rw[decide_eq_true h,if_pos rfl];simp[h]
 .rw[decide_eq_false h,if_neg ↑13];simp[h]
def j8(h:Ty p)(lo hi:Int):cC [p,.int lo,.int hi]=M.ok (.bl (mY lo hi p)):=by
 have w:=mX h;cases p with
 | int i=>exact within_int i lo hi
 | _ =>
  unfold cC c8;dsimp? [w,wB,mY]
  try rfl
def kQ(h:Ty p)(lo hi:Int):dC [p,.int lo,.int hi]=M.ok (.bl (mY lo hi p)):=by
 obtain⟨a,ha⟩:=h;unfold dC eX;cases p with
 | int i=>dsimp? [j7,DY,mY]
 | bl b=>cases b<;>rfl
 | aJ=>rfl
 | str x=>rfl
 | tup xs=>rfl
 | lst xs=>rfl
 | aY xs=>rfl
 | emp=>rfl
 |_=>cases ha
theorem xr(h:aS p=some xs)(n:Nat):rB n p=(decide ((xs.length:Int)=(n:Int))&&xs.all wB):=by
 unfold rB;rw[h];have:decide (xs.length=n)=decide ((xs.length:Int)=(n:Int)):=by rw[QE,decide_eq_true_eq,decide_eq_true_eq];lia
 rw[<- this]
def Row(p:PV):Prop:=Ty p/\(∀xs,p≠.aY xs)/\∀xs,aS p=some xs->xs.length<=1000/\∀x∈xs,Ty x
def C_(h:Row p)(n:Nat):h_ [p,.int (n:Int)]=M.ok (.bl (rB n p)):=by
 obtain⟨⟨a,ha⟩,ns,hx⟩:=h;cases p with
 | tup xs =>
  rw[xr (p:=.tup xs) rfl];exact uI (inj:=λx=>x) xs n (.inl ↑13) (λx h=>mX ((hx xs rfl).2 x h)) (aX (hx xs rfl).1)
 | lst xs =>
  rw[xr (p:=.lst xs) rfl];exact uI (inj:=λx=>x) xs n (.inr ↑13) (λx h=>mX ((hx xs rfl).2 x h)) (aX (hx xs rfl).1)
 | aY xs=>exact absurd rfl (ns xs)
 | int i=>rfl
 | bl b=>rfl
 | aJ=>rfl
 | str x=>rfl
 | emp=>rfl
 |_=>cases ha
variable{x0:Option SV}
def An{t:aa->M Bool}{f:aa->M PV}{inj h:α->PV}{b:α->Bool}{rest:aa}(xs:List α)(Ht:∀a∈xs,t (some (.sh (inj a))::rest)=M.ok (b a))(H:∀a∈xs,f (some (.sh (inj a))::rest)=M.ok (h a)):cT (c_ 0) (some t) f (xs.map inj) (x0::rest)=M.ok ((xs.filter b).map h):=by
 induction xs generalizing x0 with
 | nil=>rfl
 | cons a r ih =>
  have i:=ih (x0:=some (.sh (inj a))) (λc hc=>Ht c (Nl _ hc)) λc hc=>H c (Nl _ hc);rw[NJ,cT];show M.bind (M.ok ((x0::rest).set 0 (some (.sh (inj a))))) _=_;rw[M.aL,Pc];show M.bind (t _) _=_;rw[Ht a Nt,M.aL];cases e:b a with
  | true=>rw[if_pos rfl,H a Nt,M.aL,i,List.filter_cons_of_pos e];rfl
  |false=>rw[if_neg ↑13,i,List.filter_cons_of_neg (by simp[e])]
theorem yG(h:Ty p)(hx:∀xs,aS p=some xs->xs.length<=1000/\∀x∈xs,Ty x)(n:Nat):cq [p,.int (n:Int)]=M.ok (.bl (rB n p)):=by
 have sq:∀xs,aS p=some xs->sL (λa=>a == "list" || a == "tuple") eW eW p=M.ok (.bl true)->cq [p,.int (n:Int)]=M.ok (.bl (rB n p)):=λxs hs hi=>by
  obtain⟨l,ty⟩:=hx xs hs;rw[xr hs];have key:cT (c_ 0) (some (ny (gR (cm (ji (λa=>dU a "int") eW eW (af 0)))) (cm (ji (λa=>dU a "bool") eW eW (af 0))))) (af 0) (xs.map λx=>x) [none]=M.ok ((xs.filter λx=>!wB x).map λx=>x):=by
   refine An (inj:=λx=>x) xs (λx m=>?_) λx m=>by dsimp? []
   obtain⟨a,ha⟩:=ty x m;cases x<;>first|rfl|(rename_i b;cases b<;>rfl)|cases ha
  rw[Qh,Qh] at key;simp only[dU,beq_self_eq_true,Bool.and_true,TM,TN,show ("bool" == "int")=false from rfl] at key;unfold cq cW
  by_cases c:(xs.length:Int)=n
  .dsimp? [hi,bc hs,c,decide_true,hs,au (aX l),key];have:decide (((xs.filter λx=>!wB x).length:Int)=0)=xs.all wB:=by
    rw[QE,decide_eq_true_eq,Ob];constructor
    .intro e x hx;have e0:xs.filter (λx=>!wB x)=[]:=PU.mp ⋯;have:=RG.mp e0 x hx;simpa using this
    .intro e;rw[RG.mpr λx hx=>by rw[e x hx];simp];rfl
   rw[this]
  .dsimp? [hi,bc hs,c,decide_false]
 obtain⟨a,ha⟩:=h;cases p with
 | tup xs=>exact sq xs rfl rfl
 | lst xs=>exact sq xs rfl rfl
 | aY xs=>exact sq xs rfl rfl
 | int i=>rfl
 | bl b=>cases b<;>rfl
 | aJ=>rfl
 | str x=>rfl
 | emp=>rfl
 |_=>cases ha
theorem nY{set:PV->aa->M aa}{body:aa->M Out}{α:Type}{inj:α->PV}{ok:α->Bool}{stop:α->M Out}(J:List α->aa->Prop)(hs:∀a k,(stop a).bind (yU k)=stop a)(H:∀a r env,J (a::r) env->∃e',set (inj a) env=M.ok e'/\(ok a=true->∃J0,body e'=M.ok (.nx J0)/\J r J0)/\(ok a=false->body e'=stop a)):∀(xs:List α)(env:aa),J xs env ->(∃J0,xs.find? (λa=>!ok a)=none/\gO set body (xs.map inj) env=M.ok (.nx J0)/\J [] J0)\/∃a,xs.find? (λa=>!ok a)=some a/\gO set body (xs.map inj) env=stop a
 | [],env,h=>.inl ⟨env,rfl,rfl,h⟩
 | a::r,env,h=>by
  obtain⟨e',h1,h2,h3⟩:=H a r env h;rw[NJ,gO,h1,M.aL,RJ];cases e:ok a with
  | true =>
   obtain⟨J0,h4,h5⟩:=h2 e;rw[h4];exact nY J hs H r J0 h5
  | false =>
   rw[h3 e];exact .inr ⟨a,rfl,hs a _⟩
variable{β:Type}
def dI{k:Out->M β}{r:M β}{set:PV->aa->M aa}{body:aa->M Out}{inj:α->PV}(ok:α->Bool)(stop:α->M Out)(xs:List α){env:aa}(J:List α->aa->Prop)(h:J xs env)(hs:∀a k,(stop a).bind (yU k)=stop a)(H:∀a r env,J (a::r) env->∃e',set (inj a) env=M.ok e'/\(ok a=true->∃J0,body e'=M.ok (.nx J0)/\J r J0)/\(ok a=false->body e'=stop a))(h1:xs.find? (λa=>!ok a)=none->∀J0,J [] J0->k (.nx J0)=r)(h2:∀a,xs.find? (λa=>!ok a)=some a->(stop a).bind k=r):M.bind (gO set body (xs.map inj) env) k=r:=by
 rcases nY J hs H xs env h with ⟨J0,e1,e2,e3⟩|⟨a,e1,e2⟩
 .rw[e2,M.aL];exact h1 e1 J0 e3
 .rw[e2];exact h2 a e1
def fb(n:Nat)(ok:Nat->Bool):Option Nat:=(ND n).find? λk=>!ok k
def pS{ok:Nat->Bool}(h:fb n ok=none):∀k,k<n->ok k=true:=λk hk=>by
 have:=List.find?_eq_none.mp h k (NR.mpr hk);simpa using this
def me{f g:Nat->Bool}(h:∀k,k<n->f k=g k):fb n f=fb n g:=by
 unfold fb;have:∀l:List Nat,(∀k∈l,k<n)->l.find? (λk=>!f k)=l.find? λk=>!g k:=λl=>by
  induction l with
  | nil=>intro _;rfl
  | cons a r ih=>intro hl;rw[RJ,RJ,h a (hl a Nt),ih λk hk=>hl k (Nl _ hk)]
 exact this _ λk hk=>NR.mp hk
inductive Oc where
 |many|dial (k:Nat)|lever (k:Nat)|price (k:Nat)|good
def wN(S:List PV)(k:Nat):Bool:=mY 2 360 (S.getD k .aJ)
def wO(n:Nat)(L:List PV)(k:Nat):Bool:=rB n (L.getD k .aJ)
def nG(L Pr:List PV)(k:Nat):Bool:=decide (k<Pr.length)&&(decide (k<L.length)&&mY 1 1000 (Pr.getD k .aJ))
def oc(S L:List PV)(P:Option (List PV)):Oc :=
 if 6<S.length then .many else if S=[] then .dial 0 else match fb S.length (wN S) with
  | some k=>.dial k
  | none=>if 8<L.length then .many else match fb L.length (wO S.length L) with
   | some k=>.lever k
   | none=>match P with
    | none=>.good
    | some Pr=>match fb (max Pr.length L.length) (nG L Pr) with
     | some k=>.price k
     |none=>.good
def wr:Oc->PV
 | .many=>.tup [.str (NF "many")]
 | .dial k=>.tup [.str (NF "dial"),.int (k:Int)]
 | .lever k=>.tup [.str (NF "lever"),.int (k:Int)]
 | .price k=>.tup [.str (NF "price"),.int (k:Int)]
 |.good=>.aJ
def v9{S:List PV}(hp:aS p=some S)(k:Nat)(h:k<S.length):aC p (.int (k:Int))=M.ok (S.getD k .aJ):=bJ (j:=k) hp (by rw[Nd h,Nz,Nd h];rfl)
def getD_mem{S:List PV}{k:Nat}(h:k<S.length):S.getD k .aJ∈S:=by rw[Nz,Nd h];exact Rp _
def Dt(n:Nat)(p:PV):Prop:=Ty p/\∃d,dat p=some d/\d.canLay0=true/\d.depth<=n
theorem f6{n:Nat}:∀{S:List PV},(∀p∈S,Dt n p)->∃ds,eJ S=some ds/\Rc ds=true/\PK ds<=n/\(ds=[] ↔ S=[])
 | [],_=>⟨[],rfl,rfl,NT _,by simp⟩
 | p::S,h=>by
  obtain⟨_,d,e1,e2,e3⟩:=h p Nt;obtain⟨ds,f1,f2,f3,_⟩:=f6 λq hq=>h q (Nl _ hq);refine⟨d::ds,?_,?_,?_,by simp⟩
  .show (dat p).bind (λd=>(eJ S).map (d::·))=_;rw[e1,f1];rfl
  .show (d.canLay0&&Rc ds)=true;rw[e2,f2];rfl
  .show max d.depth (PK ds)<=n;lia
theorem Dt.lst{n:Nat}{S:List PV}(h:∀p∈S,Dt n p):Dt (n+1) (.lst S):=by
 obtain⟨ds,f1,f2,f3,_⟩:=f6 h;exact⟨⟨_,rfl⟩,.list ds,by show (eJ S).map _=_;rw[f1];rfl,f2,by show PK ds+1<=n+1;lia⟩
theorem Dt.aY{n:Nat}{S:List PV}(h:∀p∈S,Dt n p):Dt (n+1) (.aY S):=by
 obtain⟨ds,f1,f2,f3,_⟩:=f6 h;exact⟨⟨_,rfl⟩,.list ds,by show (eJ S).map _=_;rw[f1];rfl,f2,by show PK ds+1<=n+1;lia⟩
theorem Dt.mono{m:Nat}(h:Dt n p)(l:n<=m):Dt m p:=by
 obtain⟨t,d,a,b,c⟩:=h;exact⟨t,d,a,b,by lia⟩
theorem yY{S:List PV}(hn:n<=60)(h:∀p∈S,Dt n p):lu (.lst S) (.lst [])=M.ok (.bl (decide (S=[])))/\qp (.lst S) (.lst [])=M.ok (.bl (!decide (S=[]))):=by
 obtain⟨ds,f1,f2,f3,f4⟩:=f6 h;have d1:dat (.lst S)=some (.list ds):=by show (eJ S).map _=_;rw[f1];rfl
 have d2:dat (.lst [])=some (.list []):=rfl;have sh:Q7 (.list ds)=true:=by
  show (Rc ds&&decide (PK ds+1<=64))=true;rw[f2,decide_eq_true ⋯];rfl
 have nm:PySem.SeqAt.noMix (.list ds) (.list [])=true:=by cases ds<;>rfl
 have sm:PySem.Spec.same (.list ds) (.list [])=decide (S=[]):=by
  rw[QE,decide_eq_true_eq,PyProof.Rows.same_iff,<- f4];simp
 have key:AB (.list ds) (.list [])=M.ok (decide (S=[])):=by
  unfold AB;rw[au ⟨sh,rfl,nm⟩,sm]
 constructor
 .show lH _ _ _=_;unfold lH;rw[d1,d2];show (AB _ _).bind _=_;rw[key];rfl
 .show lH _ _ _=_;unfold lH;rw[d1,d2];show (AB _ _).bind _=_;rw[key];rfl
theorem xc(hn:n<=60)(h:Dt n p)(ne:oh p=false):xO p p=M.ok (.bl true)/\(xR p=none->B3 p p=M.ok (.bl false)):=by
 obtain⟨_,d,e1,e2,e3⟩:=h;have sh:Q7 d=true:=by
  unfold Q7;rw[e2,decide_eq_true ⋯];rfl
 have ev:Sf d d=true:=PySem.SeqAt.eqv_refl d e2;constructor
 .unfold xO;rw[if_neg (by rw[ne];simp)];unfold sP;rw[e1];show uc _ d d=_;unfold uc;rw[au ⟨sh,sh⟩,ev]
 .intro w;unfold B3;rw[w];show sP _ p p=_;unfold sP;rw[e1];show uc _ d d=_;unfold uc;rw[au ⟨sh,sh⟩,ev];rfl
def oP:Option (List PV)->PV
 | none=>.aJ
 |some xs=>.lst xs
theorem Jm(a b:Nat):uE (λi j=>if j>i then j else i) [.int (a:Int),.int (b:Int)]=M.ok (.int ((max a b:Nat):Int)):=by
 show M.ok (PV.int (if (b:Int)>(a:Int) then (b:Int) else (a:Int)))=_
 by_cases h:(b:Int)>(a:Int)
 .rw[if_pos h,Nat.max_eq_right ⋯]
 .rw[if_neg h,Nat.max_eq_left ⋯]
structure Hd (S L:List PV) (P:Option (List PV)):Prop where
 s:∀p∈S,Dt 3 p
 l:∀p∈L,Dt 3 p/\∀xs,aS p=some xs->xs.length<=100/\∀x∈xs,Dt 3 x
 p:∀Pr,P=some Pr->Pr.length<=100/\∀p∈Pr,Dt 3 p
 ls:S.length<=100
 ll:L.length<=100
variable{L:List PV}
theorem C6{S:List PV}{P:Option (List PV)}(h:Hd S L P):gA [.lst S,.lst L,oP P]=M.ok (wr (oc S L P)):=by
 have MW:=h.ls;have hll:=h.ll;obtain⟨en,_⟩:=yY ↑12 h.s;unfold gA gL oc
 by_cases c1:6<S.length
 .rw[if_pos c1];have My:(6:Int)<S.length:=by lia
  dsimp? [My,decide_true];rfl
 rw[if_neg c1];have My:¬ (6:Int)<S.length:=by lia
 by_cases c2:S=[]
 .rw[if_pos c2];rw[decide_eq_true c2] at en;dsimp? [My,decide_false,en];rfl
 rw[if_neg c2];rw[decide_eq_false c2] at en;dsimp? [My,decide_false,en,cF (n:=(S.length:Int)) ⋯ ⋯,NC];refine dI (wN S) (λk=>M.ok (.rt (wr (.dial k)))) (ND S.length) (λr env=>(∃y,env=[some (.sh (.lst S)),some (.sh (.lst L)),some (.sh (oP P)),y])/\∀k∈r,k<S.length) ⟨⟨_,rfl⟩,λk hk=>NR.mp hk⟩ (λ_ _=>rfl) ?_ (λe J0 hj=>?_) λk e=>?_
 .rintro k r env ⟨⟨y,rfl⟩,hr⟩;have hk:=hr k Nt;have w:=kQ (h.s _ (getD_mem hk)).1 2 360;refine⟨[some (.sh (.lst S)),some (.sh (.lst L)),some (.sh (oP P)),some (.sh (.int k))],rfl,λz=>⟨[some (.sh (.lst S)),some (.sh (.lst L)),some (.sh (oP P)),some (.sh (.int k))],?_,⟨_,rfl⟩,λj hj=>hr j (Nl _ hj)⟩,λz=>?_⟩
  .rw[show mY 2 360 (S.getD k .aJ)=true from z] at w;dsimp? [v9 (p:=.lst S) rfl k hk,w]
  .rw[show mY 2 360 (S.getD k .aJ)=false from z] at w;dsimp? [v9 (p:=.lst S) rfl k hk,w];rfl
 .obtain⟨⟨y,rfl⟩,_⟩:=hj;rw[show fb S.length (wN S)=none from e];show _=M.ok (wr (if 8<L.length then Oc.many else _))
  by_cases c3:8<L.length
  .rw[if_pos c3];have c3':(8:Int)<L.length:=by lia
   dsimp? [c3',decide_true];rfl
  rw[if_neg c3];have c3':¬ (8:Int)<L.length:=by lia
  dsimp? [c3',decide_false,cF (n:=(L.length:Int)) ⋯ ⋯,NC];refine dI (wO S.length L) (λk=>M.ok (.rt (wr (.lever k)))) (ND L.length) (λr env=>(∃y,env=[some (.sh (.lst S)),some (.sh (.lst L)),some (.sh (oP P)),y])/\∀k∈r,k<L.length) ⟨⟨_,rfl⟩,λk hk=>NR.mp hk⟩ (λ_ _=>rfl) ?_ (λe J0 hj=>?_) λk e=>?_
  .rintro k r env ⟨⟨y,rfl⟩,hr⟩;have hk:=hr k Nt;obtain⟨ht,hx⟩:=h.l _ (getD_mem hk);have w:=yG ht.1 (λxs e=>⟨by have:=(hx xs e).1;lia,λx m=>((hx xs e).2 x m).1⟩) S.length;refine⟨[some (.sh (.lst S)),some (.sh (.lst L)),some (.sh (oP P)),some (.sh (.int k))],rfl,λz=>⟨[some (.sh (.lst S)),some (.sh (.lst L)),some (.sh (oP P)),some (.sh (.int k))],?_,⟨_,rfl⟩,λj hj=>hr j (Nl _ hj)⟩,λz=>?_⟩
   .rw[show rB S.length (L.getD k .aJ)=true from z] at w;dsimp? [v9 (p:=.lst L) rfl k hk,w]
   .rw[show rB S.length (L.getD k .aJ)=false from z] at w;dsimp? [v9 (p:=.lst L) rfl k hk,w];rfl
  .obtain⟨⟨y,rfl⟩,_⟩:=hj;rw[show fb L.length (wO S.length L)=none from e];cases P with
   | none =>
    dsimp? [oP];rfl
   | some Pr =>
    obtain⟨pl1,pt⟩:=h.p Pr rfl;show _=M.ok (wr (match fb (max Pr.length L.length) (nG L Pr) with|some k=>Oc.price k|none=>Oc.good));have nn:dh (.lst Pr) .aJ=M.ok (.bl true):=rfl;dsimp? [oP,nn,Jm,cF (n:=((max Pr.length L.length:Nat):Int)) ⋯ ⋯,NC];refine dI (nG L Pr) (λk=>M.ok (.rt (wr (.price k)))) (ND (max Pr.length L.length)) (λr env=>(∃y,env=[some (.sh (.lst S)),some (.sh (.lst L)),some (.sh (.lst Pr)),y])/\∀k∈r,k<max Pr.length L.length) ⟨⟨_,rfl⟩,λk hk=>NR.mp hk⟩ (λ_ _=>rfl) ?_ (λe J0 hj=>?_) λk e=>?_
    .rintro k r env ⟨⟨y,rfl⟩,hr⟩;refine⟨[some (.sh (.lst S)),some (.sh (.lst L)),some (.sh (.lst Pr)),some (.sh (.int k))],rfl,λz=>⟨[some (.sh (.lst S)),some (.sh (.lst L)),some (.sh (.lst Pr)),some (.sh (.int k))],?_,⟨_,rfl⟩,λj hj=>hr j (Nl _ hj)⟩,λz=>?_⟩
     .obtain⟨z1,z2⟩:=NU.mp (show (decide (k<Pr.length)&&(decide (k<L.length)&&mY 1 1000 (Pr.getD k .aJ)))=true from z);obtain⟨z2,z3⟩:=NU.mp z2;have k1:=of_decide_eq_true z1;have k2:=of_decide_eq_true z2;have w:=kQ (pt _ (getD_mem k1)).1 1 1000;rw[z3] at w;have g1:((Pr.length:Int)<=(k:Int))=False:=eq_false ⋯;have g2:((L.length:Int)<=(k:Int))=False:=eq_false ⋯;dsimp? [ny,g1,g2,decide_false,v9 (p:=.lst Pr) rfl k k1,w]
     .by_cases k1:k<Pr.length
      .have g1:((Pr.length:Int)<=(k:Int))=False:=eq_false ⋯
       by_cases k2:k<L.length
       .have g2:((L.length:Int)<=(k:Int))=False:=eq_false ⋯;have w:=kQ (pt _ (getD_mem k1)).1 1 1000;have z3:mY 1 1000 (Pr.getD k .aJ)=false:=by
         have:(decide (k<Pr.length)&&(decide (k<L.length)&&mY 1 1000 (Pr.getD k .aJ)))=false:=z
         rwa [decide_eq_true k1,decide_eq_true k2,O5,O5] at this
        rw[z3] at w;dsimp? [ny,g1,g2,decide_false,v9 (p:=.lst Pr) rfl k k1,w];rfl
       .have g2:((L.length:Int)<=(k:Int))=True:=eq_true ⋯;dsimp? [ny,g1,g2,decide_false,decide_true];rfl
      .have g1:((Pr.length:Int)<=(k:Int))=True:=eq_true ⋯;dsimp? [ny,g1,decide_true];rfl
    .obtain⟨⟨y,rfl⟩,_⟩:=hj;rw[show fb (max Pr.length L.length) (nG L Pr)=none from e];dsimp? [];rfl
    .rw[show fb (max Pr.length L.length) (nG L Pr)=some k from e];rfl
  .rw[show fb L.length (wO S.length L)=some k from e];rfl
 .rw[show fb S.length (wN S)=some k from e];rfl
def pR(k:Nat):EX:=(aO,some [("dial",.int (k:Int))])
def pF(k:Nat):EX:=(aH,some [("lever",.int (k:Int))])
def qt(k:Nat):EX:=(aE,some [("lever",.int (k:Int))])
def wo(d:α)(f:α->Nat->PV):∀(xs:List α),xs.zipIdx.map (λz=>f z.1 z.2)=(ND xs.length).map λk=>f (xs.getD k d) k:=λxs=>by
 apply Qn
 .simp
 .intro i h1 h2;simp at h1 h2;simp[Nz,Nd h2]
def uC{S:List PV}(hp:aS p=some S):Fm [p]=M.ok ((ND S.length).map λk=>.tup [.int (k:Int),S.getD k .aJ]):=by
 have:=Bg (f:=λx=>x) S (by rw[hp,Qh]);rw[this,wo .aJ (λa k=>PV.tup [.int (k:Int),a]) S]
def yA:(1:Nat)<=sizeLine:=by decide
theorem vy{S:List PV}(hp:aS p=some S)(h:6<S.length):bg [p]=some (.error (aM,none)):=by
 unfold bg cH;have a1:(6:Int)<S.length:=by lia
 dsimp? [a1,decide_true,bc hp,ja,au yA]
def yZ(hp:aS p=some []):bg [p]=some (.error (pR 0)):=by
 unfold bg cH;have l:mH p=M.ok (.int 0):=bc hp;dsimp? [l,dg,(show decide ((6:Int)<0)=false from rfl),decide_true];rfl
theorem sQ{S:List PV}(hp:aS p=some S)(ht:∀x∈S,Ty x)(h1:1<=S.length)(h6:S.length<=6):bg [p]=match fb S.length (wN S) with|none=>M.ok .aJ|some k=>some (.error (pR k)):=by
 unfold bg cH;have a1:¬ (6:Int)<S.length:=by lia
 have a2:¬ (S.length:Int)=0:=by lia
 dsimp? [a1,a2,decide_false,bc hp,uC hp];refine dI (wN S) (λk=>some (.error (pR k))) (ND S.length) (λr env=>(∃b c,env=[some (.sh p),b,c])/\∀k∈r,k<S.length) ⟨⟨_,_,rfl⟩,λk hk=>NR.mp hk⟩ (λ_ _=>rfl) ?_ (λe J0 hj=>?_) λk e=>?_
 .rintro k r env ⟨⟨b,c,rfl⟩,hr⟩;have w:=j8 (ht _ (getD_mem (hr k Nt))) 2 360;refine⟨[some (.sh p),some (.sh (.int k)),some (.sh (S.getD k .aJ))],rfl,λhk=>⟨[some (.sh p),some (.sh (.int k)),some (.sh (S.getD k .aJ))],?_,⟨_,_,rfl⟩,λj hj=>hr j (Nl _ hj)⟩,λhk=>?_⟩
  .rw[show mY 2 360 (S.getD k .aJ)=true from hk] at w;dsimp? [w]
  .rw[show mY 2 360 (S.getD k .aJ)=false from hk] at w;dsimp? [w,dg];rfl
 .obtain⟨⟨b,c,rfl⟩,_⟩:=hj;rw[show fb S.length (wN S)=none from e];rfl
 .rw[show fb S.length (wN S)=some k from e];rfl
variable{q:PV}
theorem qK(hq:aS q=some L)(n:Nat)(h:8<L.length):bp [q,.int n]=some (.error (aM,none)):=by
 unfold bp cN;have a1:(8:Int)<L.length:=by lia
 dsimp? [a1,decide_true,bc hq,ja,au yA]
theorem tX(hq:aS q=some L)(n:Nat)(h8:L.length<=8)(hr:∀p∈L,Row p):bp [q,.int n]=match fb L.length (wO n L) with|none=>M.ok .aJ|some k=>some (.error (pF k)):=by
 unfold bp cN;have a1:¬ (8:Int)<L.length:=by lia
 dsimp? [a1,decide_false,bc hq,uC hq];refine dI (wO n L) (λk=>some (.error (pF k))) (ND L.length) (λr env=>(∃b c,env=[some (.sh q),some (.sh (.int n)),b,c])/\∀k∈r,k<L.length) ⟨⟨_,_,rfl⟩,λk hk=>NR.mp hk⟩ (λ_ _=>rfl) ?_ (λe J0 hj=>?_) λk e=>?_
 .rintro k r env ⟨⟨b,c,rfl⟩,MB⟩;have w:=C_ (hr _ (getD_mem (MB k Nt))) n;refine⟨[some (.sh q),some (.sh (.int n)),some (.sh (.int k)),some (.sh (L.getD k .aJ))],rfl,λz=>⟨[some (.sh q),some (.sh (.int n)),some (.sh (.int k)),some (.sh (L.getD k .aJ))],?_,⟨_,_,rfl⟩,λj hj=>MB j (Nl _ hj)⟩,λz=>?_⟩
  .rw[show rB n (L.getD k .aJ)=true from z] at w;dsimp? [w]
  .rw[show rB n (L.getD k .aJ)=false from z] at w;dsimp? [w,dg];rfl
 .obtain⟨⟨b,c,rfl⟩,_⟩:=hj;rw[show fb L.length (wO n L)=none from e];rfl
 .rw[show fb L.length (wO n L)=some k from e];rfl
theorem rV(hq:aS q=some L)(h8:L.length<=8):bQ [q,.aJ]=M.ok (tI (Ni L.length 1)):=by
 unfold bQ de;dsimp? [f_,hZ,bc hq,mul_one (.int 1) L.length ⋯];rw[tI,Sk]
variable{r:PV}
theorem tK{Pr:List PV}(hq:aS q=some L)(hr:aS r=some Pr)(nn:f_ r .aJ=M.ok (.bl false))(ht:∀x∈Pr,Ty x)(h8:L.length<=8)(hl:Pr.length<=100):bQ [q,r]=match fb (max Pr.length L.length) (nG L Pr) with|none=>M.ok (.tup Pr)|some k=>some (.error (qt k)):=by
 unfold bQ de;have mx:=Jm L.length Pr.length;rw[Nat.max_comm] at mx;dsimp? [nn,bc hq,bc hr,mx,cF (n:=((max Pr.length L.length:Nat):Int)) ⋯ ⋯,NC];refine dI (nG L Pr) (λk=>some (.error (qt k))) (ND (max Pr.length L.length)) (λrr env=>(∃y,env=[some (.sh q),some (.sh r),y])/\∀k∈rr,k<max Pr.length L.length) ⟨⟨_,rfl⟩,λk hk=>NR.mp hk⟩ (λ_ _=>rfl) ?_ (λe J0 hj=>?_) λk e=>?_
 .rintro k rr env ⟨⟨y,rfl⟩,hrr⟩;refine⟨[some (.sh q),some (.sh r),some (.sh (.int k))],rfl,λz=>⟨[some (.sh q),some (.sh r),some (.sh (.int k))],?_,⟨_,rfl⟩,λj hj=>hrr j (Nl _ hj)⟩,λz=>?_⟩
  .obtain⟨z1,z2⟩:=NU.mp (show (decide (k<Pr.length)&&(decide (k<L.length)&&mY 1 1000 (Pr.getD k .aJ)))=true from z);obtain⟨z2,z3⟩:=NU.mp z2;have k1:=of_decide_eq_true z1;have k2:=of_decide_eq_true z2;have w:=j8 (ht _ (getD_mem k1)) 1 1000;rw[z3] at w;have g1:((Pr.length:Int)<=(k:Int))=False:=eq_false ⋯;have g2:((L.length:Int)<=(k:Int))=False:=eq_false ⋯;dsimp? [ny,bc hq,bc hr,g1,g2,decide_false,v9 hr k k1,w]
  .by_cases k2:k<L.length
   .have g2:((L.length:Int)<=(k:Int))=False:=eq_false ⋯
    by_cases k1:k<Pr.length
    .have g1:((Pr.length:Int)<=(k:Int))=False:=eq_false ⋯;have w:=j8 (ht _ (getD_mem k1)) 1 1000;have z3:mY 1 1000 (Pr.getD k .aJ)=false:=by
      have:(decide (k<Pr.length)&&(decide (k<L.length)&&mY 1 1000 (Pr.getD k .aJ)))=false:=z
      rwa [decide_eq_true k1,decide_eq_true k2,O5,O5] at this
     rw[z3] at w;dsimp? [ny,bc hq,bc hr,g1,g2,decide_false,v9 hr k k1,w,dg];rfl
    .have g1:((Pr.length:Int)<=(k:Int))=True:=eq_true ⋯;dsimp? [ny,bc hq,bc hr,g1,g2,decide_false,decide_true,dg];rfl
   .have g2:((L.length:Int)<=(k:Int))=True:=eq_true ⋯;dsimp? [ny,bc hq,g2,decide_true,dg];rfl
 .obtain⟨⟨y,rfl⟩,_⟩:=hj;rw[show fb (max Pr.length L.length) (nG L Pr)=none from e];dsimp? [hr]
 .rw[show fb (max Pr.length L.length) (nG L Pr)=some k from e];rfl
def gT:PV->Int
 | .int i=>i
 |_=>0
def gI(x:PV):List Int:=match aS x with
 | some xs=>xs.map gT
 |none=>[]
def tN(h:∀x∈xs,wB x=true):xs=(xs.map gT).map PV.int:=by
 induction xs with
 | nil=>rfl
 | cons a r ih =>
  rw[NJ,NJ,<- ih λx hx=>h x (Nl _ hx)];have:=h a Nt;cases a<;>first|rfl|cases this
variable{x:PV}
def xI{lo hi:Int}(h:mY lo hi x=true):wB x=true/\lo<=gT x/\gT x<=hi:=by
 cases x with
 | int i=>exact⟨rfl,of_decide_eq_true h⟩
 |_=>cases h
def Ip(h:rB n x=true):aS x=some ((gI x).map PV.int)/\(gI x).length=n:=by
 unfold rB at h;unfold gI;cases e:aS x with
 | none=>rw[e] at h;cases h
 | some xs =>
  rw[e] at h;obtain⟨h1,h2⟩:=NU.mp h;refine⟨?_,?_⟩
  .show some xs=some _;rw[<- tN λy hy=>Ob.mp h2 y hy]
  .show (xs.map gT).length=n;rw[Nm];exact of_decide_eq_true h1
variable{e:EX}
def iN(h:bg [p]=some (.error e)):dH az bf [] [p,q,r]=some (.error e):=by
 have key:∀a,bf a ([p,q,r]++[])=some (.error e):=λa=>by
  unfold bf cJ;simp only[nv];rw[au (show ([p,q,r]++([]:List PV)).length+1=4 from rfl)];simp only[tY,rj];dsimp? [h]
 unfold dH;rw[qx key];rfl
def k4(h:bg [p]=M.ok .aJ)(hl:mH p=M.ok (.int n))(h2:bp [q,.int n]=some (.error e)):dH az bf [] [p,q,r]=some (.error e):=by
 have key:∀a,bf a ([p,q,r]++[])=some (.error e):=λa=>by
  unfold bf cJ;simp only[nv];rw[au (show ([p,q,r]++([]:List PV)).length+1=4 from rfl)];simp only[tY,rj];dsimp? [h,hl,h2]
 unfold dH;rw[qx key];rfl
variable{pz:List Int}
section
variable{S:List Int}
theorem n6(hp:aS p=some (S.map PV.int))(h:Sz S)(hg:∀x∈L,aS x=some ((gI x).map PV.int)/\(gI x).length=S.length):cT (c_ 0) none (ai iA (ae (af 0) (ae (af 1) aj))) L [none,some (.sh p)]=M.ok (L.map λx=>tI (kB (gI x) S)):=by
 have:=tf (x0:=none) (inj:=λx:PV=>x) (rest:=[some (.sh p)]) (f:=ai iA (ae (af 0) (ae (af 1) aj))) (h:=λx=>tI (kB (gI x) S)) L λx hm=>by
  obtain⟨h1,h2⟩:=hg x hm;have:=xK x p (gI x) S h1 hp (λs hs=>by have:=h.hx s hs;lia) (by rw[h2];have:=h.h6;lia);dsimp? [this]
 rwa [Qh] at this
theorem rZ(hp:aS p=some (S.map PV.int))(hq:aS q=some L)(h:Sz S)(h8:L.length<=8)(hg:∀x∈L,aS x=some ((gI x).map PV.int)/\(gI x).length=S.length)(h1:bg [p]=M.ok .aJ)(h2:bp [q,.int S.length]=M.ok .aJ)(h3:bQ [q,r]=some (.error e)):dH az bf [] [p,q,r]=some (.error e):=by
 have key:∀a,bf a ([p,q,r]++[])=some (.error e):=λa=>by
  have e1:=n6 hp h hg;unfold bf cJ;simp only[nv];rw[au (show ([p,q,r]++([]:List PV)).length+1=4 from rfl)];simp only[tY,rj];dsimp? [h1,bc hp,Nm,h2,lD,hp,hq,au (aX (show L.length<=1000 by lia)),e1,h3];rw[iy _ _ _ _ _ _ ↑13];dsimp? [lD,hp,hq,Nm,au (aX (show L.length<=1000 by lia)),e1,h3];rw[iy _ _ _ _ _ _ (Pa (jc (NT 0)) ↑12)];dsimp? [lD,h3]
 unfold dH;rw[qx key];rfl
theorem oG(hp:aS p=some (S.map PV.int))(hq:aS q=some L)(h:Sz S)(h8:L.length<=8)(hg:∀x∈L,aS x=some ((gI x).map PV.int)/\(gI x).length=S.length)(h1:bg [p]=M.ok .aJ)(h2:bp [q,.int S.length]=M.ok .aJ)(h3:bQ [q,r]=M.ok (tI pz)):dH az bf [] [p,q,r]=M.ok (l0 pz S (L.map λx=>kB (gI x) S)):=by
 have key:∀a,bf a ([p,q,r]++[])=M.ok (mI pz S (L.map λx=>kB (gI x) S)):=λa=>by
  have e1:=n6 hp h hg;unfold bf cJ;simp only[nv];rw[au (show ([p,q,r]++([]:List PV)).length+1=4 from rfl)];simp only[tY,rj];dsimp? [h1,bc hp,Nm,h2,lD,hp,hq,au (aX (show L.length<=1000 by lia)),e1,h3];rw[iy _ _ _ _ _ _ ↑13];dsimp? [lD,hp,hq,Nm,au (aX (show L.length<=1000 by lia)),e1,h3];rw[iy _ _ _ _ _ _ (Pa (jc (NT 0)) ↑12)];dsimp? [lD,h3];rw[iy _ _ _ _ _ _ (Pa (jc (jc (NT 0))) ↑12)];dsimp? [lD,rT S hp h];rw[iy _ _ _ _ _ _ (Pa (jc (jc (jc (NT 0)))) ↑12)];dsimp? [];show bT _ _=_;rw[au ⟨rfl,rfl⟩];rw[mI,Qf];rfl
 unfold dH;rw[qx key];rfl
end
def ex:Oc->EX
 | .many=>(aM,none)
 | .dial k=>pR k
 | .lever k=>pF k
 | .price k=>qt k
 |.good=>(iu,none)
def mB{P:α->Prop}{d:α}{xs:List α}(h:∀k,k<xs.length->P (xs.getD k d)):∀x∈xs,P x:=λx hx=>by
 obtain⟨k,hk,rfl⟩:=QL hx;have:=h k hk
 rwa [Nz,Nd hk] at this
structure Args (p q r:PV) (S L:List PV) (P:Option (List PV)):Prop where
 sp:aS p=some S
 sq:aS q=some L
 sr:(P=none/\r=.aJ)\/∃Pr,P=some Pr/\aS r=some Pr/\f_ r .aJ=M.ok (.bl false)/\Pr.length<=100/\∀x∈Pr,Ty x
 ts:∀x∈S,Ty x
 tl:∀x∈L,Row x
def sN(L:List PV):Option (List PV)->List Int
 | none=>Ni L.length 1
 |some Pr=>Pr.map gT
structure Gd (S L:List PV) (P:Option (List PV)):Prop where
 s:S=(S.map gT).map PV.int
 z:Sz (S.map gT)
 l8:L.length<=8
 g:∀x∈L,aS x=some ((gI x).map PV.int)/\(gI x).length=(S.map gT).length
 p:∀Pr,P=some Pr->Pr=(Pr.map gT).map PV.int/\Pr.length=L.length
theorem lV{S:List PV}{P:Option (List PV)}(h:oc S L P=.good):Gd S L P:=by
 unfold oc at h
 by_cases c1:6<S.length
 .rw[if_pos c1] at h;cases h
 rw[if_neg c1] at h
 by_cases c2:S=[]
 .rw[if_pos c2] at h;cases h
 rw[if_neg c2] at h;cases e1:fb S.length (wN S) with
 | some k=>rw[e1] at h;cases h
 | none =>
  rw[e1] at h;have a1:∀x∈S,mY 2 360 x=true:=mB (P:=λx=>mY 2 360 x=true) (d:=.aJ) λk hk=>pS e1 k hk
  change (if 8<L.length then Oc.many else _)=_ at h
  by_cases c3:8<L.length
  .rw[if_pos c3] at h;cases h
  rw[if_neg c3] at h;cases e2:fb L.length (wO S.length L) with
  | some k=>rw[e2] at h;cases h
  | none =>
   rw[e2] at h;have a2:∀x∈L,rB S.length x=true:=mB (P:=λx=>rB S.length x=true) (d:=.aJ) λk hk=>pS e2 k hk;refine⟨tN λx hx=>(xI (a1 x hx)).1,⟨?_,?_,λy hy=>?_⟩,by lia,λx hx=>?_,λPr e=>?_⟩
   .rw[Nm];exact Pu.mpr c2
   .rw[Nm];lia
   .obtain⟨x,hx,rfl⟩:=OB.mp hy;exact(xI (a1 x hx)).2
   .rw[Nm];exact Ip (a2 x hx)
   .subst e;cases e3:fb (max Pr.length L.length) (nG L Pr) with
    | some k=>exact nomatch (show Oc.price k=Oc.good by rw[<- h];show _=(match fb (max Pr.length L.length) (nG L Pr) with|some k=>Oc.price k|none=>.good);rw[e3])
    | none =>
     have a3:=pS e3;have al:Pr.length=L.length:=by
      rcases Nat.lt_trichotomy Pr.length L.length with l|l|l
      .have:=a3 Pr.length ⋯;unfold nG at this;rw[decide_eq_false (OF _)] at this;cases this
      .exact l
      .have:=a3 L.length ⋯;unfold nG at this;rw[decide_eq_false (OF L.length),QX,TM] at this;cases this
     refine⟨tN λx hx=>?_,al⟩;have:∀x∈Pr,mY 1 1000 x=true:=mB (P:=λx=>mY 1 1000 x=true) (d:=.aJ) λk hk=>by
      have:=a3 k ⋯;unfold nG at this;rwa[decide_eq_true hk,decide_eq_true ⋯,O5,O5] at this
     exact(xI (this x hx)).1
theorem xB{S:List PV}{P:Option (List PV)}(A:Args p q r S L P):dH az bf [] [p,q,r]=match oc S L P with|.good=>M.ok (l0 (sN L P) (S.map gT) (L.map λx=>kB (gI x) (S.map gT)))|o=>some (.error (ex o)):=by
 have gd:=lV (S:=S) (L:=L) (P:=P);unfold oc at gd ⊢
 by_cases c1:6<S.length
 .rw[if_pos c1];exact iN (vy A.sp c1)
 rw[if_neg c1] at gd ⊢
 by_cases c2:S=[]
 .rw[if_pos c2];subst c2;exact iN (yZ A.sp)
 rw[if_neg c2] at gd ⊢;have nd:=sQ A.sp A.ts (Pu.mpr c2) ⋯;cases e1:fb S.length (wN S) with
 | some k=>rw[e1] at nd;exact iN nd
 | none =>
  rw[e1] at nd gd
  change ((if 8<L.length then Oc.many else _)=_->_) at gd
  show _=match (if 8<L.length then Oc.many else _) with|.good=>_|o=>_
  by_cases c3:8<L.length
  .rw[if_pos c3];exact k4 nd (bc A.sp) (qK A.sq S.length c3)
  rw[if_neg c3] at gd ⊢;have lo:=tX A.sq S.length ⋯ A.tl;cases e2:fb L.length (wO S.length L) with
  | some k=>rw[e2] at lo;exact k4 nd (bc A.sp) lo
  | none =>
   rw[e2] at lo gd;have gn:Gd S L none:=lV (by
    unfold oc;rw[if_neg c1,if_neg c2,e1];show (if 8<L.length then Oc.many else _)=_;rw[if_neg c3,e2])
   have sp:=A.sp;have s:=gn.s;have lo':bp [q,.int ((S.map gT).length:Nat)]=M.ok .aJ:=by rwa[Nm]
   rcases A.sr with ⟨rfl,rfl⟩|⟨Pr,rfl,hr,nn,pl1,pt⟩
   .exact oG (sp.trans (congrArg some s)) A.sq gn.z gn.l8 gn.g nd lo' (rV A.sq gn.l8)
   .have po:=tK A.sq hr nn pt gn.l8 pl1;cases e3:fb (max Pr.length L.length) (nG L Pr) with
    | some k =>
     rw[e3] at po;show _=match (match fb (max Pr.length L.length) (nG L Pr) with|some k=>Oc.price k|none=>.good) with|.good=>_|o=>_
     rw[e3];exact rZ (sp.trans (congrArg some s)) A.sq gn.z gn.l8 gn.g nd lo' po
    | none =>
     rw[e3] at po;have g2:Gd S L (some Pr):=gd (by
      show (match fb (max Pr.length L.length) (nG L Pr) with|some k=>Oc.price k|none=>.good)=_;rw[e3])
     show _=match (match fb (max Pr.length L.length) (nG L Pr) with|some k=>Oc.price k|none=>.good) with|.good=>_|o=>_
     rw[e3];exact oG (sp.trans (congrArg some s)) A.sq gn.z gn.l8 gn.g nd lo' (po.trans (by rw[tI];show M.ok (PV.tup Pr)=M.ok (PV.tup ((Pr.map gT).map PV.int));rw[<- (g2.p Pr rfl).1]))
def kJ(env:aa):m9 aj env=M.ok []:=by
 simp only[m9,aj,M.aL];exact if_pos (NT _)
def oa(b:Bool):PV->PV
 | .aY xs=>if b then .tup xs else .lst xs
 |x=>x
def sq(c:Bool)(xs:List PV):PV:=if c then .tup xs else .lst xs
def B6(c b:Bool):PV->PV
 | .aY xs=>sq c (xs.map (oa b))
 |x=>x
def Mk(p:PV):Prop:=Ty p/\∀xs,p≠.lst xs
def bI(b:Bool):Int:=if b then 1 else 0
def rX(a b:PV)(c:Bool):aC (.lst [a,b]) (.int (bI c))=M.ok (if c then b else a):=by
 cases c
 .exact bJ (j:=0) rfl rfl
 .exact bJ (j:=1) rfl rfl
def DO(h:Mk x)(b:Bool):fy [x,.int (bI b)]=M.ok (oa b x):=by
 obtain⟨⟨a,ha⟩,hn⟩:=h;unfold fy gy;cases x with
 | lst xs=>exact absurd rfl (hn xs)
 | aY xs =>
  have i:sL (λa=>a == "list") eW eW (PV.aY xs)=M.ok (.bl true):=rfl;dsimp? [i,rX];cases b<;>rfl
 | int i=>rfl
 | bl b=>cases b<;>rfl
 | aJ=>rfl
 | str x=>rfl
 | tup xs=>rfl
 | emp=>rfl
 |_=>cases ha
theorem mod2(z:Int):z%2=bI (decide (z%2=1)):=by
 unfold bI
 by_cases h:z%2=1
 .rw[decide_eq_true h,if_pos rfl];exact h
 .rw[decide_eq_false h,if_neg ↑13];lia
def wb(way d:Int):Bool:=decide (way/d%2=1)
def pw:Nat->Int
 | 0=>1
 | 1=>2
 |_=>4
def pw_ok(k:Nat)(h:k<3):aC (.lst [.int 1,.int 2,.int 4]) (.int (k:Int))=M.ok (.int (pw k)):=by
 match k,h with
 | 0,_=>exact bJ (j:=0) rfl rfl
 | 1,_=>exact bJ (j:=1) rfl rfl
 |2,_=>exact bJ (j:=2) rfl rfl
def pw_pos(k:Nat):0<pw k/\pw k<2^64:=by
 match k with
 | 0=>decide
 | 1=>decide
 |n+2=>exact⟨by show (0:Int)<4;decide,by show (4:Int)<2^64;decide⟩
def Ms(x:PV):Prop:=x=.aJ\/∃xs,x=.aY xs/\xs.length<=100/\∀y∈xs,Mk y
def wk(way:Int)(k:Nat):Bool:=decide ((k:Int)=1)&&wb way 16
theorem vN(hs:List PV)(way:Int)(hl:hs.length=3)(hm:∀x∈hs,Ms x):bS [.lst hs,.int way]=M.ok (.lst ((ND 3).map λk=>B6 (wb way (pw k)) (wk way k) (hs.getD k .aJ))):=by
 unfold bS eo;dsimp? [kJ,cF (n:=3) ↑12 ↑12];refine f7 (ND 3) (λr env=>∃j y4 y3,env=[some (.sh (.lst hs)),some (.sh (.int way)),some (.ow ((ND j).map λk=>B6 (wb way (pw k)) (wk way k) (hs.getD k .aJ))),y3,y4]/\r=(ND 3).drop j/\j<=3) ⟨0,_,_,rfl,rfl,by lia⟩ ?_ ?_
 .rintro k r env ⟨j,y4,y3,rfl,e,hj⟩;have j3:j<3:=by
   rcases SN j 3 with h|h
   .exact h
   .rw[Qd (by simpa using h)] at e;cases e
  have kj:k=j/\r=(ND 3).drop (j+1):=by
   rw[OD (by simpa using j3)] at e;injection e with e1 e2
   exact⟨by simpa using e1,e2⟩
  obtain⟨rfl,er⟩:=kj;have hk:((ND k).map λk=>B6 (wb way (pw k)) (wk way k) (hs.getD k .aJ)).length<1000:=by simp;lia
  have ix:=v9 (p:=.lst hs) rfl k ⋯;have app:((ND k).map λk=>B6 (wb way (pw k)) (wk way k) (hs.getD k .aJ))++[B6 (wb way (pw k)) (wk way k) (hs.getD k .aJ)]=(ND (k+1)).map λk=>B6 (wb way (pw k)) (wk way k) (hs.getD k .aJ):=by rw[Tr,Tw];rfl
  have m:=hm _ (getD_mem (S:=hs) (k:=k) ⋯);refine⟨_,[some (.sh (.lst hs)),some (.sh (.int way)),some (.ow ((ND (k+1)).map λk=>B6 (wb way (pw k)) (wk way k) (hs.getD k .aJ))),some (.sh (.int k)),some (.sh (B6 (wb way (pw k)) (wk way k) (hs.getD k .aJ)))],rfl,?_,k+1,_,_,rfl,er,by lia⟩;rw[<- app];rcases m with m|⟨xs,m,ml,mx⟩
  .have nn:dh .aJ .aJ=M.ok (.bl false):=rfl;rw[m] at ix ⊢;dsimp? [ix,nn,jF,ownAt,jQ hk];rfl
  .have nn:dh (.aY xs) .aJ=M.ok (.bl true):=rfl;have iv:∀(e:aa),e=[none,some (.sh (.int way)),some (.sh (.int k))]->True:=λ_ _=>trivial;have key:cT (c_ 0) none (ai fy (ae (af 0) (ae (ai sy (ae (kf (ah lu (af 2) (λ_=>M.ok (.int 1))) (ah lu (ah bN (ah cU (af 1) (λ_=>M.ok (.int 16))) (λ_=>M.ok (.int 2))) (λ_=>M.ok (.int 1)))) aj)) aj))) (xs.map λx=>x) [none,some (.sh (.int way)),some (.sh (.int k))]=M.ok (xs.map (oa (wk way k))):=by
    refine tf (inj:=λx=>x) xs λx hx=>?_;have r:=DO (mx x hx) (wk way k);have ii:sy [.bl (wk way k)]=M.ok (.int (bI (wk way k))):=rfl
    by_cases c:(k:Int)=1
    .have wv:decide (way/16%2=1)=wk way k:=by unfold wk wb;rw[decide_eq_true c,O5]
     dsimp? [c,decide_true,bj (i:=way) (j:=16) ↑12 ↑12,aw (i:=way/16) (j:=2) ↑12,wv,ii,r]
    .have wv:false=wk way k:=by unfold wk;rw[decide_eq_false c,QX]
     dsimp? [c,decide_false];rw[wv];dsimp? [ii,r]
   rw[Qh] at key;rw[m] at ix ⊢;dsimp? [ix,nn,au (aX (show xs.length<=1000 by lia)),key,pw_ok k j3,bj (i:=way) (j:=pw k) (pw_pos k).1 (pw_pos k).2,aw (i:=way/pw k) (j:=2) ↑12];rw[mod2 (way/pw k),rX];dsimp? [jF,ownAt,jQ hk];rfl
 .rintro env ⟨j,y4,y3,rfl,e,hj⟩;have:j=3:=by
   rcases SN j 3 with h|h
   .rw[OD (by simpa using h)] at e;cases e
   .lia
  subst this;rfl
def same_int(n:Nat)(i:Int):aQ (n+1) [.int i,.int i]=M.ok (.bl true):=by
 unfold aQ c9;dsimp? [f_,hZ,decide_true]
def Gw(a b c:PV):aC (.lst [a,b,c]) (.int 0)=M.ok a:=bJ (j:=0) rfl rfl
def F0(a b c:PV):aC (.lst [a,b,c]) (.int 1)=M.ok b:=bJ (j:=1) rfl rfl
def GD(a b c:PV):aC (.lst [a,b,c]) (.int 2)=M.ok c:=bJ (j:=2) rfl rfl
def Jh(a b:PV):aC (.tup [a,b]) (.int 1)=M.ok b:=bJ (j:=1) rfl rfl
def fl(o:Oc):List PV:=[.bl (match o with|.many=>true|_=>false),.bl (match o with|.dial _=>true|_=>false),.bl (match o with|.lever _=>true|_=>false),.bl (match o with|.price _=>true|_=>false)]
def yC(o:Oc)(h:o≠.good):gk [.exc (ex o).1 (ex o).2]=M.ok (.lst (fl o++[.bl false,.bl true])):=by
 cases o with
 | good=>exact absurd rfl h
 |_=>rfl
def zA(o:Oc)(h:o≠.good):cT (c_ 0) none (ah lu (af 0) (ah aC (af 1) (λ_=>M.ok (.int 0)))) [.str "many",.str "dial",.str "lever",.str "price"] [none,some (.sh (wr o))]=M.ok (fl o):=by
 cases o with
 | good=>exact absurd rfl h
 | _ =>
  simp only[wr]
  with_unfolding_all kernel_rfl
def E1(o:Oc):qp (.lst (fl o++[.bl false,.bl true])) (.lst (fl o++[.bl false,.bl true]))=M.ok (.bl false):=by
 cases o<;>rfl
theorem ur{o:Oc}(h:o≠.good)(hm:dH az bf [] [p,q,r]=some (.error (ex o))):cB [.lst [p,q,r],wr o]=M.ok (.bl true):=by
 have f:=yC o h;have w:=zA o h;have ad:∀(a b:List PV),a.length<=10->b.length<=10->dc (.lst a) (.lst b)=M.ok (.lst (a++b)):=λa b ha hb=>by
  show bT _ _=_;rw[au];exact aX ⋯
 have t:f9 ez eB (ex o).1=some true:=by cases o<;>first|rfl|exact absurd rfl h
 unfold cB dz;dsimp? [Bj,Gw,F0,GD,hm,zw,hX,rJ,t,qB,sO,f_,hZ,f,au (show (4:Nat)<=sizeLine by decide),w,ad _ _ (show (fl o).length<=10 by simp[fl]) (show [PV.bl false,PV.bl true].length<=10 by simp),E1];cases o with
 | good=>exact absurd rfl h
 | many=>with_unfolding_all kernel_rfl
 | dial k =>
  have i1:sL (λ_=>false) (f9 dY dX) (f9 d_ dN) (.exc (ex (.dial k)).1 (ex (.dial k)).2)=M.ok (.bl true):=rfl;have i2:∀a b c d:Option SV,Bi qh "dial" (af 2) [a,b,some (.sh (.exc (ex (.dial k)).1 (ex (.dial k)).2)),c,d]=M.ok (.int k):=λa b c d=>by
   unfold Bi af;rfl
  have i3:ba [.int (k:Int),.int k]=M.ok (.bl true):=same_int 2 k;dsimp? [i1,i2,wr,Jh,i3]
 | lever k =>
  have i1:sL (λ_=>false) (f9 dY dX) (f9 d_ dN) (.exc (ex (.lever k)).1 (ex (.lever k)).2)=M.ok (.bl false):=rfl;have i4:∀a b c d:Option SV,oY (f9 dJ dP) (f9 dZ dO) (af 2) [a,b,some (.sh (.exc (ex (.lever k)).1 (ex (.lever k)).2)),c,d]=M.ok (.bl true):=λa b c d=>by
   unfold oY af;rfl
  have i2:∀a b c d:Option SV,Bi jq "lever" (af 2) [a,b,some (.sh (.exc (ex (.lever k)).1 (ex (.lever k)).2)),c,d]=M.ok (.int k):=λa b c d=>by
   unfold Bi af;rfl
  have i3:ba [.int (k:Int),.int k]=M.ok (.bl true):=same_int 2 k;dsimp? [i1,i4,i2,wr,Jh,i3]
 | price k =>
  have i1:sL (λ_=>false) (f9 dY dX) (f9 d_ dN) (.exc (ex (.price k)).1 (ex (.price k)).2)=M.ok (.bl false):=rfl;have i4:∀a b c d:Option SV,oY (f9 dJ dP) (f9 dZ dO) (af 2) [a,b,some (.sh (.exc (ex (.price k)).1 (ex (.price k)).2)),c,d]=M.ok (.bl true):=λa b c d=>by
   unfold oY af;rfl
  have i2:∀a b c d:Option SV,Bi jq "lever" (af 2) [a,b,some (.sh (.exc (ex (.price k)).1 (ex (.price k)).2)),c,d]=M.ok (.int k):=λa b c d=>by
   unfold Bi af;rfl
  have i3:ba [.int (k:Int),.int k]=M.ok (.bl true):=same_int 2 k;dsimp? [i1,i4,i2,wr,Jh,i3]
theorem xu(JY:List Int)(hp:aS p=some (JY.map PV.int))(h:Sz JY):fe [p]=M.ok (.int (R JY)):=by
 unfold fe eZ;dsimp? [hp];refine f7 JY (λr env=>∃acc y z,env=[some (.sh p),some (.sh (.int (acc:Nat))),y,z]/\Acc JY r acc) ⟨1,_,_,rfl,.start h⟩ ?_ ?_
 .rintro a r env ⟨acc,y,z,rfl,A⟩;obtain⟨A2,e1,e2,e3⟩:=A.turn;have ap:=A.pos;have ha:=A.Ak a Nt;obtain⟨n,rfl⟩:=Ot (show 0<=a by lia);rw[NC] at A2;have lp:=A2.pos;have d1:acc∣O1 acc n:=Nat.dvd_lcm_left acc n;refine⟨_,[some (.sh p),some (.sh (.int (O1 acc n:Nat))),some (.sh (.int (n:Int))),some (.sh (.int (acc:Int)))],rfl,?_,_,_,_,rfl,A2⟩;dsimp? [];refine tU (λenv=>∃f:Nat,env=[some (.sh p),some (.sh (.int (f:Int))),some (.sh (.int (n:Int))),some (.sh (.int (acc:Int)))]/\0<f/\f<=O1 acc n/\acc∣f) (λenv=>match env with
   | [_,some (.sh (.int q)),_,_]=>O1 acc n-q.toNat
   | _=>0) ⟨acc,rfl,ap,Qt lp d1,Nat.dvd_refl _⟩ ?_ ?_
  .rintro env ⟨f,rfl,f1,f2,f3⟩
   by_cases h0:(f:Int)%(n:Int)=0
   .exact .inl (by dsimp? [aw (i:=(f:Int)) (j:=(n:Int)) ⋯,h0,decide_true])
   .refine .inr ⟨by dsimp? [aw (i:=(f:Int)) (j:=(n:Int)) ⋯,h0,decide_false],[some (.sh p),some (.sh (.int ((f+acc:Nat):Int))),some (.sh (.int (n:Int))),some (.sh (.int (acc:Int)))],?_,⟨f+acc,rfl,by lia,?_,?_⟩,?_⟩
    .dsimp? [];rfl
    .have ne:f≠O1 acc n:=λe=>h0 (by
      rw[e];exact Ru (Ri.mpr (SO acc n)))
     have:=Qt (show 0<O1 acc n-f by lia) (Nat.dvd_sub d1 f3);lia
    .exact Nat.dvd_add f3 (Nat.dvd_refl _)
    .have ne:f≠O1 acc n:=λe=>h0 (by
      rw[e];exact Ru (Ri.mpr (SO acc n)))
     show O1 acc n-((f+acc:Nat):Int).toNat<O1 acc n-((f:Nat):Int).toNat;lia
  .rintro J0 ⟨f,rfl,f1,f2,f3⟩ hu;have hz:(f:Int)%(n:Int)=0:=by
    revert hu;dsimp? [aw (i:=(f:Int)) (j:=(n:Int)) ⋯];intro hu;have:(!decide ((f:Int)%(n:Int)=0))=false:=by injection hu with hu;injection hu
    simpa using this
   have nd:n∣f:=Ri.mp (Int.dvd_of_emod_eq_zero hz);have:f=O1 acc n:=Nat.le_antisymm f2 (Qt f1 (Nat.lcm_dvd f3 nd));rw[this];rfl
 .rintro J0 ⟨acc,y,z,rfl,A⟩;dsimp? [];have:=A.val;rw[R,<- this];rfl
def HS(xs ys:List PV):zip2 [.tup xs,.tup ys]=M.ok ((xs.zip ys).map λz=>.tup [z.1,z.2]):=by
 show M.ok (QV _ xs ys)=_;rw[List.zip,S9]
theorem kL{α:Type}:∀(xs:List α)(z:α×α),z∈xs.zip xs->z.1=z.2/\z.1∈xs
 | [],_,h=>nomatch h
 | x::r,z,h=>by
  rcases NB.mp (show z∈(x,x)::r.zip r from h) with e|e
  .rw[e];exact⟨rfl,Nt⟩
  .exact⟨(kL r z e).1,Nl _ (kL r z e).2⟩
def rn(n:Nat)(xs:List PV)(h:∀x∈xs,aQ (n+1) [x,x]=M.ok (.bl true)):aQ (n+2) [.tup xs,.tup xs]=M.ok (.bl true):=by
 show bb 4 (c9 (aQ (n+1))) _=_;unfold c9;dsimp? [f_,hZ,decide_true,HS];refine f7 (xs.zip xs) (λzs env=>(∃b c p,env=[p,p,b,c]/\p=some (.sh (.tup xs)))/\∀z∈zs,z.1=z.2/\z.1∈xs) ⟨⟨_,_,_,rfl,rfl⟩,λz hz=>kL xs z hz⟩ ?_ ?_
 .rintro⟨a,a'⟩ r env ⟨⟨b,c,p,rfl,hp⟩,hz⟩;obtain⟨e,hm⟩:a=a'/\a∈xs:=hz (a,a') Nt;subst e;refine⟨_,[p,p,some (.sh a),some (.sh a)],rfl,?_,⟨_,_,_,rfl,hp⟩,λz M3=>hz z (Nl _ M3)⟩;dsimp? [h a hm]
 .rintro J0 ⟨⟨b,c,p,rfl,hp⟩,_⟩;rfl
def qu(n:Nat)(xs:List Int):aQ (n+2) [tI xs,tI xs]=M.ok (.bl true):=rn n _ λx hx=>by
 obtain⟨i,_,rfl⟩:=OB.mp hx;exact same_int n i
def vc(h:aQ 3 [p,p]=M.ok (.bl true)):ba [p,p]=M.ok (.bl true):=by
 unfold ba bL;exact h
def EW:(mI pz JY levers).lookup (NF "prices")=none:=rfl
def E3:(mI pz JY levers).lookup (NF "around")=none:=rfl
def vT(JY:List Int)(levers:List (List Int)):bW [l0 pz JY levers]=M.ok (.int (R JY)):=by
 unfold bW dE;dsimp? [nQ,l0,beq_self_eq_true,yk]
def zJ{g:aa->M PV}{env:aa}(h:g env=M.ok (l0 pz JY levers)):cP az "prices" b_ g aj env=M.ok (tI pz):=by
 have:=vh (pz:=pz) JY levers;rw[cP,h,M.aL];show bT _ (M.bind (aj env) _)=_;rw[au ⟨rfl,EW⟩];exact this
def xw{g:aa->M PV}{env:aa}(h:g env=M.ok (l0 pz JY levers)):cP az "around" bW g aj env=M.ok (.int (R JY)):=by
 have:=vT (pz:=pz) JY levers;rw[cP,h,M.aL];show bT _ (M.bind (aj env) _)=_;rw[au ⟨rfl,E3⟩];exact this
theorem ir(p:PV)(n:Nat)(h8:n<=1000):cu (.lst [p]) (.int (n:Int))=M.ok (.lst (Ni n p)):=by
 have h2:[p].length*(n:Int).toNat<=sizeLine:=by
  rw[NC];exact aX (by show 1*n<=1000;lia)
 have h3:(n:Int)<2^63:=Si (SM.mpr h8) ↑12;have h4:-(2^63)<=(n:Int):=Int.le_trans ↑12 (Sj n);rw[cu,au ⟨h4,h3,h2⟩,NC,rG]
def sU{set:PV->aa->M aa}{body:aa->M Out}{k:Out->M β}{r:M β}(xs:List PV)(J:List PV->aa->Prop){env:aa}(h:J xs env)(H:∀a r env,J (a::r) env->∃e' J0,set a env=M.ok e'/\body e'=M.ok (.nx J0)/\J r J0)(hk:∀J0,J [] J0->k (.nx J0)=r):M.bind (gO set body xs env) k=r:=by
 have:=f7 (inj:=λx=>x) xs J h H hk
 rwa [Qh] at this
def mP:Option (List PV)->PV
 | none=>.aJ
 |some xs=>.aY xs
theorem uK{S:List PV}{P:Option (List PV)}(G:Gd S L P):eL [l0 (sN L P) (S.map gT) (L.map λx=>kB (gI x) (S.map gT)),.aY S,.aY L,mP P]=M.ok (.bl true):=by
 have hS:=G.s;have hz:=G.z;have l8:=G.l8;have h6:=hz.h6;generalize hs:S.map gT=JY at *;have sS:aS (.aY S)=some (JY.map PV.int):=congrArg some hS;have v1:∀r:aa,cP az "sizes" cw (af 0) aj (some (.sh (l0 (sN L P) JY (L.map λx=>kB (gI x) JY)))::r)=M.ok (tI JY):=λr=>As rfl;have v2:∀r:aa,cP az "levers" bY (af 0) aj (some (.sh (l0 (sN L P) JY (L.map λx=>kB (gI x) JY)))::r)=M.ok (.tup ((L.map λx=>kB (gI x) JY).map tI)):=λr=>zq rfl;have v3:∀r:aa,cP az "prices" b_ (af 0) aj (some (.sh (l0 (sN L P) JY (L.map λx=>kB (gI x) JY)))::r)=M.ok (tI (sN L P)):=λr=>zJ rfl;have v4:∀r:aa,cP az "around" bW (af 0) aj (some (.sh (l0 (sN L P) JY (L.map λx=>kB (gI x) JY)))::r)=M.ok (.int (R JY)):=λr=>xw rfl;have s1:ba [tI JY,.tup S]=M.ok (.bl true):=by
  rw[show PV.tup S=tI JY from congrArg PV.tup hS];exact vc (qu 1 JY)
 have s2:ba [.tup ((L.map λx=>kB (gI x) JY).map tI),.tup (L.map λx=>tI (kB (gI x) JY))]=M.ok (.bl true):=by
  rw[Qf];exact vc (rn 1 _ λx hx=>by
   obtain⟨l,_,rfl⟩:=OB.mp hx;exact qu 0 _)
 have s3:=vc (qu 1 (sN L P));have s4:ba [.int (R JY),.int (R JY)]=M.ok (.bl true):=vc (same_int 2 _);have rd:=xu JY sS hz;unfold eL fP;dsimp? [kJ];refine sU L (λr env=>∃(ds:List PV)(y:Option SV),env=[some (.sh (l0 (sN L P) JY (L.map λx=>kB (gI x) JY))),some (.sh (.aY S)),some (.sh (.aY L)),some (.sh (mP P)),some (.ow (ds.map λx=>tI (kB (gI x) JY))),y]/\ds++r=L) ⟨[],_,rfl,rfl⟩ ?_ ?_
 .rintro x r env ⟨ds,y,rfl,e⟩;have hx:x∈L:=by rw[<- e];exact NN _ Nt
  obtain⟨g1,g2⟩:=G.g x hx;have zl:((gI x).zip JY).length<=sizeLine:=aX (by rw[Tv];lia);have key:cT (gX 0 1) none (ah bN (af 0) (af 1)) (((gI x).zip JY).map λz=>.tup [.int z.1,.int z.2]) [none,none]=M.ok (((gI x).zip JY).map λz=>.int (z.1%z.2)):=by
   refine wU (p:=λz:Int×Int=>PV.int z.1) (q:=λz:Int×Int=>PV.int z.2) ((gI x).zip JY) λz hzz=>?_;have:=hz.hx z.2 (PJ (a:=z.1) (b:=z.2) hzz).2;dsimp? [aw (i:=z.1) (j:=z.2) ⋯]
  have dl:ds.length<=8:=by
   have:=congrArg List.length e;rw[NG] at this;lia
  have hk:(ds.map λx=>tI (kB (gI x) JY)).length<1000:=by rw[Nm];lia
  have tI':PV.tup (((gI x).zip JY).map λz=>.int (z.1%z.2))=tI (kB (gI x) JY):=by rw[tI,kB,Qf];rfl
  have ap:(ds.map λx=>tI (kB (gI x) JY))++[tI (kB (gI x) JY)]=(ds++[x]).map λx=>tI (kB (gI x) JY):=by rw[Tw];rfl
  refine⟨_,[some (.sh (l0 (sN L P) JY (L.map λx=>kB (gI x) JY))),some (.sh (.aY S)),some (.sh (.aY L)),some (.sh (mP P)),some (.ow ((ds++[x]).map λx=>tI (kB (gI x) JY))),some (.sh x)],rfl,?_,ds++[x],_,rfl,by rwa[Ra]⟩;dsimp? [r_ (gI x) JY g1 sS,Nm,au zl,key,jF,ownAt,tI',jQ hk,ap]
 .rintro env ⟨ds,y,rfl,e⟩;rw[NX] at e;subst e;cases P with
  | none =>
   have e3:PV.tup (Ni ds.length (.int 1))=tI (sN ds none):=by rw[tI,sN,Sk]
   dsimp? [mP,f_,hZ,ir (.int 1) ds.length ⋯,v1,v2,v3,v4,s1,s2,e3,s3,rd,s4]
  | some Pr =>
   have e3:PV.tup Pr=tI (sN ds (some Pr)):=congrArg PV.tup (G.p Pr rfl).1;dsimp? [mP,f_,hZ,v1,v2,v3,v4,s1,s2,e3,s3,rd,s4]
mutual
theorem xy:∀(p:PV)(d:PyData),dat p=some d->∃q,fk p=some q/\dat q=some d/\pP q=true
 | .aJ,d,h=>⟨_,rfl,h,rfl⟩
 | .bl b,d,h=>⟨_,rfl,h,rfl⟩
 | .int i,d,h=>⟨_,rfl,h,rfl⟩
 | .str x,d,h=>⟨_,rfl,h,rfl⟩
 | .tup xs,d,h=>by
  obtain⟨ds,e,rfl⟩:=Nf.mp (show (eJ xs).map _=some d from h);obtain⟨ys,e1,e2,e3⟩:=jR xs ds e;exact⟨.tup ys,by show (cz xs).map _=_;rw[e1];rfl,by show (eJ ys).map _=_;rw[e2];rfl,e3⟩
 | .lst xs,d,h=>by
  obtain⟨ds,e,rfl⟩:=Nf.mp (show (eJ xs).map _=some d from h);obtain⟨ys,e1,e2,e3⟩:=jR xs ds e;exact⟨.aY ys,by show (cz xs).map _=_;rw[e1];rfl,by show (eJ ys).map _=_;rw[e2];rfl,e3⟩
 | .aY xs,d,h=>by
  obtain⟨ds,e,rfl⟩:=Nf.mp (show (eJ xs).map _=some d from h);obtain⟨ys,e1,e2,e3⟩:=jR xs ds e;exact⟨.aY ys,by show (cz xs).map _=_;rw[e1];rfl,by show (eJ ys).map _=_;rw[e2];rfl,e3⟩
 | .obj _ _,d,h=>nomatch h
 | .exc _ _,d,h=>nomatch h
 | .emp,d,h=>nomatch h
 | .t8 _,d,h=>nomatch h
 |.fn _,d,h=>nomatch h
theorem jR:∀(xs:List PV)(ds:List PyData),eJ xs=some ds->∃ys,cz xs=some ys/\eJ ys=some ds/\qH ys=true
 | [],ds,h=>⟨[],rfl,h,rfl⟩
 | p::r,ds,h=>by
  obtain⟨d,e1,h1⟩:=Oq.mp (show (dat p).bind (λd=>(eJ r).map (d::·))=some ds from h);obtain⟨es,e2,rfl⟩:=Nf.mp h1;obtain⟨q,a1,a2,a3⟩:=xy p d e1;obtain⟨ys,b1,b2,b3⟩:=jR r es e2;refine⟨q::ys,?_,?_,?_⟩
  .show (fk p).bind (λq=>(cz r).map (q::·))=_;rw[a1,b1];rfl
  .show (dat q).bind (λd=>(eJ ys).map (d::·))=_;rw[a2,b2];rfl
  .show (pP q&&qH ys)=true;rw[a3,b3];rfl
end
theorem iD:∀{xs ys:List PV},cz xs=some ys->ys.length=xs.length/\∀k,fk (xs.getD k .aJ)=some (ys.getD k .aJ)
 | [],ys,h=>by cases h;exact⟨rfl,λk=>rfl⟩
 | p::r,ys,h=>by
  obtain⟨q,e1,h1⟩:=Oq.mp (show (fk p).bind (λq=>(cz r).map (q::·))=some ys from h);obtain⟨es,e2,rfl⟩:=Nf.mp h1;obtain⟨l,a⟩:=iD e2;refine⟨by simp[l],λk=>?_⟩;cases k with
  | zero=>exact e1
  |succ k=>exact a k
structure Lk (p q:PV):Prop where
 i:∀lo hi,mY lo hi p=mY lo hi q
 w:wB p=wB q
 u:gT p=gT q
 r:∀n,rB n p=rB n q
 g:gI p=gI q
variable{ys:List PV}
def yn(hl:ys.length=xs.length)(hw:∀k,wB (ys.getD k .aJ)=wB (xs.getD k .aJ))(hu:∀k,gT (ys.getD k .aJ)=gT (xs.getD k .aJ)):ys.all wB=xs.all wB/\ys.map gT=xs.map gT:=by
 constructor
 .have e:ys.map wB=xs.map wB:=by
   apply Qn
   .simp[hl]
   .intro k h1 h2;simp at h1 h2;have:=hw k;rw[Nz,Nz,Nd h1,Nd h2] at this;simpa using this
  rw[show ys.all wB=(ys.map wB).all id by rw[SK];rfl,e,SK];rfl
 .apply Qn
  .simp[hl]
  .intro k h1 h2;simp at h1 h2;have:=hu k;rw[Nz,Nz,Nd h1,Nd h2] at this;simpa using this
def uA(hp:aS p=some xs)(hq:aS q=some ys)(hl:ys.length=xs.length)(ha:ys.all wB=xs.all wB)(hm:ys.map gT=xs.map gT):Lk q p:=by
 refine⟨λlo hi=>?_,?_,?_,λn=>?_,?_⟩
 .cases p<;>first|cases hp<;>(cases q<;>first|rfl|cases hq)|cases hp
 .cases p<;>first|cases hp<;>(cases q<;>first|rfl|cases hq)|cases hp
 .cases p<;>first|cases hp<;>(cases q<;>first|rfl|cases hq)|cases hp
 .unfold rB;rw[hp,hq];show (decide _&&_)=(decide _&&_);rw[hl,ha]
 .unfold gI;rwa[hp,hq]
def Lk.refl(p:PV):Lk p p:=⟨λ_ _=>rfl,rfl,rfl,λ_=>rfl,rfl⟩
def xH:∀{p q:PV},fk p=some q->wB q=wB p/\gT q=gT p:=λ{p q} h=>by
 cases p with
 | tup xs=>obtain⟨ys,_,rfl⟩:=Nf.mp (show (cz xs).map _=some q from h);exact⟨rfl,rfl⟩
 | lst xs=>obtain⟨ys,_,rfl⟩:=Nf.mp (show (cz xs).map _=some q from h);exact⟨rfl,rfl⟩
 | aY xs=>obtain⟨ys,_,rfl⟩:=Nf.mp (show (cz xs).map _=some q from h);exact⟨rfl,rfl⟩
 |_=>first|(cases h;exact⟨rfl,rfl⟩)|cases h
def zH(h:fk p=some q):Lk q p/\(∀xs,q≠.lst xs):=by
 have key:∀xs ys:List PV,cz xs=some ys->ys.length=xs.length/\ys.all wB=xs.all wB/\ys.map gT=xs.map gT:=λxs ys e=>by
  obtain⟨l,a⟩:=iD e;obtain⟨b,c⟩:=yn l (λk=>(xH (a k)).1) λk=>(xH (a k)).2;exact⟨l,b,c⟩
 cases p with
 | tup xs =>
  obtain⟨ys,e,rfl⟩:=Nf.mp (show (cz xs).map _=some q from h);obtain⟨l,b,c⟩:=key xs ys e;exact⟨uA (p:=.tup xs) (q:=.tup ys) rfl rfl l b c,λxs z=>nomatch z⟩
 | lst xs =>
  obtain⟨ys,e,rfl⟩:=Nf.mp (show (cz xs).map _=some q from h);obtain⟨l,b,c⟩:=key xs ys e;exact⟨uA (p:=.lst xs) (q:=.aY ys) rfl rfl l b c,λxs z=>nomatch z⟩
 | aY xs =>
  obtain⟨ys,e,rfl⟩:=Nf.mp (show (cz xs).map _=some q from h);obtain⟨l,b,c⟩:=key xs ys e;exact⟨uA (p:=.aY xs) (q:=.aY ys) rfl rfl l b c,λxs z=>nomatch z⟩
 |_=>first|(cases h;exact⟨.refl _,λxs z=>nomatch z⟩)|cases h
def FN(b:Bool)(p:PV):Lk (oa b p) p:=by
 cases p with
 | aY xs=>cases b<;>exact uA (p:=.aY xs) rfl rfl rfl rfl rfl
 |_=>exact .refl _
def zT(xs ys:List PV):Prop:=xs.length=ys.length/\∀k,Lk (xs.getD k .aJ) (ys.getD k .aJ)
def Hg:Option (List PV)->Option (List PV)->Prop
 | none,none=>True
 | some a,some b=>zT a b
 |_,_=>False
def yF{S T M:List PV}{P Q:Option (List PV)}(h1:zT S T)(h2:zT L M)(h3:Hg P Q):oc S L P=oc T M Q:=by
 obtain⟨l1,k1⟩:=h1;obtain⟨l2,k2⟩:=h2;have e0:(S=[])=(T=[]):=by
  rw[<- PU,<- PU,l1]
 have e1:fb T.length (wN S)=fb T.length (wN T):=me λk _=>(k1 k).i 2 360;have e2:fb M.length (wO T.length L)=fb M.length (wO T.length M):=me λk _=>(k2 k).r T.length;unfold oc;simp only[l1,e0,e1,l2,e2];cases P with
 | none=>cases Q with
  | none=>rfl
  | some b=>exact h3.elim
 | some a=>cases Q with
  | none=>exact h3.elim
  | some b =>
   obtain⟨l3,k3⟩:=(show zT a b from h3)
   have e3:fb (max b.length M.length) (nG L a)=fb (max b.length M.length) (nG M b):=me λk _=>by
    unfold nG;rw[l3,l2,(k3 k).i 1 1000]
   simp only[l3,e3]
def B_{S T:List PV}(h:zT S T):S.map gT=T.map gT:=(yn (xs:=T) (ys:=S) h.1 (λk=>(h.2 k).w) λk=>(h.2 k).u).2
def HR{M:List PV}(h:zT L M)(f:List Int->β):L.map (λx=>f (gI x))=M.map λx=>f (gI x):=by
 apply Qn
 .simp[h.1]
 .intro k h1 h2;simp at h1 h2;have:=(h.2 k).g;rw[Nz,Nz,Nd h1,Nd h2] at this;simp at this;simp[this]
def FZ{M:List PV}{P Q:Option (List PV)}(h2:zT L M)(h3:Hg P Q):sN L P=sN M Q:=by
 cases P with
 | none=>cases Q with
  | none=>show Ni _ _=Ni _ _;rw[h2.1]
  | some b=>exact h3.elim
 | some a=>cases Q with
  | none=>exact h3.elim
  |some b=>exact B_ h3
def ku(b:Bool)(xs:List PV):zT (xs.map (oa b)) xs:=⟨by simp,λk=>by
 have:(xs.map (oa b)).getD k .aJ=oa b (xs.getD k .aJ):=by
  rw[Nz,Nz,NP];cases xs[k]?<;>rfl
 rw[this];exact FN b _⟩
def A6(h:cz xs=some ys):zT ys xs:=⟨(iD h).1,λk=>(zH ((iD h).2 k)).1⟩
def B9(h:Dt n p)(e:fk p=some q):Dt n q/\Mk q/\pP q=true:=by
 obtain⟨_,d,h1,h2,h3⟩:=h;obtain⟨q',e1,e2,e3⟩:=xy p d h1;obtain rfl:=Nx (e.symm.trans e1);have t:Ty q:=by cases q<;>first|exact⟨_,rfl⟩|cases e2
 exact⟨⟨t,d,e2,h2,h3⟩,⟨t,(zH e).2⟩,e3⟩
theorem p6{S:List PV}(h:∀p∈S,Dt n p):∃T,cz S=some T/\qH T=true/\zT T S/\∀q∈T,(Dt n q/\Mk q)/\∃p∈S,fk p=some q:=by
 obtain⟨ds,f1,_,_,_⟩:=f6 h;obtain⟨T,e1,_,e3⟩:=jR S ds f1;obtain⟨l,a⟩:=iD e1;refine⟨T,e1,e3,A6 e1,λq hq=>?_⟩;obtain⟨k,hk,rfl⟩:=QL hq;have b:=a k;rw[Nz (l:=T),Nd hk] at b;have hm:=getD_mem (S:=S) (k:=k) ⋯;obtain⟨c1,c2,_⟩:=B9 (h _ hm) b;exact⟨⟨c1,c2⟩,_,hm,b⟩
def DR(p:PV):Prop:=Dt 3 p/\∀xs,aS p=some xs->xs.length<=100/\∀x∈xs,Dt 3 x
def EV(h:DR p)(e:fk p=some q):DR q:=by
 refine⟨(B9 h.1 e).1,λxs hx=>?_⟩;have key:∀zs,aS p=some zs->cz zs=some xs->xs.length<=100/\∀x∈xs,Dt 3 x:=λzs hz es=>by
  obtain⟨a,b⟩:=h.2 zs hz;obtain⟨T,e1,_,_,e4⟩:=p6 b;obtain rfl:=Nx (es.symm.trans e1);exact⟨by rwa[(iD es).1],λx hx=>(e4 x hx).1.1⟩
 cases p with
 | tup zs=>obtain⟨ys,e',rfl⟩:=Nf.mp (show (cz zs).map _=some q from e);cases hx;exact key zs rfl e'
 | lst zs=>obtain⟨ys,e',rfl⟩:=Nf.mp (show (cz zs).map _=some q from e);cases hx;exact key zs rfl e'
 | aY zs=>obtain⟨ys,e',rfl⟩:=Nf.mp (show (cz zs).map _=some q from e);cases hx;exact key zs rfl e'
 |_=>cases e<;>cases hx
structure Hm (S L:List PV) (P:Option (List PV)):Prop where
 s:∀p∈S,Dt 3 p/\Mk p
 l:∀p∈L,DR p/\Mk p
 p:∀Pr,P=some Pr->Pr.length<=100/\(∀p∈Pr,Dt 3 p/\Mk p)/\qH Pr=true
 ls:S.length<=100
 ll:L.length<=100
 ns:qH S=true
 nl:qH L=true
def mark{S:List PV}{P:Option (List PV)}(h:Hd S L P):∃T M Q,fk (.lst S)=some (.aY T)/\fk (.lst L)=some (.aY M)/\fk (oP P)=some (mP Q)/\Hm T M Q/\oc T M Q=oc S L P:=by
 obtain⟨T,a1,a2,a3,a4⟩:=p6 h.s;obtain⟨M,b1,b2,b3,b4⟩:=p6 λp hp=>(h.l p hp).1;have t1:fk (.lst S)=some (.aY T):=by show (cz S).map _=_;rw[a1];rfl
 have t2:fk (.lst L)=some (.aY M):=by show (cz L).map _=_;rw[b1];rfl
 have l1:∀p∈T,Dt 3 p/\Mk p:=λp hp=>(a4 p hp).1;have l2:∀p∈M,DR p/\Mk p:=λq hq=>by
  obtain⟨c,p,hp,e⟩:=b4 q hq;exact⟨EV (h.l p hp) e,c.2⟩
 have l3:T.length<=100:=by rw[a3.1];exact h.ls
 have l4:M.length<=100:=by rw[b3.1];exact h.ll
 cases P with
 | none=>exact⟨T,M,none,t1,t2,rfl,⟨l1,l2,(λ_ e=>nomatch e),l3,l4,a2,b2⟩,yF a3 b3 trivial⟩
 | some Pr =>
  obtain⟨d1,d2⟩:=h.p Pr rfl;obtain⟨Q,c1,c2,c3,c4⟩:=p6 d2;refine⟨T,M,some Q,t1,t2,by show (cz Pr).map _=_;rw[c1];rfl,⟨l1,l2,λPr' e=>?_,l3,l4,a2,b2⟩,yF a3 b3 c3⟩;cases e;exact⟨by rwa[c3.1],λp hp=>(c4 p hp).1,c2⟩
def sR(h:Dt n (.aY xs))(c:Bool):Dt n (sq c xs):=by
 obtain⟨_,d,h1,h2,h3⟩:=h;obtain⟨ds,e,rfl⟩:=Nf.mp (show (eJ xs).map _=some d from h1);cases c
 .exact⟨⟨_,rfl⟩,.list ds,h1,h2,h3⟩
 .exact⟨⟨_,rfl⟩,.tuple ds,by show (eJ xs).map _=_;rw[e];rfl,h2,h3⟩
def oX(h:Dt n p)(b:Bool):Dt n (oa b p):=by
 cases p with
 | aY xs =>
  cases b
  .exact sR h false
  .exact sR h true
 |_=>exact h
def Cm(p:PV)(b:Bool):aS (oa b p)=aS p:=by
 cases p with
 | aY xs=>cases b<;>rfl
 |_=>rfl
theorem DP(h:DR p)(m:Mk p)(b:Bool):Row (oa b p):=by
 refine⟨(oX h.1 b).1,λxs e=>?_,λxs e=>?_⟩
 .cases p with
  | aY ys=>cases b<;>cases e
  | _=>cases e
 .rw[Cm] at e;obtain⟨a,c⟩:=h.2 xs e;exact⟨by lia,λx hx=>(c x hx).1⟩
def F8(h:Dt n p)(b:Bool):Ij (oa b p)=true:=by
 obtain⟨_,d,h1,_,_⟩:=h;cases p with
 | aY ys=>cases b<;>rfl
 |_=>first|rfl|cases h1
def pZ(c:Bool)(xs:List PV):aS (sq c xs)=some xs:=by cases c<;>rfl
def CP(c:Bool)(xs:List PV):f_ (sq c xs) .aJ=M.ok (.bl false):=by cases c<;>rfl
def y7(c:Bool)(xs:List PV):Ij (sq c xs)=true:=by cases c<;>rfl
def zx(h:∀p∈xs,Dt n p)(c:Bool):Dt (n+1) (sq c xs):=sR (.aY h) c
def c1(b:Bool):Option (List PV)->Option (List PV)
 | none=>none
 |some xs=>some (xs.map (oa b))
def r1(c b:Bool):Option (List PV)->PV
 | none=>.aJ
 |some xs=>sq c (xs.map (oa b))
section
variable{S:List PV}{P:Option (List PV)}
abbrev vW(S:List PV)(way:Int):PV:=sq (wb way 1) (S.map (oa (wk way 0)))
abbrev vR(L:List PV)(way:Int):PV:=sq (wb way 2) (L.map (oa (wk way 1)))
abbrev wR(P:Option (List PV))(way:Int):PV:=r1 (wb way 4) (wk way 2) P
def uW(H:Hm S L P)(way:Int):bS [.lst [.aY S,.aY L,mP P],.int way]=M.ok (.lst [vW S way,vR L way,wR P way]):=by
 have m:=vN [.aY S,.aY L,mP P] way rfl λx hx=>by
  simp only[NB,Pn,or_false] at hx;rcases hx with rfl|rfl|rfl
  .exact .inr ⟨S,rfl,H.ls,λy hy=>(H.s y hy).2⟩
  .exact .inr ⟨L,rfl,H.ll,λy hy=>(H.l y hy).2⟩
  .cases P with
   | none=>exact .inl rfl
   | some Pr=>exact .inr ⟨Pr,rfl,(H.p Pr rfl).1,λy hy=>((H.p Pr rfl).2.1 y hy).2⟩
 rw[m];cases P<;>rfl
def AG(H:Hm S L P)(way:Int):Args (vW S way) (vR L way) (wR P way) (S.map (oa (wk way 0))) (L.map (oa (wk way 1))) (c1 (wk way 2) P):=by
 refine⟨pZ _ _,pZ _ _,?_,λx hx=>?_,λx hx=>?_⟩
 .cases P with
  | none=>exact .inl ⟨rfl,rfl⟩
  | some Pr =>
   obtain⟨a,b,_⟩:=H.p Pr rfl;refine .inr ⟨_,rfl,pZ _ _,CP _ _,by rwa[Nm],λx hx=>?_⟩;obtain⟨y,hy,rfl⟩:=OB.mp hx;exact(oX (b y hy).1 _).1
 .obtain⟨y,hy,rfl⟩:=OB.mp hx;exact(oX (H.s y hy).1 _).1
 .obtain⟨y,hy,rfl⟩:=OB.mp hx;exact DP (H.l y hy).1 (H.l y hy).2 _
def Ca(b:Bool)(P:Option (List PV)):Hg (c1 b P) P:=by
 cases P with
 | none=>trivial
 |some xs=>exact ku b xs
def Fh(way:Int):oc (S.map (oa (wk way 0))) (L.map (oa (wk way 1))) (c1 (wk way 2) P)=oc S L P:=yF (ku _ _) (ku _ _) (Ca _ _)
abbrev vt(S L:List PV)(P:Option (List PV)):PV:=l0 (sN L P) (S.map gT) (L.map λx=>kB (gI x) (S.map gT))
def vb(H:Hm S L P)(way:Int):dH az bf [] [vW S way,vR L way,wR P way]=match oc S L P with|.good=>M.ok (vt S L P)|o=>some (.error (ex o)):=by
 have m:=xB (AG H way);rwa[Fh way,FZ (ku (wk way 1) L) (Ca (wk way 2) P),B_ (ku (wk way 0) S),HR (ku (wk way 1) L) λx=>kB x (S.map gT)] at m
def Ig(H:Hm S L P)(way:Int):Dt 5 (.lst [vW S way,vR L way,wR P way]):=by
 refine .lst λp hp=>?_;simp only[NB,Pn,or_false] at hp;rcases hp with rfl|rfl|rfl
 .exact zx (λp hp=>by obtain⟨y,hy,rfl⟩:=OB.mp hp;exact oX (H.s y hy).1 _) _
 .exact zx (λp hp=>by obtain⟨y,hy,rfl⟩:=OB.mp hp;exact oX (H.l y hy).1.1 _) _
 .cases P with
  | none=>exact⟨⟨_,rfl⟩,.none,rfl,rfl,by decide⟩
  |some Pr=>exact zx (λp hp=>by obtain⟨y,hy,rfl⟩:=OB.mp hp;exact oX ((H.p Pr rfl).2.1 y hy).1 _) _
def xb(H:Hm S L P)(way:Int):xO (.lst [vW S way,vR L way,wR P way]) (.lst [vW S way,vR L way,wR P way])=M.ok (.bl true)/\B3 (.lst [vW S way,vR L way,wR P way]) (.lst [vW S way,vR L way,wR P way])=M.ok (.bl false):=by
 obtain⟨a,b⟩:=xc ↑12 (Ig H way) rfl;exact⟨a,b rfl⟩
def A9(i j:Int):∃b,xO (.int i) (.int j)=M.ok (.bl b):=by
 refine⟨Sf (.int i) (.int j),?_⟩;unfold xO;rw[if_neg (by simp[oh])];show uc _ (.int i) (.int j)=_;unfold uc;rw[au ⟨rfl,rfl⟩]
variable{sc:Option SV}{way:Int}
def A8(H:Hm S L P)(h:oc S L P≠.good):runs [fO,fE,gz,gC,gp] [sc,some (.sh (.aY S)),some (.sh (.aY L)),some (.sh (mP P)),some (.sh (.int way)),some (.sh (wr (oc S L P))),none,none,none]=M.ok (.rt (.bl true)):=by
 have cp:=uW H way;have mk:=vb H way;have rf:cB [.lst [vW S way,vR L way,wR P way],wr (oc S L P)]=M.ok (.bl true):=ur h (by
  rw[mk];generalize oc S L P=o at *;cases o with
  | good=>exact absurd rfl h
  | _=>rfl)
 have nn:dh (wr (oc S L P)) .aJ=M.ok (.bl true):=by
  generalize oc S L P=o at *;cases o with
  | good=>exact absurd rfl h
  | _=>rfl
 have e:=(xb H way).1;unfold fO fE;simp only[runs];dsimp? [cp,goN,nn,rf,e]
def w8(H:Hm S L P)(h:oc S L P=.good):runs [fO,fE,gz,gC,gp] [sc,some (.sh (.aY S)),some (.sh (.aY L)),some (.sh (mP P)),some (.sh (.int way)),some (.sh .aJ),none,none,none]=M.ok (.nx [sc,some (.sh (.aY S)),some (.sh (.aY L)),some (.sh (mP P)),some (.sh (.int way)),some (.sh .aJ),some (.sh (.lst [vW S way,vR L way,wR P way])),some (.sh (vt S L P)),none]):=by
 have cp:=uW H way;have mk:=vb H way;rw[h] at mk
 change _=M.ok (vt S L P) at mk
 have nn:dh .aJ .aJ=M.ok (.bl false):=rfl;have e:=(xb H way).2;have t:=uK (lV h);obtain⟨b,eb⟩:=A9 (way/8%2) 1;unfold fO fE gz gC gp;simp only[runs];cases P with
 | some Pr =>
  have np:f_ (mP (some Pr)) .aJ=M.ok (.bl false):=rfl;dsimp? [cp,goN,nn,Gw,F0,GD,mk,np,e,t]
 | none =>
  have np:f_ (mP none) .aJ=M.ok (.bl true):=rfl;have m2:dH az bf [.aJ] [vW S way,vR L way]=M.ok (vt S L none):=mk;cases b with
  | true=>dsimp? [cp,goN,nn,Gw,F0,GD,mk,np,bj (i:=way) (j:=8) ↑12 ↑12,aw (i:=way/8) (j:=2) ↑12,eb,m2,e,t]
  |false=>dsimp? [cp,goN,nn,Gw,F0,GD,mk,np,bj (i:=way) (j:=8) ↑12 ↑12,aw (i:=way/8) (j:=2) ↑12,eb,m2,e,t]
def pC(xs:List Int):qH (xs.map PV.int)=true:=by
 induction xs with
 | nil=>rfl
 |cons a r ih=>exact ih
def FL:pP (l0 pz JY Ls)=true:=by
 show (qH (JY.map PV.int)&&(qH (Ls.map tI)&&(qH (pz.map PV.int)&&(true&&true))))=true;have:qH (Ls.map tI)=true:=by
  induction Ls with
  | nil=>rfl
  | cons a r ih =>
   show (qH (a.map PV.int)&&qH (r.map tI))=true;rw[pC,ih];rfl
 rw[pC,pC,this];rfl
theorem AR(ns:List Int)(H:Hm S L P):runs [fO,fE,gz,gC,gp] [some (.sh (.aY (ns.map PV.int))),some (.sh (.aY S)),some (.sh (.aY L)),some (.sh (mP P)),some (.sh (.int way)),some (.sh (wr (oc S L P))),none,none,none]=M.ok (.rt (.bl true))\/∃e2,runs [fO,fE,gz,gC,gp] [some (.sh (.aY (ns.map PV.int))),some (.sh (.aY S)),some (.sh (.aY L)),some (.sh (mP P)),some (.sh (.int way)),some (.sh (wr (oc S L P))),none,none,none]=M.ok (.nx e2)/\8<e2.length/\yc lW 8 e2/\runs [lL] (qw e2)=M.ok (.rt (.bl true)):=by
 by_cases h:oc S L P=.good
 .refine .inr ⟨_,by rw[h];exact w8 H h,(by exact Om 8),⟨⟨L.map (oa (wk way 1))++[vW S way,vR L way,wR P way],?_,λp hp=>?_⟩,λp e=>by cases e⟩,?_⟩
  .unfold lW Es;have l:=H.ll;dsimp? [F0,pZ];show bT _ _=_;rw[au (aX (by rw[Nm];show L.length+3<=1000;lia))]
  .rcases OX.mp hp with hp|hp
   .obtain⟨y,hy,rfl⟩:=OB.mp hp;exact F8 (H.l y hy).1.1 _
   .simp only[NB,Pn,or_false] at hp;rcases hp with rfl|rfl|rfl
    .exact y7 _ _
    .exact y7 _ _
    .cases P with
     | none=>rfl
     | some Pr=>exact y7 _ _
  .have t:=uK (lV h);have n0:pP (.aY (ns.map PV.int))=true:=pC ns;have n1:pP (.aY S)=true:=H.ns;have n2:pP (.aY L)=true:=H.nl;have n3:pP (mP P)=true:=by
    cases P with
    | none=>rfl
    | some Pr=>exact(H.p Pr rfl).2.2
   have n4:pP (vt S L P)=true:=FL;have ce:qw [some (.sh (.aY (ns.map PV.int))),some (.sh (.aY S)),some (.sh (.aY L)),some (.sh (mP P)),some (.sh (.int way)),some (.sh .aJ),some (.sh (.lst [vW S way,vR L way,wR P way])),some (.sh (vt S L P)),none]=[some (.sh (.aY (ns.map PV.int))),some (.sh (.aY S)),some (.sh (.aY L)),some (.sh (mP P)),some (.sh (.int way)),some (.sh .aJ),none,some (.sh (vt S L P)),none]:=by
    unfold qw;simp only[NJ,QT,n0,n1,n2,n3,n4,if_true];rfl
   rw[ce];unfold lL;simp only[runs];dsimp? [goN,t]
 .exact .inl (A8 H h)
end
def lN{f:aa->M PV}{inj:α->PV}{rest:aa}{Q:PV->Prop}(xs:List α)(H:∀a∈xs,∃p,f (some (.sh (inj a))::rest)=M.ok p/\Q p):∃ps,cT (c_ 0) none f (xs.map inj) (x0::rest)=M.ok ps/\ps.length=xs.length/\∀p∈ps,Q p:=by
 induction xs generalizing x0 with
 | nil=>exact⟨[],rfl,rfl,λ_ h=>nomatch h⟩
 | cons a r ih =>
  obtain⟨p,e,q⟩:=H a Nt;obtain⟨ps,e2,l,q2⟩:=ih (x0:=some (.sh (inj a))) λc hc=>H c (Nl _ hc);refine⟨p::ps,?_,by simp[l],λx hx=>?_⟩
  .rw[NJ,cT];show M.bind (M.ok ((x0::rest).set 0 (some (.sh (inj a))))) _=_;rw[M.aL,Pc];show M.bind (f _) _=_;rw[e,M.aL,e2];rfl
  .rcases NB.mp hx with rfl|hx
   .exact q
   .exact q2 x hx
theorem p7(ns:List Int)(k:Nat)(hk:k<=100):∃c,bG [.aY (ns.map PV.int),.int (k:Int)]=M.ok (.int c):=by
 suffices z:qe (bG [.aY (ns.map PV.int),.int (k:Int)]) λp=>∃c,p=.int c by
  obtain⟨_,e,c,rfl⟩:=z;exact⟨c,e⟩
 have sq:∀z m:Int,0<m->m<2147483648->cu (.int (z%m)) (.int (z%m))=M.ok (.int (z%m*(z%m))):=λz m h1 h2=>by
  have:=OJ z (show m≠0 by lia);have:=Ol z h1;exact bZ (k:=31) (l:=31) ⋯ ⋯
 unfold bG eN
 by_cases h:(k:Int)<(ns.length:Int)
 .have h':k<ns.length:=by lia
  dsimp? [Nm,h,decide_true,bJ (p:=.aY (ns.map PV.int)) (j:=k) (x:=.int ns[k]) rfl (by rw[NP,Nd h'];rfl)];exact⟨_,rfl,_,rfl⟩
 .have m1:cu (.int 7919) (.int (k:Int))=M.ok (.int (7919*k)):=bZ (k:=31) (l:=31) ↑12 ⋯
  by_cases h0:(0:Int)<ns.length
  .have m2:cu (.int 7) (.int (k:Int))=M.ok (.int (7*k)):=bZ (k:=31) (l:=31) ↑12 ⋯;have j0:=OJ (7*(k:Int)) (show (ns.length:Int)≠0 by lia);have j1:=Ol (7*(k:Int)) h0;obtain⟨j,hj⟩:=Ot j0;have jl:j<ns.length:=by lia
   have ix:aC (.aY (ns.map PV.int)) (.int (j:Int))=M.ok (.int ns[j]):=bJ (j:=j) rfl (by rw[NP,Nd jl];rfl);dsimp? [Nm,h,decide_false,m1,h0,decide_true,m2,aw (i:=7*(k:Int)) (j:=(ns.length:Int)) h0,hj,ix,aw (i:=ns[j]+7919*(k:Int)) (j:=2147483647) ↑12,sq _ 2147483647 ↑12 ↑12,aw (j:=2147483629) ↑12];exact⟨_,rfl,_,rfl⟩
  .have m2:cu (.int (7919*(k:Int)+5)) (.int (7919*(k:Int)+5))=M.ok (.int ((7919*(k:Int)+5)*(7919*(k:Int)+5))):=bZ (k:=31) (l:=31) ⋯ ⋯;dsimp? [Nm,h,decide_false,m1,h0,m2,aw (j:=2147483629) ↑12];exact⟨_,rfl,_,rfl⟩
theorem ip(c:Int)(k:Nat)(hk:k<=200):∃m,bh [.int c,.int (k:Int)]=M.ok (.int m)/\0<=m/\m<2147483587:=by
 suffices z:qe (bh [.int c,.int (k:Int)]) λp=>∃z:Int,p=.int (z%2147483587) by
  obtain⟨_,e,z,rfl⟩:=z;exact⟨_,e,OJ _ (show (2147483587:Int)≠0 by decide),Ol _ (show (0:Int)<2147483587 by decide)⟩
 have sq:∀z m:Int,0<m->m<2147483648->cu (.int (z%m)) (.int (z%m))=M.ok (.int (z%m*(z%m))):=λz m h1 h2=>by
  have:=OJ z (show m≠0 by lia);have:=Ol z h1;exact bZ (k:=31) (l:=31) ⋯ ⋯
 have m1:cu (.int 7919) (.int (k:Int))=M.ok (.int (7919*k)):=bZ (k:=31) (l:=31) ↑12 ⋯;have m2:cu (.int 48271) (.int (k:Int))=M.ok (.int (48271*k)):=bZ (k:=31) (l:=31) ↑12 ⋯;have m3:∀z:Int,cu (.int 7) (.int (z%2147483629))=M.ok (.int (7*(z%2147483629))):=λz=>bZ (k:=31) (l:=31) ↑12 ⋯;unfold bh ed;dsimp? [m1,m2,m3,aw (j:=2147483647) ↑12,aw (j:=2147483629) ↑12,aw (j:=2147483587) ↑12,sq _ 2147483647 ↑12 ↑12,sq _ 2147483629 ↑12 ↑12];exact⟨_,rfl,_,rfl⟩
theorem vz(c:Int)(k:Nat)(hk:k<=100):∃n,cx [.int c,.int (k:Int)]=M.ok (.int n):=by
 obtain⟨m,em,m0,m1⟩:=ip c k ⋯;obtain⟨f,ef,f0,f1⟩:=ip c (k+61) ⋯;rw[show ((k+61:Nat):Int)=(k:Int)+61 by lia] at ef;have p9:sH (.int 10) (.int 9)=M.ok (.int 1000000000):=rfl;have p20:sH (.int 10) (.int 20)=M.ok (.int 100000000000000000000):=rfl;have mm:cu (.int (f%1000000000)) (.int 100000000000000000000)=M.ok (.int (f%1000000000*100000000000000000000)):=bZ (k:=64) (l:=80) ⋯ ↑12;unfold cx el
 by_cases h0:m%3=0
 .exact⟨m/3%9-4,by dsimp? [em,aw (i:=m) (j:=3) ↑12,h0,decide_true,bj (i:=m) (j:=3) ↑12 ↑12,aw (i:=m/3) (j:=9) ↑12]⟩
 by_cases h1:m%3=1
 .exact⟨m/3%720,by dsimp? [em,aw (i:=m) (j:=3) ↑12,h1,(show decide ((1:Int)=0)=false from rfl),decide_true,bj (i:=m) (j:=3) ↑12 ↑12,aw (i:=m/3) (j:=720) ↑12]⟩
 .refine⟨if decide (m/3%2=1)=true then 0-(f%1000000000*100000000000000000000+m) else f%1000000000*100000000000000000000+m,?_⟩;dsimp? [em,aw (i:=m) (j:=3) ↑12,h0,h1,decide_false,ef,p9,p20,aw (i:=f) (j:=1000000000) ↑12,mm,bj (i:=m) (j:=3) ↑12 ↑12,aw (i:=m/3) (j:=2) ↑12];rw[mod2 (m/3),rX];cases decide (m/3%2=1)<;>rfl
def hV(i:Int):Dt 3 (.int i):=⟨⟨_,rfl⟩,.int i,rfl,rfl,NT _⟩
def E4(b:Bool):Dt 3 (.bl b):=⟨⟨_,rfl⟩,.bool b,rfl,rfl,NT _⟩
def ze:Dt 3 .aJ:=⟨⟨_,rfl⟩,.none,rfl,rfl,NT _⟩
def zd{x:Str}(h:(T5 x).canLay0=true):Dt 3 (.str x):=⟨⟨_,rfl⟩,.str x,rfl,h,NT _⟩
def yP(i:Int):Dt 3 (.lst [.int i])/\Dt 3 (.tup [.int i]):=⟨⟨⟨_,rfl⟩,.list [.int i],rfl,rfl,by show 0+1<=3;decide⟩,⟨⟨_,rfl⟩,.tuple [.int i],rfl,rfl,by show 0+1<=3;decide⟩⟩
def uO(h:xs.length<=1000):lstK xs=M.ok (.lst xs):=au (aX h)
theorem Cv(c lo hi:Int)(hl:lo=1\/lo=2):∃p,gv [.int c,.int lo,.int hi]=M.ok p/\Dt 3 p:=by
 have p29:sH (.int 10) (.int 29)=M.ok (.int 100000000000000000000000000000):=rfl;obtain⟨t,et,ht⟩:∃t,y0 [.int lo]=M.ok (.str t)/\(T5 t).canLay0=true:=by
  rcases hl with rfl|rfl
  .exact⟨_,rfl,by decide +kernel⟩
  .exact⟨_,rfl,by decide +kernel⟩
 have k0:=OJ c (show (9:Int)≠0 by decide);have k1:=Ol c (show (0:Int)<9 by decide);obtain⟨k,hk⟩:=Ot k0;have ix:∀ps:List PV,ps.length=9->aC (.lst ps) (.int (k:Int))=M.ok (ps.getD k .aJ):=λps hp=>v9 rfl k ⋯;unfold gv gc;dsimp? [bj (i:=c) (j:=9) ↑12 ↑12,p29,aw (i:=c/9) (j:=100000000000000000000000000000) ↑12,et,aw (i:=c) (j:=9) ↑12,hk];rw[uO (by show 9<=1000;decide),M.aL,ix _ rfl];refine⟨_,rfl,?_⟩;have:∀q∈[PV.int (lo-1),.int (hi+1),.int (lo-1-c/9%100000000000000000000000000000),.int (hi+1+c/9%100000000000000000000000000000),.bl true,.aJ,.str t,.tup [.int lo],.lst [.int lo]],Dt 3 q:=λq hq=>by
  simp only[NB,Pn,or_false] at hq;rcases hq with rfl|rfl|rfl|rfl|rfl|rfl|rfl|rfl|rfl
  .exact hV _
  .exact hV _
  .exact hV _
  .exact hV _
  .exact E4 _
  .exact ze
  .exact zd ht
  .exact(yP _).2
  .exact(yP _).1
 exact this _ (getD_mem (by show k<9;lia))
theorem uz(c:Int)(n:Nat)(h:0<n):∃j,j<n/\c%(n:Int)=(j:Int)/\vA n (c%(n:Int))=some j:=by
 have a:=OJ c (show (n:Int)≠0 by lia);have b:=Ol c (show (0:Int)<n by lia);obtain⟨j,e⟩:=Ot a;refine⟨j,by lia,e,?_⟩;rw[e];unfold vA;rw[if_pos ⋯,if_pos ⋯,NC]
theorem qb(xs:List PV)(c lo hi:Int)(hl:lo=1\/lo=2)(h:∀p∈xs,Dt 3 p)(hx:xs.length<=100):∃ys,cj xs [.int c,.int lo,.int hi]=M.ok ys/\ys.length=xs.length/\∀p∈ys,Dt 3 p:=by
 have ne:=(yY ↑12 h).2;obtain⟨q,eq,hq⟩:=Cv (c/40) lo hi hl;unfold cj AF hW g9 iq
 by_cases h0:xs=[]
 .rw[decide_eq_true h0] at ne;dsimp? [ne];exact⟨xs,rfl,rfl,h⟩
 rw[decide_eq_false h0] at ne;have lp:0<xs.length:=Pu.mpr h0
 by_cases h5:c%5=0
 .obtain⟨j,j1,j2,j3⟩:=uz (c/5) xs.length lp;dsimp? [ne,aw (i:=c) (j:=5) ↑12,h5,decide_true,bj (i:=c) (j:=40) ↑12 ↑12,eq,bj (i:=c) (j:=5) ↑12 ↑12,aw (i:=c/5) (j:=(xs.length:Int)) ⋯,EU,j3];refine⟨xs.set j q,rfl,OZ,λp hp=>?_⟩;rcases Q9 hp with hp|rfl
  .exact h p hp
  .exact hq
 .dsimp? [ne,aw (i:=c) (j:=5) ↑12,h5,decide_false];exact⟨xs,rfl,rfl,h⟩
def pI(h:∀p∈xs,∃i,p=.int i)(hl:xs.length<=100):DR (.lst xs):=by
 have d:∀p∈xs,Dt 2 p:=λp hp=>by
  obtain⟨i,rfl⟩:=h p hp;exact⟨⟨_,rfl⟩,.int i,rfl,rfl,NT _⟩
 exact⟨.lst d,λys e=>by cases e;exact⟨hl,λx hx=>(d x hx).mono ↑12⟩⟩
def zy(h:Dt 2 p)(n:Nat)(hn:n<=100):DR (.lst (Ni n p)):=by
 have d:∀q∈Ni n p,Dt 2 q:=λq hq=>by
  rwa[(Sg.mp hq).2]
 exact⟨.lst d,λys e=>by cases e;exact⟨by rwa[Qj],λx hx=>(d x hx).mono ↑12⟩⟩
def pU(h:Dt 3 p)(n:aS p=none):DR p:=⟨h,λxs e=>by rw[n] at e;cases e⟩
def Ge(a b c:Int):aC (.lst [.int a,.int b]) (.int (c%2))=M.ok (.int (if c%2=1 then b else a)):=by
 rw[mod2 c,rX]
 by_cases h:c%2=1
 .rw[decide_eq_true h,if_pos rfl];simp[bI]
 .rw[decide_eq_false h,if_neg ↑13];simp[bI]
theorem B4(a b c:Int)(n:Nat)(ha:0<=a/\a<=n)(hb:0<=b/\b<=n):∃m:Nat,aC (.lst [.int a,.int b]) (.int (c%2))=M.ok (.int (m:Int))/\m<=n:=by
 rw[Ge]
 by_cases h:c%2=1
 .rw[if_pos h];exact⟨b.toNat,by rw[QM hb.1],by lia⟩
 .rw[if_neg h];exact⟨a.toNat,by rw[QM ha.1],by lia⟩
def lR{i m:Nat}{J8:List PV->List PV->M (List PV)}{fs:aa->M (List PV)}{env:aa}{ps:List PV}(h1:ownAt i env=M.ok xs)(h2:fs env=M.ok ps)(h3:ps.length=m)(h4:J8 xs ps=M.ok ys):t_ i m J8 fs env=M.ok (.nx (env.set i (some (.ow ys)))):=by
 unfold t_;rw[h1,M.aL,h2,M.aL,au h3,h4];rfl
def IL(n:Nat)(p:PV):Prop:=∃xs,p=.lst xs/\xs.length=n/\∀q∈xs,∃i,q=.int i
def qe.jZ{a b:aa->M Out}{env:aa}{R:PV->Prop}(J:aa->Prop)(h:∃J0,a env=M.ok (.nx J0)/\J J0)(k:∀J0,J J0->qe ((b J0).bind v5) R):qe ((ar a b env).bind v5) R:=by
 obtain⟨J0,e,j⟩:=h;rw[ar,e];exact k J0 j
def pH{a b:List PV}(h:a.length+b.length<=1000):dc (.lst a) (.lst b)=M.ok (.lst (a++b)):=by
 show bT _ _=_;rw[au (aX h)]
def uo(xs:List PV):Hv (.lst xs) (some 1) none=M.ok (.lst (iG xs (some 1) none)):=rfl
def u9{lo hi:Option Int}(h:p∈iG xs lo hi):p∈xs:=List.mem_of_mem_drop (List.mem_of_mem_take h)
theorem uL(xs:List PV)(lo hi:Option Int):(iG xs lo hi).length<=xs.length:=by
 unfold iG;rw[Ql,Rm];lia
theorem IL.dr(h:IL n p)(hn:n<=99):DR p:=by
 obtain⟨xs,rfl,l,q⟩:=h;exact pI q ⋯
theorem vF(ns:List Int):qe (eA [.aY (ns.map PV.int)]) λp=>∃S L P,p=.lst [.lst S,.lst L,oP P]/\Hd S L P:=by
 obtain⟨cs,ec,lc,qc⟩:=lN (Q:=λp=>∃m:Int,p=.int m/\0<=m) (f:=ai bh (ae (ai bG (ae (af 1) (ae (af 0) aj))) (ae (af 0) aj))) (inj:=λ(i:Nat)=>PV.int (i:Int)) (rest:=[some (.sh (.aY (ns.map PV.int)))]) (x0:=none) (ND 8) (λk hk=>by
  have hk:=NR.mp hk;obtain⟨c,e1⟩:=p7 ns k ⋯;obtain⟨m,e2,e3,_⟩:=ip c k ⋯;exact⟨.int m,by dsimp? [e1,e2],m,rfl,e3⟩)
 rw[Of] at lc;have Mh:∀(j:Nat)(i:Int),i=(j:Int)->j<8->∃c,aC (.lst cs) (.int i)=M.ok (.int c)/\0<=c:=λj i e hj=>by
  subst e;have ix:=v9 (p:=.lst cs) rfl j ⋯;obtain⟨m,e,h⟩:=qc _ (getD_mem (S:=cs) (k:=j) ⋯);rw[e] at ix;exact⟨m,ix,h⟩
 obtain⟨c0,e0,h0⟩:=Mh 0 0 rfl ↑12;obtain⟨c1,e1,h1⟩:=Mh 1 1 rfl ↑12;obtain⟨c2,e2,h2⟩:=Mh 2 2 rfl ↑12;obtain⟨c3,e3,h3⟩:=Mh 3 3 rfl ↑12;obtain⟨c4,e4,h4⟩:=Mh 4 4 rfl ↑12;obtain⟨c5,e5,h5⟩:=Mh 5 5 rfl ↑12;obtain⟨c6,e6,h6⟩:=Mh 6 6 rfl ↑12;obtain⟨c7,e7,h7⟩:=Mh 7 7 rfl ↑12;obtain⟨n0,en0,bn0⟩:=B4 (c0%9) (1+c0%6) c1 8 ⋯ ⋯;obtain⟨n3,en3,JC⟩:=B4 (c3%11) (c3%9) (c1/2) 10 ⋯ ⋯;obtain⟨S0,eS,lS,qS⟩:=lN (Q:=λp=>Dt 3 p) (f:=ah dc (λ_=>M.ok (.int 2)) (ah bN (ai bh (ae (ah aC (af 1) (λ_=>M.ok (.int 0))) (ae (af 0) aj))) (λ_=>M.ok (.int 359)))) (inj:=λ(i:Nat)=>PV.int (i:Int)) (rest:=[some (.sh (.lst cs))]) (x0:=none) (ND n0) (λk hk=>by
  have hk:=NR.mp hk;obtain⟨m,e2,e3,_⟩:=ip c0 k ⋯;exact⟨.int (2+m%359),by dsimp? [e0,e2,aw (i:=m) (j:=359) ↑12],hV _⟩)
 rw[Of] at lS;obtain⟨S1,p1,lS1,qS1⟩:=qb S0 c2 2 360 (.inr rfl) qS ⋯;obtain⟨m2,em2,_,_⟩:=ip c2 2 ↑12;rw[show ((2:Nat):Int)=2 from rfl] at em2;obtain⟨S2,p2,lS2,qS2⟩:=qb S1 m2 2 360 (.inr rfl) qS1 ⋯;have start:eA [.aY (ns.map PV.int)]=(cO [some (.sh (.aY (ns.map PV.int))),none,none,none,none,none,none,none]).bind v5:=rfl;rw[start];unfold cO;have r8:iE [.int 8]=M.ok ((ND 8).map λ(i:Nat)=>.int (i:Int)):=cF (n:=8) ↑12 ↑12;refine qe.jZ (J:=λenv=>env=[some (.sh (.aY (ns.map PV.int))),some (.sh (.lst cs)),none,none,none,none,none,none]) ?_ λenv hj=>?_
 .refine⟨_,?_,rfl⟩;dsimp? [r8,Nm,Of,au (aX (show 8<=1000 by decide)),ec]
 subst hj;refine qe.jZ (J:=λenv=>env=[some (.sh (.aY (ns.map PV.int))),some (.sh (.lst cs)),some (.ow S0),none,none,none,none,none]) ?_ λenv hj=>?_
 .refine⟨_,?_,rfl⟩;dsimp? [e0,e1,aw (i:=c0) (j:=9) ↑12,aw (i:=c0) (j:=6) ↑12,aw (i:=c1) (j:=2) ↑12,en0,cF (n:=(n0:Int)) ⋯ ⋯,NC,Nm,Of,au (aX (show n0<=1000 by lia)),eS]
 subst hj;refine qe.jZ (J:=λenv=>env=[some (.sh (.aY (ns.map PV.int))),some (.sh (.lst cs)),some (.ow S1),none,none,none,none,none]) ⟨_,lR (xs:=S0) (ps:=[.int c2,.int 2,.int 360]) rfl (by dsimp? [e2]) rfl p1,rfl⟩ λenv hj=>?_;subst hj;refine qe.jZ (J:=λenv=>env=[some (.sh (.aY (ns.map PV.int))),some (.sh (.lst cs)),some (.ow S2),none,none,none,none,none]) ⟨_,lR (xs:=S1) (ps:=[.int m2,.int 2,.int 360]) rfl (by dsimp? [e2,em2]) rfl p2,rfl⟩ λenv hj=>?_;subst hj;refine qe.jZ (J:=λenv=>env=[some (.sh (.aY (ns.map PV.int))),some (.sh (.lst cs)),some (.ow S2),some (.ow []),none,none,none,none]) ⟨_,by dsimp? [kJ],rfl⟩ λenv hj=>?_;subst hj;refine qe.jZ (J:=λenv=>∃(L:List PV)(s2 y4:Option SV),env=[some (.sh (.aY (ns.map PV.int))),some (.sh (.lst cs)),s2,some (.ow L),y4,none,none,none]/\(s2=some (.ow S2)\/s2=some (.sh (.lst S2)))/\(∀p∈L,IL S2.length p)/\L.length<=10) ?_ λenv hj=>?_
 .dsimp? [e3,e1,aw (i:=c3) (j:=11) ↑12,aw (i:=c3) (j:=9) ↑12,bj (i:=c1) (j:=2) ↑12 ↑12,aw (i:=c1/2) (j:=2) ↑12,en3,cF (n:=(n3:Int)) ⋯ ⋯,NC];refine Exists.elim (mh (set:=c_ 4) (inj:=λ(i:Nat)=>PV.int (i:Int)) (body:=(ar (lY [2] (qk 3 (fZ (dq (oN iE (ae (ai cy (ae (af 2) aj)) aj)) (c_ 0) none (ai cx (ae (ai bG (ae (af 1) (ae (ah dc (λ_=>M.ok (.int 8)) (af 2)) aj))) (ae (af 0) aj))) 1 [0,4])))) ao)) (λ(zs:List Nat) env=>∃(L:List PV)(s2 y4:Option SV),env=[some (.sh (.aY (ns.map PV.int))),some (.sh (.lst cs)),s2,some (.ow L),y4,none,none,none]/\(s2=some (.ow S2)\/s2=some (.sh (.lst S2)))/\(∀p∈L,IL S2.length p)/\L.length+zs.length<=10/\∀i∈zs,i<11) ?_ (ND n3) _ ⟨[],some (.ow S2),none,rfl,.inl rfl,(λ_ h=>nomatch h),by simp;lia,λi hi=>by have:=NR.mp hi;lia⟩) λJ0 he=>?_
  .rintro j r env ⟨L,s2,y4,rfl,KQ,hL,hl,hi⟩;have j11:=hi j Nt;rw[N_] at hl;obtain⟨cc,ecc⟩:=p7 ns (8+j) ⋯;rw[show ((8+j:Nat):Int)=8+(j:Int) by lia] at ecc;obtain⟨row,er,lr,qr⟩:=lN (Q:=λp=>∃i:Int,p=.int i) (f:=ai cx (ae (ai bG (ae (af 1) (ae (ah dc (λ_=>M.ok (.int 8)) (af 2)) aj))) (ae (af 0) aj))) (inj:=λ(i:Nat)=>PV.int (i:Int)) (rest:=[some (.sh (.aY (ns.map PV.int))),some (.sh (.int (j:Int)))]) (x0:=none) (ND S2.length) (λk hk=>by
    have hk:=NR.mp hk;obtain⟨n,en⟩:=vz cc k ⋯;exact⟨.int n,by dsimp? [ecc,en],n,rfl⟩)
   rw[Of] at lr;have hk:L.length<1000:=by lia
   refine⟨_,[some (.sh (.aY (ns.map PV.int))),some (.sh (.lst cs)),some (.sh (.lst S2)),some (.ow (L++[.lst row])),some (.sh (.int (j:Int))),none,none,none],rfl,?_,L++[.lst row],_,_,rfl,.inr rfl,λp hp=>?_,by rw[NG];simp;lia,λi h=>hi i (Nl _ h)⟩
   .rcases KQ with rfl|rfl
    .dsimp? [cF (n:=(S2.length:Int)) ⋯ ⋯,NC,Nm,Of,au (aX (show S2.length<=1000 by lia)),er,jF,ownAt,jQ hk]
    .dsimp? [cF (n:=(S2.length:Int)) ⋯ ⋯,NC,Nm,Of,au (aX (show S2.length<=1000 by lia)),er,jF,ownAt,jQ hk]
   .rcases OX.mp hp with hp|hp
    .exact hL p hp
    .rw[N3.mp hp];exact⟨row,rfl,lr,qr⟩
  .obtain⟨e,j⟩:=he;obtain⟨L,s2,y4,rfl,a,b,c,_⟩:=j;exact⟨_,e,L,s2,y4,rfl,a,b,by simpa using c⟩
 obtain⟨L,s2,y4,rfl,KQ,hL,hl⟩:=hj;refine qe.jZ (J:=λenv=>∃(L:List PV)(s2 y4 y5 y6:Option SV),env=[some (.sh (.aY (ns.map PV.int))),some (.sh (.lst cs)),s2,some (.ow L),y4,y5,y6,none]/\(s2=some (.ow S2)\/s2=some (.sh (.lst S2)))/\(∀p∈L,DR p)/\L.length<=10) ?_ λenv hj=>?_
 .have hD:∀p∈L,DR p:=λp hp=>(hL p hp).dr ⋯;have ne:=(yY ↑12 λp hp=>(hD p hp).1).2;have bt:∀b:Bool,w5 (M.ok b)=M.ok b:=λ_=>rfl
  by_cases hn:L=[]
  .rw[decide_eq_true hn] at ne;dsimp? [oB,ownAt,ne,bt];exact⟨_,rfl,L,s2,y4,_,_,rfl,KQ,hD,hl⟩
  rw[decide_eq_false hn] at ne
  by_cases h44:c4%4=0
  .obtain⟨j,j1,j2,j3⟩:=uz (c4/4) L.length (Pu.mpr hn);have oxj:aC (.lst L) (.int (c4/4%(L.length:Int)))=M.ok (L.getD j .aJ):=by rw[j2];exact v9 rfl j j1
   obtain⟨row,erow,lrow,Mx⟩:=hL _ (getD_mem (S:=L) (k:=j) j1);rw[erow] at oxj;have b1:∀i:Int,xJ (M.ok (.int i))=M.ok (.int i):=λi=>NL rfl rfl;have dro:DR (.lst row):=pI Mx ⋯;have i1:Cn (.int 1)=M.ok (some 1):=rfl;obtain⟨JZ,hits⟩:∃JZ:List PV,JZ=[.lst (iG row (some 1) none),.lst (row++[.int 0]),.aJ,.str "0 0",.int 7,.lst (Ni S2.length (.bl true)),.lst row,.lst (Ni S2.length .aJ)]:=⟨_,rfl⟩
   have hit:∀p∈JZ,DR p:=λp hp=>by
    rw[hits] at hp;simp only[NB,Pn,or_false] at hp;rcases hp with rfl|rfl|rfl|rfl|rfl|rfl|rfl|rfl
    .exact pI (λq hq=>Mx q (u9 hq)) (NZ (uL row _ _) ⋯)
    .exact pI (λq hq=>by
      rcases OX.mp hq with hq|hq
      .exact Mx q hq
      .exact⟨0,N3.mp hq⟩) (by rw[NG];show row.length+1<=100;lia)
    .exact pU ze rfl
    .exact pU (zd (by decide +kernel)) rfl
    .exact pU (hV 7) rfl
    .exact zy ⟨⟨_,rfl⟩,.bool true,rfl,rfl,NT _⟩ _ ⋯
    .exact dro
    .exact zy ⟨⟨_,rfl⟩,.none,rfl,rfl,NT _⟩ _ ⋯
   have k0:=OJ (c4/40) (show (8:Int)≠0 by decide);have k1:=Ol (c4/40) (show (0:Int)<8 by decide);obtain⟨k,hk⟩:=Ot k0;have ixk:aC (.lst JZ) (.int (c4/40%8))=M.ok (JZ.getD k .aJ):=by rw[hk];exact v9 rfl k (by rw[hits];show k<8;lia)
   have lk8:lstK JZ=M.ok (.lst JZ):=uO (by rw[hits];show 8<=1000;decide);have lk8:lstK [.lst (iG row (some 1) none),.lst (row++[.int 0]),.aJ,.str "0 0",.int 7,.lst (Ni S2.length (.bl true)),.lst row,.lst (Ni S2.length .aJ)]=M.ok (.lst JZ):=by rwa[<- hits]
   refine⟨[some (.sh (.aY (ns.map PV.int))),some (.sh (.lst cs)),some (.sh (.lst S2)),some (.ow (L.set j (JZ.getD k .aJ))),y4,some (.sh (.int (c4/4%(L.length:Int)))),some (.sh (.lst JZ)),none],?_,L.set j (JZ.getD k .aJ),_,_,_,_,rfl,.inr rfl,λp hp=>?_,by rwa[OZ]⟩
   .rcases KQ with rfl|rfl
    .dsimp? [oB,ve,ownAt,ne,bt,e4,aw (i:=c4) (j:=4) ↑12,h44,decide_true,bj (i:=c4) (j:=4) ↑12 ↑12,b1,aw (i:=c4/4) (j:=(L.length:Int)) ⋯,EH,oxj,km,j5,vO,i1,uo,pH (a:=row) (b:=[.int 0]) (by show row.length+1<=1000;lia),ir (.bl true) S2.length ⋯,ir .aJ S2.length ⋯,lk8,Gk,bj (i:=c4) (j:=40) ↑12 ↑12,aw (i:=c4/40) (j:=8) ↑12,ixk,zK,j3]
    .dsimp? [oB,ve,ownAt,ne,bt,e4,aw (i:=c4) (j:=4) ↑12,h44,decide_true,bj (i:=c4) (j:=4) ↑12 ↑12,b1,aw (i:=c4/4) (j:=(L.length:Int)) ⋯,EH,oxj,km,j5,vO,i1,uo,pH (a:=row) (b:=[.int 0]) (by show row.length+1<=1000;lia),ir (.bl true) S2.length ⋯,ir .aJ S2.length ⋯,lk8,Gk,bj (i:=c4) (j:=40) ↑12 ↑12,aw (i:=c4/40) (j:=8) ↑12,ixk,zK,j3]
   .rcases Q9 hp with hp|rfl
    .exact hD p hp
    .exact hit _ (getD_mem (by rw[hits];show k<8;lia))
  .dsimp? [oB,ownAt,ne,bt,e4,aw (i:=c4) (j:=4) ↑12,h44,decide_false];exact⟨_,rfl,L,s2,y4,_,_,rfl,KQ,hD,hl⟩
 clear hL hl KQ L s2 y4;obtain⟨L,s2,y4,y5,y6,rfl,KQ,hL,hl⟩:=hj;obtain⟨P0,eP,lP,qP⟩:=lN (Q:=λp=>Dt 3 p) (f:=ah dc (λ_=>M.ok (.int 1)) (ah bN (ai bh (ae (ah aC (af 1) (λ_=>M.ok (.int 5))) (ae (af 0) aj))) (λ_=>M.ok (.int 1000)))) (inj:=λ(i:Nat)=>PV.int (i:Int)) (rest:=[some (.sh (.lst cs))]) (x0:=none) (ND L.length) (λk hk=>by
  have hk:=NR.mp hk;obtain⟨m,e2,e3,_⟩:=ip c5 k ⋯;exact⟨.int (1+m%1000),by dsimp? [e5,e2,aw (i:=m) (j:=1000) ↑12],hV _⟩)
 rw[Of] at lP;obtain⟨P1,q1,lP1,qP1⟩:=qb P0 c6 1 1000 (.inl rfl) qP ⋯;obtain⟨m6,em6,_,_⟩:=ip c6 2 ↑12;rw[show ((2:Nat):Int)=2 from rfl] at em6;obtain⟨P2,q2,lP2,qP2⟩:=qb P1 m6 1 1000 (.inl rfl) qP1 ⋯;refine qe.jZ (J:=λenv=>env=[some (.sh (.aY (ns.map PV.int))),some (.sh (.lst cs)),s2,some (.sh (.lst L)),y4,y5,y6,some (.ow P0)]) ?_ λenv hj=>?_
 .refine⟨_,?_,rfl⟩;dsimp? [cF (n:=(L.length:Int)) ⋯ ⋯,NC,Nm,Of,au (aX (show L.length<=1000 by lia)),eP]
 subst hj;refine qe.jZ (J:=λenv=>env=[some (.sh (.aY (ns.map PV.int))),some (.sh (.lst cs)),s2,some (.sh (.lst L)),y4,y5,y6,some (.ow P1)]) ⟨_,lR (xs:=P0) (ps:=[.int c6,.int 1,.int 1000]) rfl (by dsimp? [e6]) rfl q1,rfl⟩ λenv hj=>?_;subst hj;refine qe.jZ (J:=λenv=>env=[some (.sh (.aY (ns.map PV.int))),some (.sh (.lst cs)),s2,some (.sh (.lst L)),y4,y5,y6,some (.ow P2)]) ⟨_,lR (xs:=P1) (ps:=[.int m6,.int 1,.int 1000]) rfl (by dsimp? [e6,em6]) rfl q2,rfl⟩ λenv hj=>?_;subst hj;refine qe.jZ (J:=λenv=>∃(P:List PV)(s7:Option SV),env=[some (.sh (.aY (ns.map PV.int))),some (.sh (.lst cs)),s2,some (.sh (.lst L)),y4,y5,y6,s7]/\(s7=some (.ow P)\/s7=some (.sh (.lst P)))/\P.length<=100/\∀p∈P,Dt 3 p) ?_ λenv hj=>?_
 .by_cases h50:c7%5=0
  .have i1:Cn (.int 1)=M.ok (some 1):=rfl;have ad:=pH (a:=P2) (b:=[.int 5]) (by show P2.length+1<=1000;lia);have pk:aC (.lst [.lst (P2++[.int 5]),.lst (iG P2 (some 1) none)]) (.int (c7/5%2))=M.ok (.lst (if decide (c7/5%2=1)=true then iG P2 (some 1) none else P2++[.int 5])):=by
    rw[mod2 (c7/5),rX,<- mod2 (c7/5)];cases decide (c7/5%2=1)<;>rfl
   dsimp? [e7,aw (i:=c7) (j:=5) ↑12,h50,decide_true,km,j5,vO,i1,uo,ad,bj (i:=c7) (j:=5) ↑12 ↑12,aw (i:=c7/5) (j:=2) ↑12,pk];refine⟨_,rfl,_,_,rfl,.inr rfl,?_,λp hp=>?_⟩
   .cases decide (c7/5%2=1)
    .show (P2++[PV.int 5]).length<=100;rw[NG];show P2.length+1<=100;lia
    .exact NZ (uL P2 _ _) ⋯
   .revert hp;cases decide (c7/5%2=1)
    .intro hp;rcases OX.mp (show p∈P2++[PV.int 5] from hp) with hp|hp
     .exact qP2 p hp
     .rw[N3.mp hp];exact hV 5
    .exact λhp=>qP2 p (u9 hp)
  .dsimp? [e7,aw (i:=c7) (j:=5) ↑12,h50,decide_false];exact⟨_,rfl,P2,_,rfl,.inl rfl,by lia,qP2⟩
 obtain⟨P,s7,rfl,hs7,lP7,qP7⟩:=hj;have dl:∀p∈L,Dt 3 p/\∀xs,aS p=some xs->xs.length<=100/\∀x∈xs,Dt 3 x:=hL;have fin:∀(Q:Option (List PV)),(∀Pr,Q=some Pr->Pr.length<=100/\∀p∈Pr,Dt 3 p)->Hd S2 L Q:=λQ hQ=>⟨qS2,dl,hQ,by lia,by lia⟩
 by_cases h51:c7%5=1
 .have f:=fin none (λ_ e=>nomatch e);refine qe.jZ (J:=λenv=>env=[some (.sh (.aY (ns.map PV.int))),some (.sh (.lst cs)),s2,some (.sh (.lst L)),y4,y5,y6,some (.sh .aJ)]) ⟨_,by dsimp? [e7,aw (i:=c7) (j:=5) ↑12,h51,decide_true],rfl⟩ λenv hj=>?_;subst hj;rcases KQ with rfl|rfl
  .dsimp? [];exact⟨_,rfl,S2,L,none,rfl,f⟩
  .dsimp? [];exact⟨_,rfl,S2,L,none,rfl,f⟩
 .have f:=fin (some P) (λPr e=>by cases e;exact⟨lP7,qP7⟩);refine qe.jZ (J:=λenv=>env=[some (.sh (.aY (ns.map PV.int))),some (.sh (.lst cs)),s2,some (.sh (.lst L)),y4,y5,y6,s7]) ⟨_,by dsimp? [e7,aw (i:=c7) (j:=5) ↑12,h51,decide_false],rfl⟩ λenv hj=>?_;subst hj;rcases KQ with rfl|rfl
  .rcases hs7 with rfl|rfl
   .dsimp? [];exact⟨_,rfl,S2,L,some P,rfl,f⟩
   .dsimp? [];exact⟨_,rfl,S2,L,some P,rfl,f⟩
  .rcases hs7 with rfl|rfl
   .dsimp? [];exact⟨_,rfl,S2,L,some P,rfl,f⟩
   .dsimp? [];exact⟨_,rfl,S2,L,some P,rfl,f⟩
def DU(ns:List Int):ma (eM 9 [.aY (ns.map PV.int)]):=by
 obtain⟨_,eh,S,L,P,rfl,hd⟩:=vF ns;obtain⟨c,ec⟩:=p7 ns 20 ↑12;obtain⟨way,ew,_,_⟩:=ip c 3 ↑12;rw[show ((20:Nat):Int)=20 from rfl] at ec;rw[show ((3:Nat):Int)=3 from rfl] at ew;have du:=C6 hd;obtain⟨T,U,Q,t1,t2,t3,hm,oe⟩:=mark hd;refine⟨[some (.sh (.aY (ns.map PV.int))),some (.sh (.lst S)),some (.sh (.lst L)),some (.sh (oP P)),some (.sh (.int way)),some (.sh (wr (oc S L P))),none,none,none],?_,?_⟩
 .have st:∀a b d:PV,DZ [1,2,3] (.lst [a,b,d]) [some (.sh (.aY (ns.map PV.int))),none,none,none,none,none,none,none,none]=M.ok [some (.sh (.aY (ns.map PV.int))),some (.sh a),some (.sh b),some (.sh d),none,none,none,none,none]:=λa b d=>by
   show bT _ _=_;rw[au (show [a,b,d].length=[1,2,3].length from rfl)];rfl
  have e0:eM 9 [.aY (ns.map PV.int)]=[some (.sh (.aY (ns.map PV.int))),none,none,none,none,none,none,none,none]:=rfl;rw[e0];unfold pW qi pD;simp only[runs,C7];dsimp? [eh,st,goN,ec,ew,du]
 .have s0:fk (.aY (ns.map PV.int))=some (.aY (ns.map PV.int)):=by
   have:∀xs:List Int,cz (xs.map PV.int)=some (xs.map PV.int):=λxs=>by
    induction xs with
    | nil=>rfl
    | cons a r ih =>
     show (fk (.int a)).bind (λq=>(cz (r.map PV.int)).map (q::·))=_;rw[ih];rfl
   show (cz _).map _=_;rw[this];rfl
  have s5:fk (wr (oc S L P))=some (wr (oc S L P)):=by
   cases oc S L P<;>rfl
  have se:pv [some (.sh (.aY (ns.map PV.int))),some (.sh (.lst S)),some (.sh (.lst L)),some (.sh (oP P)),some (.sh (.int way)),some (.sh (wr (oc S L P))),none,none,none]=[some (.sh (.aY (ns.map PV.int))),some (.sh (.aY T)),some (.sh (.aY U)),some (.sh (mP Q)),some (.sh (.int way)),some (.sh (wr (oc T U Q))),none,none,none]:=by
   rw[oe];unfold pv;simp only[NJ,QT,s0,t1,t2,t3,s5,Option.map_some];rfl
  rw[se];exact AR ns hm
end sJ
theorem PySem.Challenge.cw_dialvault_k11_vaults_taken_and_refused_holds : PySem.Challenge.rw_dialvault_k11_vaults_taken_and_refused.Holds :=
  sJ.hold HD.said λns _ _ => sJ.DU ns
end