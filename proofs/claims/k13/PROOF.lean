import PyProof.Rows.All
import Wide.All
import OpenK.AllK
import Wide.FinOn
import Lean
import PyProof.EqAt
import PyProof.EqKinds
import PyProof.TupleCall
import PySem.Challenge.RW_dialvault_k13_kept_and_turned
set_option compiler.extract_closed false
set_option compiler.reuse false
set_option compiler.small 0
set_option Elab.async false
set_option linter.all false
set_option maxRecDepth 100000
set_option maxHeartbeats 0
open PySem renaming wpAny_bind->LH,wpAny_pure->LM,wpAny_field->Ml,wpAny_callSpecial?_slot->MN,wpAny_Call_Name_kw->MQ,wpAny_mono->MS,wpAny_truthy_bool->M1,wpAny_newObj_type->M3,mem_of_lookup->M7,wpAny_holding->Nb,wpAny_call_entry->Np,wpAny_seqItems->Nt,wpAny_setField_rec->Nv,wpAny_passesOwn->NB,wpAny_pyIter_tuple->NQ,call_meets->NY,codeAny_mono->N3,wpAny_execs_nil->Od,wpAny_call->Oh,wpAny_loadPart->Ot,wpAny_pyIter_enum->OA,wpAny_setField->OB,plainObj_wpAny_Assign_Attribute->OF,wpAny_standAt->OM,wpAny_attempt->ON,wpAny_updateSeq_pair->OV,wpAny_loadPart'->O1,wpAny_newFunctionEnv_cells->Pd,wpAny_letOwnedTupleGo_enum->Ph,wpAny_binaryOp_repeat_ref->Pu,wpAny_pyIter_list->Py,wpAny_loadPart_at->Pz,wpAny_onRaise->PC,noFill_tuple_add->PJ,typeIs_int->P5,wpAny_ite_false->Qf,codeAny_call_function->Qi,codeAny_handlers_test->Qk,wpAny_newFunctionEnv->Qp,codeAny_call_builtin->Qq,wpAny_handleBy_cons->QC,seq_tuple_add->QD,wpAny_rule->QU,Within->Q4,wpAny_assign_Name->Q5,concat_meets->Rh,wpAny_sequenceKey->Ri,wpAny_typeOf->Rj,seqIndex_neg->Rk,slot_list_getitem->Rl,seqSlot_of->RD,seqIndex_of->RJ,wpAny_letGo->RK,wpAny_Name->RY
open PySem.W renaming Frag->LI,kitOne->L6,keepIn->Mi,findIn->Ms,CodeHd->MD,kia_one->MF,fnOf->MM,emptyDict->MT,codeIn->Nf,instObj->Ni,InstAt->Nr,callWith_K->Nx,clsIn->NH,any_some->NK,kla_fn->NN,typeIn->NV,looks_findIn->NW,isFn->N2,envX->N5,Looks->Ob,takerIn->Oe,lookIn->Oo,hasDictIn->Oq,specialIn->Ou,kitx_list->Ov,kitx_dict->Ow,cellsFrom_some->Ox,exmOne->OC,tabObj->OD,plainGet->OH,excIn->OP,tabIn->OQ,takesIn->OY,findObj->O0,plainGet_of->O6,looks_clsIn->O7,looks_mroIn->O8,kitAny->Pj,noTabs->Pp,methodObj->Pw,mroIn->PB,nsIn->P6,findObj_own->Qy,kitx_float->QN,kitx_tuple->QO,codeRec_of->QS,check_slot->QV,looks_find->QW,isNs_of_in->QY,tail_of_in->QZ,plainOver->Q6,set_plain->Q7,kitx_none->Ra,kitx_bool->Rb,handedIn->Rt,kitx_int->Ru,kitx_str->Rv,kitx_own->Rw,makesIn->RO,bind_fn->RP,exm_one->RV,mg_of->R7,KitX->Sf
open PySem.Heap renaming get?_push_of_some->LJ,lt_size->LN,get?_push_size->LV,get?_update_other->MI,size_push->MJ,get?_update_self->M8,get?_none_of_le->Nd,SameBut->Om
open List renaming length_map->LK,getElem?_eq_getElem->LL,replicate->LO,mem_cons_of_mem->LQ,size_toArray->LW,range->LZ,mem_cons_self->L4,mem_cons->L5,getElem?_map->L_,getD_eq_getElem?_getD->Mc,all_eq_true->Me,map_cons->Mg,getElem?_append_right->Mj,length_range->Mn,length_append->Mp,getElem?_append_left->Mr,mem_append_right->Mv,getElem_mem->Mz,mem_range->MA,lookup_cons->MG,getElem?_eq_some_iff->MH,append_nil->MK,replicate_succ->ML,of_mem_zip->MW,length_zip->MX,getElem?_replicate->MY,flatten_cons->M4,getElem?_set->M5,mem_map->M6,length_cons->M9,mem_singleton->Na,map_map->Nc,getElem_zip->Nq,length_mapIdx->Ny,mem_nil_iff->NL,getElem_map->NO,set_cons_zero->NR,filter_eq_nil_iff->NS,mem_append->NT,lookup->NX,mem_iff_getElem->N1,zipWith->N4,drop_eq_getElem_cons->N7,nodup_cons->Of,length_replicate->OG,length_take->OI,not_mem_nil->OL,mem_append_left->OR,getElem?_set_ne->OS,mem_of_getElem?->OT,length_set->OZ,filterMap_cons->O4,length_zipWith->O9,map_nil->Pb,foldl->Pg,fst_mem_of_mem_zipIdx->Pr,append_assoc->Px,length_drop->PK,getElem?_cons_succ->PR,ext_getElem->PX,length_eq_zero_iff->PY,getElem?_set_self->P0,drop_eq_nil_of_le->P7,map_append->Qh,getElem?_zipWith->Qj,getElem?_mapIdx->Qs,all_cons->QF,mem_filterMap->QK,getElem_range->Q3,zipIdx_cons->RB,length_tail->RE,map_zipWith->RH,mem_filter->RN,nil_append->RQ,zipIdx_nil->RT,forIn_cons->RU,forIn_nil->RZ,sum_cons->Sa,all_map->Sg,map_id'->Sh
open Option renaming map_eq_some_iff->LP,bind_eq_some_iff->Ng,isSome_iff_exists->NF,getD_some->PM,getD_none->Ry,bind_some->RC
open Nat renaming le_refl->LR,lt_of_lt_of_le->LU,ne_of_lt->L7,le_trans->MB,zero_le->MP,lt_succ_self->M_,lt_irrefl->Nl,ne_of_gt->NP,mul_le_mul_left->N9,lt_of_le_of_lt->Og,le_of_lt->Ol,le_add_right->OJ,le_succ->OU,pow_le_pow_right->OW,mul_le_mul_right->OX,mul_comm->Pa,lcm->P_,min_le_left->Qg,le_of_eq->Q9,add_comm->Rm,min_self->Rr,le_of_not_lt->Rz,succ_ne_self->RG,log2_lt->RM,mul_le_mul->R3,le_of_dvd->R_
open PySem.Value renaming ref->LS,none->Mt,bool->Mw,type->M0,builtin->OO,int->PD,str->PF,float->Qm,bytes->Si
open PySem.W.Fast renaming te4187177175401517315->LX,te5923862056798008813->LY,te14364793385576792824->Mu,te10110043849684766642->Nm
open Option.some renaming inj->L8
open Int renaming emod_lt_of_pos->Ma,eq_ofNat_of_zero_le->Mb,emod_nonneg->Mq,toNat_natCast->NC,gcd->NI,fdiv_eq_ediv_of_nonneg->NZ,natAbs_mul->OE,dvd_mul_left->PU,add_zero->Qa,add_emod->Qc,mul_emod->Qd,mul_ediv_add_emod->Ql,natAbs_neg->Qu,dvd_trans->QG,add_assoc->QJ,natCast_nonneg->Q0,mul_comm->Ro,gcd_dvd_left->RI,ediv_nonneg->RX,mul_nonneg->R0,natAbs_dvd->R4,mul_assoc->R8,emod_emod->Sb,toNat->Sd
open PySem.Builtin.SmallTypes renaming nextOf->Mf,ownedTupleIsFree->MU,ownedTupleHandOut->N8
open PySem.NameKind renaming free->Mh,globalImplicit->Nh,cell->QE
open Eq renaming trans->Mm
open False renaming elim->Mx
open Bool renaming and_eq_true->My,false_ne_true->MO,and_eq_true_iff->ND,false_eq_true->Pq,eq_iff_iff->Qe,false_and->Qn,true_and->QH,and_true->QI,not_eq_true'->Rn,not_false->R1,or_false->R6,not_true->R9
open PySem.Str renaming ofString->MC
open PyProof.Rows renaming slot_tuple_getitem->ME,callWith_type1->MZ,subscriptTail_builtinR->P1,entry_tuple_getitem->Qz,args_tuple_getitem->QT
open Array renaming getElem?_eq_some_iff->MR,length_toList->O5,find?_toList->QL,toList->Se
open PySem.AutoSeq1 renaming wpAny_loadPart'->MV,sub_tuple_tuple->Oc,idx_int->PN
open True renaming intro->Nj
open Ne renaming symm->Nk
open PySem.Obj renaming mapFields->Nn,data_mapFields->Nu,isFreed_of_fields->NU,mapSeq->P4
open PySem.Builtin.Slice renaming slicePlaces->Nz,sliceAdjust->N6,sliceApplied->Pe
open PySem.Builtin.Tuple renaming tupleExact->NG,tupleItemsOf->Pf,tupleTooMany->Pk
open PySem.F renaming args_tuple_add_2->N_,entry_tuple_add->Oi,plainAttrs_list->Oj,slot_tuple_add->Oz,excBase_ValueError->Pn,attr_ValueError->PL
open PySem.Builtin.List renaming listTooLong->Oa
open PySem.PyData renaming depthAll->O3,canLay0->Po,depth->P8,canLayAll0->Rp,str->R5,list->Sj
open PySem.Builtin.Int renaming intBits->O_
open PySem.Calls renaming Name_function_global->Pc
open Sum renaming inl->PZ,inr->Qx
open Nat.succ renaming inj->P9
open PySem.Around renaming frames_deeper->Qo,under->Rc
open PySem.SeqAt.EqAt renaming bool_bool->Qt
open PySem.SeqAt renaming noMixAll->Qw,shaped->Q2,noMix->Rq
open PySem.Heap.SameBut renaming update->QA
open PySem.EntryCells renaming newEntry->QB
open PySem.W.Looks renaming here->QM
open PySem.Code renaming quiet_builtin->QX,isFrame->Rf
open PySem.Within renaming cons->Q8
open PySem.Heap.Ns1 renaming of_empty->Q_
open PyProof.Rows.IsTup renaming new->Rx
open PySem.Flow renaming next->RA
open PySem.Shared renaming heap->RL
open ForInStep renaming yield->RS
open PySem.W.Frag renaming In->RW
open PySem.Heap.IsSliceOf renaming new->Sk
set_option hygiene false
local macro_rules|`(⋯)=>`(by lia)
local macro_rules|`(↑$n:num)=>#[`(starEach (e::es) X.env=(false,eval e X.env)::starEach es X.env),`(X.fn x=true\/X.env.scope.names.lookup x=some .local),`((backTo pos (starEach es X.env)).any (·.1)=false),`(by first|exact .inl rfl|exact .inr (.inl rfl)),`(.cons rfl rfl (by walk_at "l") rfl rfl .nil),`(∀x,foldedSetIterable iter X.env x=pure x),`((x==("__classdict__" : Str))=false),`((x==("__debug__" : Str))=false),`(model X.prog X.w),`(by walk_at "l"),`(by kernel_rfl),`(model prog w),`(by decide),`(by simp)][n.getNat]!
noncomputable section
def aR(h:True:=by rfl):True:=h
def aD(h:True:=by decide):True:=h
def aI(h:True:=by intro _;rfl):True:=h
def aK(h:True:=by kernel_rfl):True:=h
def aF(h:True:=by first|exact .inl rfl|exact .inr rfl|assumption):True:=h
def aU(h:True:=by with_unfolding_all rfl):True:=h
def aN(h:True:=by decide +kernel):True:=h
def aG(h:True:=by first|exact .inl rfl|exact .inr rfl):True:=h
namespace L2
open PySem PySem.Spec PyProof.Rows
abbrev Key:=Sum Int Str
def Bx:Key->Value->Bool
 | .inl k,v=>Value.isInt k v
 |.inr x,v=>Value.isStrOf x v
def FK(w:World):Key->Int
 | .inl k=>hashInt k
 |.inr x=>hashStr w x
def cz:∀{k:Key}{v:Value},Bx k v=true->(∃i t,k=PZ i/\v=PD i t)\/(∃x t,k=Qx x/\v=PF x t)
 | .inl i,v,h=>by
  obtain⟨t,e⟩:=Value.isInt_shape (k:=i) (v:=v) h;exact .inl ⟨i,t,rfl,e⟩
 | .inr x,v,h=>by
  obtain⟨t,e⟩:=Value.isStrOf_shape (x:=x) (v:=v) h;exact .inr ⟨x,t,rfl,e⟩
def C5(a b:Int):decide ((PZ a:Key)=PZ b)=(a==b):=by
 by_cases e:a=b
 .subst e;simp
 .have h:¬ (PZ a:Key)=PZ b:=λq=>e (Sum.inl.inj q);rw[decide_eq_false h];exact(beq_eq_false_iff_ne.mpr e).symm
def CM(a b:Str):decide ((Qx a:Key)=Qx b)=decide (a=b):=by
 by_cases e:a=b
 .subst e;simp
 .have h:¬ (Qx a:Key)=Qx b:=λq=>e (Sum.inr.inj q);rw[decide_eq_false h,decide_eq_false e]
def Dn(a:Int)(b:Str):decide ((PZ a:Key)=Qx b)=false:=decide_eq_false (λq=>nomatch q)
def C4(a:Str)(b:Int):decide ((Qx a:Key)=PZ b)=false:=decide_eq_false (λq=>nomatch q)
def uD(prog:Program)(w:World):PySem.KeyKind prog w Key where
 is:=Bx
 hash:=FK w
 inj:=λv a b ha hb=>by
  rcases cz ha with ⟨i,t,rfl,rfl⟩|⟨x,t,rfl,rfl⟩
  .rcases cz hb with ⟨j,u,rfl,e⟩|⟨y,u,rfl,e⟩
   .injection e with e1 _;rw[e1]
   .exact nomatch e
  .rcases cz hb with ⟨j,u,rfl,e⟩|⟨y,u,rfl,e⟩
   .exact nomatch e
   .injection e with e1 _;rw[e1]
 byValue:=λk v h=>by
  rcases cz h with ⟨i,t,rfl,rfl⟩|⟨x,t,rfl,rfl⟩<;>rfl
 pyHash:=λhv h=>by
  rcases cz hv with ⟨i,t,rfl,rfl⟩|⟨x,t,rfl,rfl⟩
  .exact wpAny_pyHash_int h
  .exact wpAny_pyHash_str h
 eqBool:=λhu hv h=>by
  rcases cz hu with ⟨i,t,rfl,rfl⟩|⟨x,t,rfl,rfl⟩
  .rcases cz hv with ⟨j,u,rfl,rfl⟩|⟨y,u,rfl,rfl⟩
   .rw[C5] at h;exact wpAny_eqBool_int h
   .rw[Dn] at h;exact SeqAt.EqAt.int_str i t y u _ _ _ _ h
  .rcases cz hv with ⟨j,u,rfl,rfl⟩|⟨y,u,rfl,rfl⟩
   .rw[C4] at h;exact SeqAt.EqAt.str_int x t j u _ _ _ _ h
   .rw[CM] at h;exact wpAny_eqBool_str h
 «strs»:=λk x t v h=>by
  rcases cz h with ⟨i,u,rfl,e⟩|⟨y,u,rfl,e⟩
  .exact nomatch e
  .injection e with e1 _
   subst e1;cases v<;>rfl
inductive V where
 | bz|bl (b:Bool)|int (i:Int)|str (x:Str)|byt (b:Array UInt8)|Bu (b:UInt64)|ref (a:Addr)|ty (n:String)
 deriving DecidableEq
def RelV:V->Value->Prop
 | .bz,u=>u=Mt
 | .bl b,u=>u=Mw b
 | .int i,u=>∃t,u=PD i t
 | .str x,u=>∃t,u=PF x t
 | .byt b,u=>∃t,u=Si b t
 | .Bu b,u=>∃t,u=Qm b t
 | .ref a,u=>u=LS a
 |.ty n,u=>u=M0 n
abbrev Vals:List V->List Value->Prop:=Paired RelV
theorem Vals.length{xs:List V}{us:List Value}(r:Vals xs us):xs.length=us.length:=Paired.length r
theorem Vals.get:∀{xs:List V}{us:List Value}{i:Nat}{x:V},Vals xs us->xs[i]?=some x->∃u,us[i]?=some u/\RelV x u
 | _,_,_,_,.nil,e=>by simp at e
 | _,_,0,_,.cons r _,e=>by simp at e;subst e;exact⟨_,rfl,r⟩
 | _,_,i+1,x,.cons _ t,e=>by
  obtain⟨u,h1,h2⟩:=Vals.get (i:=i) (x:=x) t (by simpa using e);exact⟨u,by simpa using h1,h2⟩
theorem Vals.set{x:V}{u:Value}(r:RelV x u):∀{xs:List V}{us:List Value}(i:Nat),Vals xs us->Vals (xs.set i x) (us.set i u)
 | _,_,_,.nil=>.nil
 | _,_,0,.cons _ t=>.cons r t
 |_,_,i+1,.cons q t=>.cons q (Vals.set r i t)
theorem Vals.append:∀{xs ys:List V}{us ws:List Value},Vals xs us->Vals ys ws->Vals (xs++ys) (us++ws)
 | _,_,_,_,.nil,s=>s
 |_,_,_,_,.cons r t,s=>.cons r (Vals.append t s)
theorem Vals.take:∀{xs:List V}{us:List Value}(n:Nat),Vals xs us->Vals (xs.take n) (us.take n)
 | _,_,0,_=>.nil
 | _,_,_+1,.nil=>.nil
 |_,_,n+1,.cons r t=>.cons r (Vals.take n t)
theorem Vals.drop:∀{xs:List V}{us:List Value}(n:Nat),Vals xs us->Vals (xs.drop n) (us.drop n)
 | _,_,0,r=>r
 | _,_,_+1,.nil=>.nil
 |_,_,n+1,.cons _ t=>Vals.drop n t
def kx:Option V->Option Value->Prop
 | some v,some u=>RelV v u
 | none,none=>True
 |_,_=>False
def KV{κ:Type}:List (κ×V)->List (κ×Value)->Prop:=Paired λ(p:κ×V) (q:κ×Value)=>p.1=q.1/\RelV p.2 q.2
def kV:Key->V
 | .inl i=>.int i
 |.inr x=>.str x
inductive HO where
 | lst (xs:List V)
 | tup (xs:List V)
 | dK (IE:List (Key×V))|dT (IE:List (List Key×V))
 | set (S:Int->Bool) (n:Nat)
 | ins (C dx:Addr) (fs:List (Str×V))
 | own (x:Addr)
 | xd (fs:List (Str×V))
 | met (f x:Addr)
 | wX (lo hi:Int)
 | lA (o:Obj) (u:HO)
 | gT (t:Str ⊕ Obj)
 |ext (φ:Heap->Prop)
abbrev Hp:=Addr->Option HO
def upd(H:Hp)(a:Addr)(o:HO):Hp:=λb=>if b=a then some o else H b
variable{a:Addr}{H:Hp}
def aw{o:HO}:upd H a o a=some o:=by unfold upd;rw[if_pos rfl]
variable{b:Addr}
def aq{o:HO}(h:b≠a):upd H a o b=H b:=by unfold upd;rw[if_neg h]
def uI{o u:HO}:upd (upd H a o) a u=upd H a u:=by
 funext b;unfold upd;split<;>rfl
def bC{o:HO}(h:H a=some o)(h':H b=none):a≠b:=by
 intro e;subst e;rw[h] at h';cases h'
section
variable(P:Program)(w:World)
def bN(H:Hp)(h:Heap)(a:Addr):HO->Prop
 | .lst xs=>xs.length<=sizeLine/\∃(HW:List Value)(n:Nat),Vals xs HW/\h.get? a=some { cls:=.type "list",data:=.seq HW.toArray n }
 | .tup xs=>xs.length<=sizeLine/\∃HW:List Value,Vals xs HW/\IsTup h a HW.toArray
 | .dK IE=>IE.length<=sizeLine/\(a==sysModules)=false/\∃vs,KV IE vs/\h.DictOf (uD P w) a vs
 | .dT IE=>IE.length<=sizeLine/\(a==sysModules)=false/\∃xs:List (List Key×Addr×Value),
   Paired (λ(p:List Key×V) (q:List Key×Addr×Value)=>p.1=q.1/\H q.2.1=some (.tup (p.1.map kV))/\RelV p.2 q.2.2) IE xs ∧
   ∃o es ep,h.get? a=some o/\o.ExactDict/\o.data=.dict es ep/\es.toList=xs.map (entryOfKey (tupleKind (uD P w)))/\(xs.map (·.1)).Nodup
 | .set S n=>h.SetOf (intKind P w) a S n
 | .ins C dx fs=>H dx=some (.own a)/\fs.length<=1000/\dx≠a/\h.get? a=some (Ni C dx) ∧
   ∃mA,h.Ns1 dx mA/\(∀f,kx (fs.lookup f) (mA f))/\Q4 mA (fs.map (·.1))
 | .own _=>∃o,h.get? a=some o
 | .xd fs=>∃mA,h.Ns1 a mA/\∀f,kx (fs.lookup f) (mA f)
 | .wX lo hi=>∃t u v,h.get? a=some { cls:=.type "range",data:=.fields #[.int lo t,.int hi u,.int 1 v] }
 | .lA o u=>h.get? a=some o/\bN H h a u
 | .gT (.inl q)=>∃ps:Array Value,h.get? a=some { cls:=.none,data:=.fields ps }/\TriplesOk ps.toList/\∀pos cv,codeAmong pos ps.toList=some cv->∃(c:Addr)(o:Obj)(vs:Array Value)(t:Tok),cv=.ref c/\H c=some (.gT (.inr o))/\o.data=.fields vs/\vs[1]?=some (.str q t)
 | .gT (.inr o)=>h.get? a=some o
 | .met f x=>h.get? a=some (Pw (.ref f) (.ref x))
 |.ext φ=>φ h/\(∃o,h.get? a=some o)/\∀h1 h2:Heap,φ h1->(∀o,h1.get? a=some o->h2.get? a=some o)->φ h2
def kX(H:Hp)(h:Heap):Prop:=∀a o,H a=some o->bN P w H h a o
end
variable{h h':Heap}{H':Hp}{w:World}{P:Program}
section
variable{o:HO}
theorem bN.lt(x:bN P w H h a o):a<h.objs.size:=by
 cases o with
 | lst xs=>obtain⟨_,_,_,_,e⟩:=x;exact LN e
 | tup xs=>obtain⟨_,_,_,p⟩:=x;exact p.lt
 | dK IE=>obtain⟨_,_,_,_,o,_,_,e,_⟩:=x;exact LN e
 | dT IE=>obtain⟨_,_,_,_,o,_,_,e,_⟩:=x;exact LN e
 | set S n=>obtain⟨o,_,_,_,e,_⟩:=x;exact LN e
 | ins C dx fs=>obtain⟨_,_,_,e,_⟩:=x;exact LN e
 | own y=>obtain⟨_,e⟩:=x;exact LN e
 | xd fs=>obtain⟨_,⟨_,_,_,e,_⟩,_⟩:=x;exact LN e
 | wX lo hi=>obtain⟨_,_,_,e⟩:=x;exact LN e
 | lA ob u=>obtain⟨e,_⟩:=x;exact LN e
 | gT t =>
  cases t with
  | inl q=>obtain⟨_,e,_⟩:=x;exact LN e
  | inr o=>exact LN (show h.get? a=some _ from x)
 | met f y=>exact LN (show h.get? a=some _ from x)
 |ext φ=>obtain⟨_,⟨_,e⟩,_⟩:=x;exact LN e
theorem Paired.EI{α β:Type}{F G:α->β->Prop}:∀{l₁:List α}{l₂:List β},Paired F l₁ l₂->(∀a b,F a b->G a b)->Paired G l₁ l₂
 | _,_,.nil,_=>.nil
 |_,_,.cons r t,f=>.cons (f _ _ r) (Paired.EI t f)
def bN.jR(x:bN P w H h a o)(k:∀b u,(b=a\/H b=some (.own a))->h.get? b=some u->h'.get? b=some u)(ho:∀b,H b=some (.own a)->H' b=some (.own a))(ht:∀b xs,H b=some (.tup xs)->H' b=some (.tup xs))(hb:∀b t,H b=some (.gT t)->H' b=some (.gT t):=by first|exact λ_ _ q=>q|exact λc t q=>by rwa[aq (bC q (by assumption))]):bN P w H' h' a o:=by
 induction o with
 | lst xs=>obtain⟨z,HW,n,r,e⟩:=x;exact⟨z,HW,n,r,k _ _ (.inl rfl) e⟩
 | tup xs=>obtain⟨z,HW,r,ob,e,c⟩:=x;exact⟨z,HW,r,ob,k _ _ (.inl rfl) e,c⟩
 | dK IE=>obtain⟨z,y,vs,r,ob,es,ep,e,c⟩:=x;exact⟨z,y,vs,r,ob,es,ep,k _ _ (.inl rfl) e,c⟩
 | dT IE =>
  obtain⟨z,y,xs,r,ob,es,ep,e,c⟩:=x;exact⟨z,y,xs,Paired.EI r λp q z=>⟨z.1,ht _ _ z.2.1,z.2.2⟩,ob,es,ep,k _ _ (.inl rfl) e,c⟩
 | set S n=>obtain⟨ob,es,ep,t,e,c⟩:=x;exact⟨ob,es,ep,t,k _ _ (.inl rfl) e,c⟩
 | ins C dx fs =>
  obtain⟨d,z,ne,e,mA,⟨od,es,ep,e2,c⟩,r⟩:=x;exact⟨ho _ d,z,ne,k _ _ (.inl rfl) e,mA,⟨od,es,ep,k _ _ (.inr d) e2,c⟩,r⟩
 | own y=>obtain⟨ob,e⟩:=x;exact⟨ob,k _ _ (.inl rfl) e⟩
 | xd fs=>obtain⟨mA,⟨od,es,ep,e,c⟩,r⟩:=x;exact⟨mA,⟨od,es,ep,k _ _ (.inl rfl) e,c⟩,r⟩
 | wX lo hi=>obtain⟨t,u,v,e⟩:=x;exact⟨t,u,v,k _ _ (.inl rfl) e⟩
 | lA ob u ih=>obtain⟨e,q⟩:=x;exact⟨k _ _ (.inl rfl) e,ih q⟩
 | gT t =>
  cases t with
  | inl q =>
   obtain⟨ps,e,ht,hc⟩:=x;exact⟨ps,k a _ (.inl rfl) e,ht,λpos cv z=>let ⟨c,o,vs,t,z1,z2,z3⟩:=hc pos cv z;⟨c,o,vs,t,z1,hb c _ z2,z3⟩⟩
  | inr o =>
   have e:h.get? a=some o:=x;show h'.get? a=some o;exact k a _ (.inl rfl) e
 | met f y =>
  have e:h.get? a=some (Pw (.ref f) (.ref y)):=x;show h'.get? a=some (Pw (.ref f) (.ref y));exact k a _ (.inl rfl) e
 |ext φ=>obtain⟨p,⟨o,e⟩,st⟩:=x;exact⟨st _ _ p λo q=>k _ _ (.inl rfl) q,⟨o,k _ _ (.inl rfl) e⟩,st⟩
theorem kX.lt(x:kX P w H h)(e:H a=some o):a<h.objs.size:=(x a o e).lt
def kX.fresh(x:kX P w H h)(e:h.objs.size<=a):H a=none:=by
 cases q:H a with
 | none=>rfl
 |some u=>exact absurd (LU (x.lt q) e) (Nl _)
def kX.kept(x:kX P w H h)(k:∀b u,h.get? b=some u->h'.get? b=some u):kX P w H h':=λa o e =>
 (x a o e).jR (λb u _ q=>k b u q) (λ_ q=>q) λ_ _ q=>q
def kX.laid(x:kX P w H h)(k:∀b u,h.get? b=some u->h'.get? b=some u)(hp:h.objs.size<=a)(new:bN P w (upd H a o) h' a o):kX P w (upd H a o) h':=λb u e=>by
 have hn:=x.fresh hp
 by_cases hb:b=a
 .subst hb;rw[aw] at e;cases e;exact new
 .rw[aq hb] at e;exact(x b u e).jR (λc v _ q=>k c v q) (λc q=>by rwa[aq (bC q hn)]) λc xs q=>by rwa[aq (bC q hn)]
end
def Rd(H:Hp)(a:Addr)(u:HO):Prop:=H a=some u\/∃o,H a=some (.lA o u)
def Rd.ok{u:HO}(r:Rd H a u)(x:kX P w H h):bN P w H h a u:=by
 rcases r with r|⟨o,r⟩
 .exact x a u r
 .obtain⟨_,q⟩:=x a _ r;exact q
def Fo:Option HO->Prop
 | some (.lst _)=>True
 | some (.dK _)=>True
 | some (.dT _)=>True
 | some (.set _ _)=>True
 | some (.ins _ _ _)=>True
 | some (.ext _)=>True
 |_=>False
section
variable{x e:Addr}{o':HO}
def kX.write(ok:kX P w H h)(mu:Fo (H x))(he:e=x\/H e=some (.own x))(k:∀b u,b≠e->h.get? b=some u->h'.get? b=some u)(K3:∃u,h'.get? e=some u)(new:bN P w (upd H x o') h' x o'):kX P w (upd H x o') h':=λb u q=>by
 have LC:∀c y,H c=some (.own y)->c≠x:=λc y r z=>by subst z;rwa[r] at mu
 have ntup:∀c xs,H c=some (.tup xs)->c≠x:=λc xs r z=>by subst z;rwa[r] at mu
 by_cases hb:b=x
 .subst hb;rw[aw] at q;cases q;exact new
 .rw[aq hb] at q
  by_cases J5:b=e
  .have q':H b=some (.own x):=by
    rcases he with z|z
    .exact absurd (J5.trans z) hb
    .rw[J5];exact z
   rw[q] at q';cases q';obtain⟨v,hv⟩:=K3;exact⟨v,by rwa[J5]⟩
  .refine(ok b u q).jR (λc v hc r=>k c v ?_ r) (λc r=>by rwa[aq (LC c b r)]) (λc xs r=>by rwa[aq (ntup c xs r)]) λc t r=>by rwa[aq (λz=>by subst z;rwa[r] at mu)]
   rcases hc with rfl|hc
   .exact J5
   .rintro rfl;rcases he with z|z
    .exact LC c b hc z
    .rw[hc] at z;cases z;exact hb rfl
end
structure Un (fs ex:List Addr) (H H':Hp) (h h':Heap):Prop where
 keep:∀b o,h.get? b=some o->H b=none->b ∉ fs->b ∉ ex->h'.get? b=some o
 slot:∀b o,h.get? b=some o->H b=none->b∈fs->b ∉ ex->∃sl,h'.get? b=some { o with slots:=sl }
 free:∀b o,h.get? b=some o->H b=none->b ∉ ex->H' b=none
 there:∀b o,h.get? b=some o->b ∉ ex->∃o',h'.get? b=some o'
 mq:∀b xs,H b=some (.tup xs)->H' b=some (.tup xs)
 jP:∀b o u,H b=some (.lA o u)->H' b=some (.lA o u)
 jq:∀b t,H b=some (.gT t)->H' b=some (.gT t)
section
variable{fs fs' ex ex':List Addr}{H1 H2:Hp}{h1 h2:Heap}{x e:Addr}{o:HO}
def Un.any(u:Un fs ex H H1 h h1){ob:Obj}(q:h.get? b=some ob)(n:H b=none)(hx:b ∉ ex):∃sl,h1.get? b=some { ob with slots:=sl }:=by
 by_cases hb:b∈fs
 .exact u.slot b ob q n hb hx
 .exact⟨ob.slots,u.keep b ob q n hb hx⟩
def Un.kept(k:∀b u,h.get? b=some u->h'.get? b=some u):Un fs ex H H h h' :=
 ⟨λb ob q _ _ _=>k b ob q,λb ob q _ _ _=>⟨ob.slots,k b ob q⟩,λ_ _ _ n _=>n,λb ob q _=>⟨ob,k b ob q⟩,λ_ _ q=>q,λ_ _ _ q=>q,λ_ _ q=>q⟩
def Un.refl:Un fs ex H H h h:=Un.kept λ_ _ q=>q
def Un.laid(k:∀b u,h.get? b=some u->h'.get? b=some u)(hp:h.objs.size<=a)(hn:H a=none):Un fs ex H (upd H a o) h h' where
 keep:=λb u q _ _ _=>k b u q
 slot:=λb u q _ _ _=>⟨u.slots,k b u q⟩
 free:=λb u q n _=>by rwa[aq (L7 (LU (LN q) hp))]
 there:=λb u q _=>⟨u,k b u q⟩
 mq:=λb xs q=>by rwa[aq (bC q hn)]
 jP:=λb u xs q=>by rwa[aq (bC q hn)]
 jq:=λb t q=>by rwa[aq (bC q hn)]
def Un.write(mu:Fo (H x))(he:e=x\/H e=some (.own x))(k:∀b u,b≠e->h.get? b=some u->h'.get? b=some u)(K3:∃u,h'.get? e=some u):Un fs ex H (upd H x o) h h':=by
 have hx:∀b,H b=none->b≠x:=λb n z=>by subst z;rwa[n] at mu
 have hb:∀b,H b=none->b≠e:=λb n z=>by
  subst z;rcases he with r|r
  .exact hx b n r
  .rw[n] at r;cases r
 have hm:∀b u,H b=some u->¬ Fo (some u)->b≠x:=λb u q nm z=>by subst z;rw[q] at mu;exact nm mu
 refine⟨λb u q n _ _=>k b u (hb b n) q,λb u q n _ _=>⟨u.slots,k b u (hb b n) q⟩,λb u q n _=>by rwa[aq (hx b n)],λb u q _=>?_,
  λb xs q=>by rwa[aq (hm b _ q λz=>z)],λb u xs q=>by rwa[aq (hm b _ q λz=>z)],λb t q=>by rwa[aq (hm b _ q λz=>z)]⟩
 by_cases J5:b=e
 .subst J5;exact K3
 .exact⟨u,k b u J5 q⟩
end
def Fp(h:Heap)(H:Hp):List Addr:=(LZ h.objs.size).filter λa=>(H a).isSome
def nB(h:Heap)(H:Hp):Heap:=PySem.W.hideAll h (Fp h H)
def vS(h:Heap)(H:Hp):(nB h H).objs.size=h.objs.size:=PySem.W.hideAll_size _ _
variable{o:Obj}
def xu(e:h.get? b=some o)(n:H b=none):(nB h H).get? b=some o :=
 PySem.W.hideAll_get _ e λhm=>by
  have q:(H b).isSome=true:=(RN.mp hm).2;rw[n] at q;simp at q
def AY(e:(nB h H).get? b=some o):h.get? b=some o/\H b=none:=by
 have e':h.get? b=some o:=PySem.W.of_hideAll (Fp h H) e;refine⟨e',?_⟩;cases q:H b with
 | none=>rfl
 | some x =>
  have hm:b∈Fp h H:=RN.mpr ⟨MA.mpr (LN e'),by simp[q]⟩;have z:(nB h H).get? b=none:=PySem.W.hideAll_none (Fp h H) hm;rw[z] at e;cases e
def AS(g h:Heap)(L:Addr):List (Addr×Obj):=(LZ h.objs.size).filterMap λa=>if a=L\/(g.get? a).isSome=true then none else (h.get? a).map λo=>(a,o)
def rest(g h:Heap)(L d:Addr):List (Addr×Obj):=(AS g h L).filter λp=>decide (p.1≠d)
structure Mod (K:LI) (mg:Str->Option Value) (base:Heap):Prop where
 zq:K.In base
 glob:base.Ns mainGlobals mg
 blt:∃mb,base.Ns builtinsNs mb/\∀x:Str,x ≠ "__name__" -> mb x=bootBuiltins x
 nolimit:base.NoLimit
structure Cx where
 prog:Program
 w:World
 K:LI
 mg:Str->Option Value
 base:Heap
 A:Around
 N:List Str
 s₀:Shared
 H₀:Hp
 env:Env
 outer:List Env
 stack:List Env
 ex:List Addr
 fn:Str->Bool
 calm:Bool
 pn:List (Addr×Obj)
 xe:Value->Shared->Prop
def qI(l:List Env):List Addr:=l.filterMap (·.frame)
abbrev Cx.fs(X:Cx):List Addr:=qI X.outer
def p4(sc:Scope)(x:Str):Prop:=sc.names.lookup x=some .local\/sc.names.lookup x=some .cell\/sc.names.lookup x=some .free
def Loc(sc:Scope)(x:Str):Prop:=sc.names.lookup x=some .local\/sc.names.lookup x=some .cell
def Look(env:Env)(h:Heap)(m:Str->Option Value)(x:Str)(u:Value):Prop :=
 (env.kindOf x=some .local/\m x=some u)\/((env.kindOf x=some .cell\/env.kindOf x=some .free)/\∃c,env.cells.lookup x=some c/\h.IsCell c (some u))
structure Cx.Ok (X:Cx):Prop where
 mod:Mod X.K X.mg X.base
 kind:X.env.scope.kind=.function
 glob:X.env.globals=mainGlobals
 blt:X.env.builtins=builtinsNs
 above:X.s₀.heap.objs.size<=X.env.locals
 inj:∀x y c,X.env.cells.lookup x=some c->X.env.cells.lookup y=some c->x=y
 has:∀x,(X.env.kindOf x=some .cell\/X.env.kindOf x=some .free)->∃c,X.env.cells.lookup x=some c
 zJ:∀x c,X.fn x=true->X.env.cells.lookup x=some c->X.s₀.heap.objs.size<=c
 hd:X.calm=true->X.A.handled=none
 frames:X.A.frames=some X.stack
 Ds:X.stack=X.outer\/(X.stack=X.env::X.outer/\X.env.frame=some X.env.locals)
 DH:∀b∈X.ex,b≠X.env.locals/\∀x c,X.env.cells.lookup x=some c->c≠b
 bs:∀b o,X.base.get? b=some o->X.s₀.heap.get? b=some o/\X.H₀ b=none
 wU:X.base.objs.size<=X.s₀.heap.objs.size
 qm:∀b o,X.base.get? b=some o->b ∉ X.ex
 sE:∀b∈X.ex,b ∉ X.fs
 i9:X.s₀.heap.FunFrames X.base X.outer
 xC:∀b∈X.fs,X.H₀ b=none
structure Inv (X:Cx) (HQ:List (Addr×Obj)) (σ:List (Option V)) (H:Hp) (s:Shared):Prop where
 ok:X.Ok
 os:s.os=X.s₀.os
 bare:AllBare s.gens
 base:Un X.fs X.ex X.H₀ H X.s₀.heap s.heap
 loc:∃m,s.heap.Ns X.env.locals m/\∀(i:Nat)(x:Str)(v:V),X.N[i]?=some x->σ[i]?=some (some v)->p4 X.env.scope x->∃u,RelV v u/\Look X.env s.heap m x u
 cell:∀x c,X.env.cells.lookup x=some c->∃v,s.heap.IsCell c v
 free:H X.env.locals=none
 eW:∀x c,X.env.cells.lookup x=some c->H c=none
 pin:∀p∈X.pn++HQ,s.heap.get? p.1=some p.2/\H p.1=none/\p.1≠X.env.locals/\p.1 ∉ X.fs/\∀v,p.2.data≠.cell v
 bf:kX X.prog X.w H s.heap
 len:σ.length=X.N.length
variable{s:Shared}{HQ:List (Addr×Obj)}{X:Cx}
variable{ch:List Addr}{d':Drawn}{t':Nat}{g':Array GenState}
variable{it:Addr}
variable{x:Str}{i:Nat}{N:List Str}
variable{u:Value}{v:V}{E:Value->Shared->Prop}{A:Around}
section
variable{σ:List (Option V)}
def Cx.Ok.GN(ok:X.Ok)(e:X.base.get? b=some o):b ∉ X.fs:=λhb=>by
 have:=(ok.i9.mem hb).1;rw[e] at this;cases this
theorem Inv.bs(I:Inv X HQ σ H s):∀b o,X.base.get? b=some o->s.heap.get? b=some o/\H b=none:=λb o e =>
 ⟨I.base.keep b o (I.ok.bs b o e).1 (I.ok.bs b o e).2 (I.ok.GN e) (I.ok.qm b o e),I.base.free b o (I.ok.bs b o e).1 (I.ok.bs b o e).2 (I.ok.qm b o e)⟩
def Inv.bk(I:Inv X HQ σ H s):∀b o,X.base.get? b=some o->s.heap.get? b=some o:=λb o e=>(I.bs b o e).1
theorem Inv.mod(I:Inv X HQ σ H s):Mod X.K X.mg X.base:=I.ok.mod
def Inv.h9(I:Inv X HQ σ H s):X.K.In s.heap:=I.ok.mod.zq.keeps I.bk
theorem Inv.lt(I:Inv X HQ σ H s):X.env.locals<s.heap.objs.size:=let ⟨_,hn,_⟩:=I.loc;hn.lt
def Inv.sz(I:Inv X HQ σ H s):X.s₀.heap.objs.size<=s.heap.objs.size:=MB I.ok.above (Ol I.lt)
def Inv.Gu(I:Inv X HQ σ H s)(h:s.heap.objs.size<=a):a ∉ X.fs:=λhb=>by
 obtain⟨_,o,ho,_⟩:=I.ok.i9.mem hb;exact absurd (LU (LN ho) (MB I.sz h)) (Nl _)
def Inv.wQ(I:Inv X HQ σ H s):∀x c,X.env.cells.lookup x=some c->c≠X.env.locals:=λx c e z=>by
 obtain⟨v,o,ho,hd⟩:=I.cell x c e;obtain⟨m,⟨o',es,ep,Ju,Li,_⟩,_⟩:=I.loc;rw[z,Ju] at ho;cases ho;rw[Li] at hd;cases hd
theorem Inv.i9(I:Inv X HQ σ H s):s.heap.FunFrames X.base X.outer:=by
 have all:∀(l:List Env),(∀b∈qI l,b∈X.fs)->X.s₀.heap.FunFrames X.base l->s.heap.FunFrames X.base l:=by
  intro l
  induction l with
  | nil=>intro _ _;trivial
  | cons env r ih =>
   intro hs hl;obtain⟨hk,⟨L,o,hf,hn,ho,hd⟩,hr⟩:=hl;have hL:L∈X.fs:=hs L (by unfold qI;rw[O4,hf];exact L4);obtain⟨sl,e⟩:=I.base.slot L o ho (I.ok.xC L hL) hL λz=>I.ok.sE L z hL;exact⟨hk,⟨L,_,hf,hn,e,hd⟩,ih (λb hb=>hs b (by unfold qI;rw[O4,hf];exact LQ _ hb)) hr⟩
 exact all X.outer (λ_ hb=>hb) I.ok.i9
theorem Inv.stack(I:Inv X HQ σ H s):s.heap.FunFrames X.base X.stack:=by
 rcases I.ok.Ds with e|⟨e,hf⟩
 .rw[e];exact I.i9
 .rw[e];obtain⟨m,hn,_⟩:=I.loc;refine .cons (by rw[I.ok.kind];decide) hf hn ?_ I.i9;exact Nd (MB I.ok.wU I.ok.above)
def Inv.mK(I:Inv X HQ σ H s):∀b∈qI X.stack,b∈X.env.locals::X.fs:=λb hb=>by
 rcases I.ok.Ds with e|⟨e,hf⟩
 .rw[e] at hb;exact LQ _ hb
 .rw[e] at hb;unfold qI at hb;rwa[O4,hf] at hb
def Inv.pR(I:Inv X HQ σ H s):∀b∈qI X.stack,H b=none:=λb hb=>by
 rcases L5.mp (I.mK b hb) with e|hb
 .rw[e];exact I.free
 .obtain⟨_,o,ho,_⟩:=I.ok.i9.mem hb;exact I.base.free b o ho (I.ok.xC b hb) λz=>I.ok.sE b z hb
def Inv.step(I:Inv X HQ σ H s)(JK:∀b∈ch,(b∈X.ex\/X.s₀.heap.objs.size<=b)/\b≠X.env.locals/\(∀x c,X.env.cells.lookup x=some c->c≠b)/\∀p∈X.pn++HQ,p.1≠b)(keep:∀b o,b≠X.env.locals->b ∉ X.fs->b ∉ ch->s.heap.get? b=some o->H b=none->h'.get? b=some o)(slot:∀b o,b≠X.env.locals->b∈X.fs->b ∉ ch->s.heap.get? b=some o->H b=none->∃sl,h'.get? b=some { o with slots:=sl })(free:∀b o,b ∉ ch->s.heap.get? b=some o->H b=none->H' b=none)(there:∀b o,b ∉ ch->s.heap.get? b=some o->∃o',h'.get? b=some o')(mq:∀b xs,H b=some (.tup xs)->H' b=some (.tup xs))(jP:∀b o u,H b=some (.lA o u)->H' b=some (.lA o u))(jq:∀b t,H b=some (.gT t)->H' b=some (.gT t))(ns:∀m,s.heap.Ns X.env.locals m->h'.Ns X.env.locals m)(bf:kX X.prog X.w H' h')(hg:AllBare g'):Inv X HQ σ H' { s with heap:=h',gens:=g',drawn:=d',toks:=t' }:=by
 have neL:∀b o,X.s₀.heap.get? b=some o->b≠X.env.locals:=λb o e=>L7 (LU (LN e) I.ok.above);have neC:∀b o,X.s₀.heap.get? b=some o->b ∉ X.ex->b ∉ ch:=λb o e hx hb=>by
  rcases(JK b hb).1 with z|z
  .exact hx z
  .exact absurd (LU (LN e) z) (Nl _)
 have cellK:∀x c,X.env.cells.lookup x=some c->∀v,s.heap.IsCell c v->h'.IsCell c v:=λx c e v ⟨o,ho,hd⟩=>by
  have LB:c ∉ ch:=λz=>(JK c z).2.2.1 x c e rfl
  by_cases hc:c∈X.fs
  .obtain⟨sl,q⟩:=slot c o (I.wQ x c e) hc LB ho (I.eW x c e);exact⟨_,q,hd⟩
  .exact⟨o,keep c o (I.wQ x c e) hc LB ho (I.eW x c e),hd⟩
 refine⟨I.ok,I.os,hg,⟨λb o e n hb hx=>?_,λb o e n hb hx=>?_,λb o e n hx=>?_,λb o e hx=>?_,λb xs e=>mq b xs (I.base.mq b xs e),λb o xs e=>jP b o xs (I.base.jP b o xs e),λb ps e=>?_⟩,?_,λx c e=>?_,?_,λx c e=>?_,λp hp=>?_,bf,I.len⟩
 .exact keep b o (neL b o e) hb (neC b o e hx) (I.base.keep b o e n hb hx) (I.base.free b o e n hx)
 .obtain⟨sl,e1⟩:=I.base.slot b o e n hb hx;obtain⟨sl',e2⟩:=slot b _ (neL b o e) hb (neC b o e hx) e1 (I.base.free b o e n hx);exact⟨sl',e2⟩
 .obtain⟨o',e1⟩:=I.base.there b o e hx;exact free b o' (neC b o e hx) e1 (I.base.free b o e n hx)
 .obtain⟨o',e1⟩:=I.base.there b o e hx;exact there b o' (neC b o e hx) e1
 .exact jq b ps (I.base.jq b ps e)
 .obtain⟨m,hn,hl⟩:=I.loc;refine⟨m,ns m hn,λi x v e1 e2 e3=>?_⟩;obtain⟨u,r,l⟩:=hl i x v e1 e2 e3;refine⟨u,r,?_⟩;rcases l with l|⟨k,c,e,z⟩
  .exact .inl l
  .exact .inr ⟨k,c,e,cellK x c e _ z⟩
 .obtain⟨v,z⟩:=I.cell x c e;exact⟨v,cellK x c e v z⟩
 .obtain⟨m,⟨o,_,_,ho,_⟩,_⟩:=I.loc;exact free _ o (λz=>(JK _ z).2.1 rfl) ho I.free
 .obtain⟨v,o,ho,hd⟩:=I.cell x c e;exact free c o (λz=>(JK c z).2.2.1 x c e rfl) ho (I.eW x c e)
 .obtain⟨e,n,ne,nf,d⟩:=I.pin p hp;have LB:p.1 ∉ ch:=λz=>(JK p.1 z).2.2.2 p hp rfl;exact⟨keep p.1 p.2 ne nf LB e n,free p.1 p.2 LB e n,ne,nf,d⟩
def Inv.un(I:Inv X HQ σ H s)(u:Un X.fs [] H H' s.heap h')(bf:kX X.prog X.w H' h'):Inv X HQ σ H' { s with heap:=h',toks:=t' }:=by
 obtain⟨m,⟨o,es,ep,ho,r⟩,_⟩:=id I.loc;obtain⟨sl,hL⟩:=u.any ho I.free ↑13;exact I.step (g':=s.gens) (d':=s.drawn) (ch:=[]) (λ_ z=>nomatch z) (λb o _ hb _ e n=>u.keep b o e n hb ↑13) (λb o _ hb _ e n=>u.slot b o e n hb ↑13) (λb o _ e n=>u.free b o e n ↑13) (λb o _ e=>u.there b o e ↑13) u.mq u.jP u.jq (λm' hm=>by
  obtain⟨o',es',ep',Ju,r'⟩:=hm;rw[ho] at Ju;cases Ju;exact⟨_,es',ep',hL,r'⟩) bf I.bare
def Inv.call(I:Inv X HQ σ H s)(u:Un (qI X.stack) ch H H' s.heap h')(bf:kX X.prog X.w H' h')(hg:AllBare g')(JK:∀b∈ch,(b∈X.ex\/X.s₀.heap.objs.size<=b)/\b≠X.env.locals/\(∀x c,X.env.cells.lookup x=some c->c≠b)/\∀p∈X.pn++HQ,p.1≠b):Inv X HQ σ H' { s with heap:=h',gens:=g',drawn:=d',toks:=t' }:=by
 obtain⟨m,⟨o,es,ep,ho,r⟩,_⟩:=id I.loc;obtain⟨sl,hL⟩:=u.any ho I.free λz=>(JK _ z).2.1 rfl;exact I.step (ch:=ch) JK (λb o hL hb hc e n=>u.keep b o e n (λz=>(L5.mp (I.mK b z)).elim hL hb) hc) (λb o _ _ hc e n=>u.any e n hc) (λb o hc e n=>u.free b o e n hc) (λb o hc e=>u.there b o e hc) u.mq u.jP u.jq (λm' hm=>by
  obtain⟨o',es',ep',Ju,r'⟩:=hm;rw[ho] at Ju;cases Ju;exact⟨_,es',ep',hL,r'⟩) bf hg
def Inv.turned(I:Inv X HQ σ H s)(k:∀b o,b≠it->s.heap.get? b=some o->h'.get? b=some o)(hn:H it=none)(hL:it≠X.env.locals)(h1:it∈X.ex\/X.s₀.heap.objs.size<=it)(h2:∀x c,X.env.cells.lookup x=some c->c≠it)(h3:∀p∈X.pn++HQ,p.1≠it):Inv X HQ σ H { s with heap:=h',toks:=t' }:=by
 have nit:∀b u,H b=some u->b≠it:=λb u e z=>by rw[z,hn] at e;cases e
 refine I.step (g':=s.gens) (d':=s.drawn) (ch:=[it]) (λb hb=>?_) (λb o _ _ hc e _=>k b o (λz=>hc (by simp[z])) e) (λb o _ _ hc e _=>⟨o.slots,k b o (λz=>hc (by simp[z])) e⟩) (λ_ _ _ _ n=>n)
  (λb o hc e=>⟨o,k b o (λz=>hc (by simp[z])) e⟩) (λ_ _ e=>e) (λ_ _ _ e=>e) (λ_ _ e=>e) (λm hm=>?_) (λb u e=>?_) I.bare
 .have e:b=it:=by simpa using hb
  subst e;exact⟨h1,hL,h2,h3⟩
 .obtain⟨o,es,ep,ho,r⟩:=hm;exact⟨o,es,ep,k _ o (Nk hL) ho,r⟩
 .refine(I.bf b u e).jR (λc v hc q=>k c v ?_ q) (λ_ q=>q) λ_ _ q=>q;rcases hc with z|z
  .rw[z];exact nit b u e
  .exact nit c _ z
def Inv.tok(I:Inv X HQ σ H s)(t:Nat):Inv X HQ σ H { s with toks:=t }:=I.un (h':=s.heap) (t':=t) Un.refl I.bf
theorem Inv.kept{t':Nat}(I:Inv X HQ σ H s)(k:∀b u,s.heap.get? b=some u->h'.get? b=some u):Inv X HQ σ H { s with heap:=h',toks:=t' }:=I.un (Un.kept k) (I.bf.kept k)
theorem Inv.laid{a:Addr}{o:HO}{t':Nat}(I:Inv X HQ σ H s)(k:∀b u,s.heap.get? b=some u->h'.get? b=some u)(hp:s.heap.objs.size<=a)(new:bN X.prog X.w (upd H a o) h' a o):Inv X HQ σ (upd H a o) { s with heap:=h',toks:=t' }:=I.un (Un.laid k hp (I.bf.fresh hp)) (I.bf.laid k hp new)
theorem Inv.write{x e:Addr}{o:HO}{t':Nat}(I:Inv X HQ σ H s)(mu:Fo (H x))(he:e=x\/H e=some (.own x))(k:∀b u,b≠e->s.heap.get? b=some u->h'.get? b=some u)(K3:∃u,h'.get? e=some u)(new:bN X.prog X.w (upd H x o) h' x o):Inv X HQ σ (upd H x o) { s with heap:=h',toks:=t' }:=I.un (Un.write mu he k K3) (I.bf.write mu he k K3 new)
def Inv.uH{JO:List (Addr×Obj)}(I:Inv X HQ σ H s)(h:∀p∈JO,s.heap.get? p.1=some p.2/\H p.1=none/\p.1≠X.env.locals/\p.1 ∉ X.fs/\∀v,p.2.data≠.cell v):Inv X JO σ H s :=
 ⟨I.ok,I.os,I.bare,I.base,I.loc,I.cell,I.free,I.eW,λp hp=>(NT.mp hp).elim (λz=>I.pin p (OR _ z)) (h p),I.bf,I.len⟩
def nu(hN:N.Nodup){j:Nat}(a:N[i]?=some x)(b:N[j]?=some x):i=j:=by
 obtain⟨h1,e1⟩:=MH.mp a;obtain⟨h2,e2⟩:=MH.mp b;exact(List.getElem_inj hN).mp (e1.trans e2.symm)
def oY{M:Model}{Q:Unit->Shared->Prop}(I:Inv X HQ σ H s)(hN:X.N.Nodup)(hi:X.N[i]?=some x)(hx:Loc X.env.scope x)(r:RelV v u)(h:∀s',Inv X HQ (σ.set i (some v)) H s'->(∃a,Om a s.heap s'.heap/\(a=X.env.locals\/X.env.cells.lookup x=some a))->Q () s')(hf:autoParam ↑1 aF._auto_1):wpAny M A (storeName X.env x u) Q E s:=by
 obtain⟨m,hn,hl⟩:=id I.loc;have hcls:(X.env.scope.kind==.class||(X.env.scope.kind==.module&&X.env.locals != X.env.globals))=false:=by rw[I.ok.kind];rfl
 have hiσ:i<σ.length:=by rw[I.len];exact(MH.mp hi).1
 have wQ:=I.wQ;have tracked:∀{a:Addr}{h':Heap},(∃o,s.heap.get? a=some o/\H a=none)->Om a s.heap h'->kX X.prog X.w H h':=λ{a h'} ha hs b ob e=>by
  obtain⟨_,_,J2⟩:=ha;refine(I.bf b ob e).jR (λc w' hc q=>(hs.2 c ?_).trans q) (λ_ q=>q) λ_ _ q=>q;rintro rfl;rcases hc with rfl|hc
  .rw[J2] at e;cases e
  .rw[J2] at hc;cases hc
 rcases hx with hk|hk
 .refine wpAny_storeName_local hk hn (λh' Lo hs=>?_) hcls;obtain⟨oL,_,_,hoL,_⟩:=id hn;refine h _ ⟨I.ok,I.os,I.bare,⟨λb o e n hb hx=>?_,λb o e n hb hx=>?_,I.base.free,λb o e hx=>?_,I.base.mq,I.base.jP,I.base.jq⟩,⟨_,Lo,λj y v' e1 e2 e3=>?_⟩,λy c e=>?_,I.free,I.eW,λp hp=>?_,tracked ⟨oL,hoL,I.free⟩ hs,by simpa using I.len⟩ ⟨_,hs,.inl rfl⟩
  .exact(hs.2 b (L7 (LU (LN e) I.ok.above))).trans (I.base.keep b o e n hb hx)
  .obtain⟨sl,e1⟩:=I.base.slot b o e n hb hx;exact⟨sl,(hs.2 b (L7 (LU (LN e) I.ok.above))).trans e1⟩
  .obtain⟨o',e1⟩:=I.base.there b o e hx;exact⟨o',(hs.2 b (L7 (LU (LN e) I.ok.above))).trans e1⟩
  .by_cases hj:j=i
   .subst hj;rw[hi] at e1;cases e1;rw[P0 hiσ] at e2;cases e2;exact⟨u,r,.inl ⟨hk,by simp⟩⟩
   .rw[OS (Nk hj)] at e2;obtain⟨u',r',q⟩:=hl j y v' e1 e2 e3;refine⟨u',r',?_⟩;rcases q with ⟨k,e⟩|⟨k,c,e,z⟩
    .refine .inl ⟨k,?_⟩;have:y≠x:=λe=>hj (nu hN e1 (e▸hi));simp[this,e]
    .exact .inr ⟨k,c,e,z.sameBut hs (wQ y c e)⟩
  .obtain⟨w',z⟩:=I.cell y c e;exact⟨w',z.sameBut hs (wQ y c e)⟩
  .obtain⟨e,n,ne,nf,d⟩:=I.pin p hp;exact⟨(hs.2 p.1 ne).trans e,n,ne,nf,d⟩
 .have Lk:X.fn x=true:=by
   rcases hf with z|z
   .exact z
   .rw[z] at hk;cases hk
  obtain⟨c,hc⟩:=I.ok.has x (.inl hk);obtain⟨w',z⟩:=I.cell x c hc;refine wpAny_storeName_cell I.ok.kind hk hc z (λh' Kw hs=>?_);obtain⟨oc,K4,hocd⟩:=id z;refine h { s with heap:=h' } ⟨I.ok,I.os,I.bare,⟨λb o e n hb hx=>?_,λb o e n hb hx=>?_,I.base.free,λb o e hx=>?_,I.base.mq,I.base.jP,I.base.jq⟩,⟨m,hn.sameBut hs (Nk (wQ x c hc)),λj y v' e1 e2 e3=>?_⟩,λy c' e=>?_,I.free,I.eW,λp hp=>?_,tracked ⟨oc,K4,I.eW x c hc⟩ hs,by simpa using I.len⟩ ⟨c,hs,.inr hc⟩
  .exact(hs.2 b (L7 (LU (LN e) (I.ok.zJ x c Lk hc)))).trans (I.base.keep b o e n hb hx)
  .obtain⟨sl,e1⟩:=I.base.slot b o e n hb hx;exact⟨sl,(hs.2 b (L7 (LU (LN e) (I.ok.zJ x c Lk hc)))).trans e1⟩
  .obtain⟨o',e1⟩:=I.base.there b o e hx;exact⟨o',(hs.2 b (L7 (LU (LN e) (I.ok.zJ x c Lk hc)))).trans e1⟩
  .by_cases hj:j=i
   .subst hj;rw[hi] at e1;cases e1;rw[P0 hiσ] at e2;cases e2;exact⟨u,r,.inr ⟨.inl hk,c,hc,Kw⟩⟩
   .rw[OS (Nk hj)] at e2;obtain⟨u',r',q⟩:=hl j y v' e1 e2 e3;refine⟨u',r',?_⟩;rcases q with q|⟨k,c',e,z'⟩
    .exact .inl q
    .refine .inr ⟨k,c',e,z'.sameBut hs ?_⟩;rintro rfl;exact hj (nu hN e1 (I.ok.inj _ _ _ e hc▸hi))
  .by_cases hcc:c'=c
   .subst hcc;exact⟨_,Kw⟩
   .obtain⟨w2,z2⟩:=I.cell y c' e;exact⟨w2,z2.sameBut hs hcc⟩
  .obtain⟨e,n,ne,nf,d⟩:=I.pin p hp;refine⟨(hs.2 p.1 ?_).trans e,n,ne,nf,d⟩;intro q;rw[q,K4] at e;have q':oc=p.2:=L8 e;exact d w' (by rwa[<- q'])
def mQ{M:Model}{Q:Unit->Shared->Prop}(I:Inv X HQ σ H s)(hN:X.N.Nodup)(hi:X.N[i]?=some x)(hx:Loc X.env.scope x)(r:RelV v u)(h:∀s',Inv X HQ (σ.set i (some v)) H s'->Q () s')(hf:autoParam ↑1 aF._auto_1):wpAny M A (storeName X.env x u) Q E s :=
 oY I hN hi hx r (λs' I' _=>h s' I') hf
def Inv.jY{s':Shared}(I:Inv X HQ σ H s)(ho:s'.os=s.os)(u:Un (qI X.stack) ch H H' s.heap s'.heap)(bf:kX X.prog X.w H' s'.heap)(hg:AllBare s'.gens)(JK:∀b∈ch,(b∈X.ex\/X.s₀.heap.objs.size<=b)/\b≠X.env.locals/\(∀x c,X.env.cells.lookup x=some c->c≠b)/\∀p∈X.pn++HQ,p.1≠b):Inv X HQ σ H' s':=by
 obtain⟨h',g',d',t',o'⟩:=s';have e:o'=s.os:=ho;subst e;exact I.call (g':=g') (t':=t') (d':=d') u bf hg JK
end
abbrev XK:=Value->Option Addr->Hp->Prop
abbrev St:=List (Option V)
abbrev VK:=V->Hp->Prop
abbrev TE:=St->Hp->VK->Prop
abbrev TT:=St->Hp->(Bool->Hp->Prop)->Prop
abbrev TA:=St->Hp->(List V->Hp->Prop)->Prop
structure Ends where
 nx:St->Hp->Prop
 rt:VK
 bk:St->Hp->Prop:=λ_ _=>False
 ct:St->Hp->Prop:=λ_ _=>False
abbrev TS:=Ends->St->Hp->Prop
def EP(X:Cx)(HQ:List (Addr×Obj))(σ:St)(Q:VK)(u:Value)(s':Shared):Prop:=∃v H',Inv X HQ σ H' s'/\RelV v u/\Q v H'
def TP(X:Cx)(HQ:List (Addr×Obj))(σ:St)(Q:Bool->Hp->Prop)(b:Bool)(s':Shared):Prop:=∃H',Inv X HQ σ H' s'/\Q b H'
def AP(X:Cx)(HQ:List (Addr×Obj))(σ:St)(Q:List V->Hp->Prop)(us:List Value)(s':Shared):Prop:=∃vs H',Inv X HQ σ H' s'/\Vals vs us/\Q vs H'
def SP(X:Cx)(HQ:List (Addr×Obj))(D:Ends)(f:Flow)(s':Shared):Prop :=
 match f with
 | .next=>∃σ' H',Inv X HQ σ' H' s'/\D.nx σ' H'
 | .brk=>∃σ' H',Inv X HQ σ' H' s'/\D.bk σ' H'
 | .cont=>∃σ' H',Inv X HQ σ' H' s'/\D.ct σ' H'
 |.ret u=>∃v σ' H',Inv X HQ σ' H' s'/\RelV v u/\D.rt v H'
def PE(X:Cx)(e:Expr)(t:TE):Prop :=
 ∀(HQ:List (Addr×Obj))(s:Shared)(σ:St)(H:Hp)(Q:VK),Inv X HQ σ H s->t σ H Q->wpAny ↑8 X.A (eval e X.env) (EP X HQ σ Q) X.xe s
def PT(X:Cx)(e:Expr)(t:TT):Prop :=
 ∀(HQ:List (Addr×Obj))(s:Shared)(σ:St)(H:Hp)(Q:Bool->Hp->Prop),Inv X HQ σ H s->t σ H Q->wpAny ↑8 X.A (isTrue e X.env (eval e X.env)) (TP X HQ σ Q) X.xe s
def PW(X:Cx)(e:Expr)(t:TT):Prop :=
 ∀(whole:Sem Value)(HQ:List (Addr×Obj))(s:Shared)(σ:St)(H:Hp)(Q:Bool->Hp->Prop),Inv X HQ σ H s->t σ H Q->wpAny ↑8 X.A (isTrue e X.env whole) (TP X HQ σ Q) X.xe s
variable{e:Expr}
def PW.pt{t:TT}(h:PW X e t):PT X e t:=h _
def PA(X:Cx)(es:List Expr)(t:TA):Prop :=
 ∀(pos:Pos)(HQ:List (Addr×Obj))(s:Shared)(σ:St)(H:Hp)(Q:List V->Hp->Prop),Inv X HQ σ H s->t σ H Q->wpAny ↑8 X.A (spliced (backTo pos (starEach es X.env))) (AP X HQ σ Q) X.xe s
def PS(X:Cx)(st:Stmt)(t:TS):Prop :=
 ∀(HQ:List (Addr×Obj))(s:Shared)(σ:St)(H:Hp)(D:Ends),Inv X HQ σ H s->t D σ H->wpAny ↑8 X.A (exec st X.env) (SP X HQ D) X.xe s
def i7(X:Cx)(st:List Stmt)(t:TS):Prop :=
 ∀(HQ:List (Addr×Obj))(s:Shared)(σ:St)(H:Hp)(D:Ends),Inv X HQ σ H s->t D σ H->wpAny ↑8 X.A (execs st X.env) (SP X HQ D) X.xe s
def cH{α:Type}{t:Sem α}{Q Q':α->Shared->Prop}{M:Model}(h:wpAny M A t Q E s)(hQ:∀a s,Q a s->Q' a s):wpAny M A t Q' E s:=MS h hQ λ_ _ x=>x
variable{pos:Pos}
variable{Q:Value->Shared->Prop}{σ:St}
variable{ta:TE}
section
def Gw(i:Nat):TE:=fun σ H Q=>∃v,σ[i]?=some (some v)/\Q v H
def tC(v:V):TE:=λ_ H Q=>Q v H
def jI(hN:X.N[i]?=some x)(hv:p4 X.env.scope x)(hd:autoParam ↑7 aD._auto_1)(II:autoParam ↑6 aD._auto_1):PE X (.Name x pos) (Gw i):=by
 intro HQ s σ H Q I h;obtain⟨v,e,h⟩:=h;obtain⟨m,hn,hl⟩:=I.loc;obtain⟨u,r,l⟩:=hl i x v hN e hv;have fin:EP X HQ σ Q u s:=⟨v,H,I,r,h⟩
 rcases l with ⟨hk,hm⟩|⟨hk,c,hc,J1⟩
 .exact RY (wpAny_loadName_local I.ok.kind hk hn hm fin) hd
 .rcases hk with hk|hk
  .exact RY (wpAny_loadName_cell I.ok.kind hk hc J1 fin) hd
  .exact RY (wpAny_loadName_free I.ok.kind hk hc J1 fin II) hd
def B8{i j pos}:PE X (.Constant (.int i) j pos) (tC (.int i)):=λ_ _ _ H _ I h=>wpAny_Constant_int ⟨.int i,H,I.tok _,⟨_,rfl⟩,h⟩
def EZ{b j pos}:PE X (.Constant (.bool b) j pos) (tC (.bl b)):=λ_ _ _ H _ I h=>Constant_bool ⟨.bl b,H,I,rfl,h⟩
def C_{j pos}:PE X (.Constant .none j pos) (tC .bz):=λ_ _ _ H _ I h=>Constant_none ⟨.bz,H,I,rfl,h⟩
def Dx{x j pos}:PE X (.Constant (.str x) j pos) (tC (.str x)):=λ_ _ _ H _ I h=>Calls.Constant_str ⟨.str x,H,I.tok _,⟨_,rfl⟩,h⟩
def Gl(X:Cx)(x:Str):Prop:=X.env.kindOf x=some .globalImplicit
def f_(I:Inv X HQ σ H s)(hg:Gl X x)(hm:X.mg x=some u)(h:Q u s)(hd:autoParam ↑7 aD._auto_1):wpAny ↑8 X.A (eval (.Name x pos) X.env) Q E s :=
 Pc I.ok.kind hg (Calls.loadGlobal_global (by rw[I.ok.glob];exact I.mod.glob.keeps I.bk) hm h) hd
def jO(I:Inv X HQ σ H s)(hg:Gl X x)(hm:X.mg x=none)(hv:bootBuiltins x=some u)(h:Q u s)(hn:autoParam (x ≠ "__name__") aD._auto_1)(hd:autoParam ↑7 aD._auto_1):wpAny ↑8 X.A (eval (.Name x pos) X.env) Q E s:=by
 obtain⟨mb,h1,h2⟩:=I.mod.blt;exact Pc I.ok.kind hg (Calls.loadGlobal_builtin (by rw[I.ok.glob];exact I.mod.glob.keeps I.bk) hm (by rw[I.ok.blt];exact h1.keeps I.bk) ((h2 x hn).trans hv) h) hd
def uC(hg:Gl X x)(hm:X.mg x=some u)(r:RelV v u)(hd:autoParam ↑7 aD._auto_1):PE X (.Name x pos) (tC v) :=
 λ_ _ _ H _ I h=>f_ I hg hm ⟨v,H,I,r,h⟩ hd
def a_(hg:Gl X x)(hm:X.mg x=none)(hv:bootBuiltins x=some u)(r:RelV v u)(hn:autoParam (x ≠ "__name__") aD._auto_1)(hd:autoParam ↑7 aD._auto_1):PE X (.Name x pos) (tC v) :=
 λ_ _ _ H _ I h=>jO I hg hm hv ⟨v,H,I,r,h⟩ hn hd
variable{a b:Expr}{tb:TE}
def tB(t:TE):TT:=fun σ H Q=>t σ H λx H1=>∃c,x=.bl c/\Q c H1
def DG{t:TE}(h:PE X e t)(he:autoParam (∀whole,isTrue e X.env whole=(do let v <- whole;standAt e.pos;holding [v] (truthy v))) aI._auto_1):PT X e (tB t):=by
 intro HQ s σ H Q I hw;refine isTrue_plain (cH (h HQ s σ H _ I hw) λv s1 ⟨x,H1,I1,r1,q1⟩=>?_) (he _);obtain⟨d,rfl,q⟩:=q1;cases r1;exact M1 ⟨H1,I1,q⟩
variable{tA tB':TT}{rest:List Expr}
def Gb(t u:TT):TT:=fun σ H Q=>t σ H λc H1=>if c=true then u σ H1 Q else Q false H1
def HG(t u:TT):TT:=fun σ H Q=>t σ H λc H1=>if c=true then Q true H1 else u σ H1 Q
def FC(t:TT):TT:=fun σ H Q=>t σ H λc H1=>Q (!c) H1
def pw_and1(ha:PT X a tA):PW X (.BoolOp .And [a] pos) tA:=by
 intro wh HQ s σ H Q I h;refine isTrue_and (cH (ha HQ s σ H Q I h) λc s1 e=>?_);cases c with
 | true=>exact isTrue_and_nil e
 |false=>exact e
def pw_or1(ha:PT X a tA):PW X (.BoolOp .Or [a] pos) tA:=by
 intro wh HQ s σ H Q I h;refine isTrue_or (cH (ha HQ s σ H Q I h) λc s1 e=>?_);cases c with
 | false=>exact isTrue_or_nil e
 |true=>exact e
def pw_and(ha:PT X a tA)(hb:PW X (.BoolOp .And (b::rest) pos) tB'):PW X (.BoolOp .And (a::b::rest) pos) (Gb tA tB'):=by
 intro wh HQ s σ H Q I h;refine isTrue_and (cH (ha HQ s σ H _ I h) λc s1 ⟨H1,I1,q1⟩=>?_);cases c with
 | true=>exact hb wh HQ s1 σ H1 Q I1 q1
 |false=>exact⟨H1,I1,q1⟩
def pw_or(ha:PT X a tA)(hb:PW X (.BoolOp .Or (b::rest) pos) tB'):PW X (.BoolOp .Or (a::b::rest) pos) (HG tA tB'):=by
 intro wh HQ s σ H Q I h;refine isTrue_or (cH (ha HQ s σ H _ I h) λc s1 ⟨H1,I1,q1⟩=>?_);cases c with
 | true=>exact⟨H1,I1,q1⟩
 |false=>exact hb wh HQ s1 σ H1 Q I1 q1
def Dg(ha:PT X a tA):PT X (.UnaryOp .Not a pos) (FC tA):=by
 intro HQ s σ H Q I h;exact isTrue_not (ha HQ s σ H (λc H1=>Q (!c) H1) I h)
def E7(ta tb:TE):TE:=fun σ H Q=>ta σ H λx H1=>∃c,x=.bl c/\if c=true then tb σ H1 Q else Q (.bl false) H1
def DY(ta:TE):TE:=fun σ H Q=>ta σ H λx H1=>∃c,x=.bl c/\Q (.bl (!c)) H1
def kL{op}{t:TE}(h:PE X a t):PE X (.BoolOp op [a] pos) t:=λHQ s σ H Q I hw=>BoolOp_one (h HQ s σ H Q I hw)
def Cv(ha:PE X a ta)(hb:PE X (.BoolOp .And (b::rest) pos) tb):PE X (.BoolOp .And (a::b::rest) pos) (E7 ta tb):=by
 intro HQ s σ H Q I h;refine BoolOp_and (cH (ha HQ s σ H _ I h) λv s1 ⟨x,H1,I1,r1,q1⟩=>?_);obtain⟨c,rfl,q1⟩:=q1;cases r1;refine M1 ?_;cases c with
 | true=>exact hb HQ s1 σ H1 Q I1 q1
 |false=>exact⟨.bl false,H1,I1,rfl,q1⟩
def C0(ha:PE X a ta):PE X (.UnaryOp .Not a pos) (DY ta):=by
 intro HQ s σ H Q I h;refine UnaryOp_ (cH (ha HQ s σ H _ I h) λv s1 ⟨x,H1,I1,r1,q1⟩=>?_);obtain⟨c,rfl,q1⟩:=q1;cases r1;exact not_of (M1 ⟨.bl (!c),H1,I1,rfl,q1⟩)
end
def gR(K:LI)(H:Hp)(a:Addr)(xs:List V):Prop :=
 Rd H a (.lst xs) ∨
  ∃(o:Obj)(HW:Array Value)(n:Nat),K.lookup a=some o/\o.cls=.type "list" /\ o.dict=none/\o.data=.seq HW n/\HW.size<=sizeLine/\Vals xs HW.toList
def gB(K:LI)(H:Hp)(a:Addr)(xs:List V):Prop :=
 Rd H a (.tup xs) ∨
  ∃(o:Obj)(HW:Array Value)(n:Nat),K.lookup a=some o/\o.cls=.type "tuple" /\ o.data=.seq HW n/\HW.size<=sizeLine/\Vals xs HW.toList
def Gq:Value->Option V
 | .none=>some .bz
 | .bool b=>some (.bl b)
 | .int i _=>some (.int i)
 | .str x _=>some (.str x)
 | .bytes b _=>some (.byt b)
 | .float b _=>some (.Bu b)
 | .ref a=>some (.ref a)
 | .type n=>some (.ty n)
 |_=>none
def RelV.abs{x:V}(r:RelV x u):Gq u=some x:=by
 cases x with
 | bz=>cases r;rfl
 | bl _=>cases r;rfl
 | int _=>obtain⟨t,rfl⟩:=r;rfl
 | str _=>obtain⟨t,rfl⟩:=r;rfl
 | byt _=>obtain⟨t,rfl⟩:=r;rfl
 | Bu _=>obtain⟨t,rfl⟩:=r;rfl
 | ref _=>cases r;rfl
 |ty _=>cases r;rfl
def RelV.inj{x y:V}{u:Value}(r:RelV x u)(q:RelV y u):x=y:=L8 (r.abs.symm.trans q.abs)
theorem Vals.inj:∀{xs ys:List V}{us:List Value},Vals xs us->Vals ys us->xs=ys
 | _,_,_,.nil,.nil=>rfl
 |_,_,_,.cons r t,.cons r' t'=>by rw[r.inj r',Vals.inj t t']
section
variable{xs ys:List V}
def gR.of{K:LI}(h:H a=some (.lst xs)):gR K H a xs:=.inl (.inl h)
def gB.of{K:LI}(h:H a=some (.tup xs)):gB K H a xs:=.inl (.inl h)
theorem Inv.list(I:Inv X HQ σ H s)(h:gR X.K H a xs):∃HW:List Value,Vals xs HW/\PlainL s.heap a HW.toArray/\xs.length<=sizeLine:=by
 rcases h with h|⟨o,HW,n,hk,hc,hd,hs,hz,r⟩
 .obtain⟨z,HW,n,r,e⟩:=h.ok I.bf;exact⟨HW,r,⟨_,n,e,rfl,rfl,rfl⟩,z⟩
 .refine⟨HW.toList,r,⟨o,n,I.h9 a o hk,hc,hd,by simpa using hs⟩,?_⟩;have e:=r.length;simp only[O5] at e;lia
theorem Inv.tuple(I:Inv X HQ σ H s)(h:gB X.K H a xs):∃HW:List Value,Vals xs HW/\IsTup s.heap a HW.toArray/\xs.length<=sizeLine:=by
 rcases h with h|⟨o,HW,n,hk,hc,hs,hz,r⟩
 .obtain⟨z,HW,r,p⟩:=h.ok I.bf;exact⟨HW,r,p,z⟩
 .refine⟨HW.toList,r,⟨o,I.h9 a o hk,hc,n,by simpa using hs⟩,?_⟩;have e:=r.length;simp only[O5] at e;lia
def Inv.m7(I:Inv X HQ σ H s)(h:gR X.K H a xs)(h':gR X.K H a ys):xs=ys:=by
 obtain⟨HW,r,⟨o,n,e,_,_,d⟩,_⟩:=I.list h;obtain⟨its',r',⟨o',n',e',_,_,d'⟩,_⟩:=I.list h';rw[e] at e';cases e';rw[d] at d';injection d' with d1 _
 have:HW=its':=by simpa using congrArg Se d1
 subst this;exact r.inj r'
def Inv.kK(I:Inv X HQ σ H s)(h:gB X.K H a xs)(h':gB X.K H a ys):xs=ys:=by
 obtain⟨HW,r,⟨o,e,_,n,d⟩,_⟩:=I.tuple h;obtain⟨its',r',⟨o',e',_,n',d'⟩,_⟩:=I.tuple h';rw[e] at e';cases e';rw[d] at d';injection d' with d1 _
 have:HW=its':=by simpa using congrArg Se d1
 subst this;exact r.inj r'
end
abbrev Cx.k6(X:Cx)(E:Value->Shared->Prop):Cx:={ X with xe:=E }
theorem Cx.Ok.k6{X:Cx}(ok:X.Ok)(E:Value->Shared->Prop):(X.k6 E).Ok :=
 ⟨ok.mod,ok.kind,ok.glob,ok.blt,ok.above,ok.inj,ok.has,ok.zJ,ok.hd,ok.frames,ok.Ds,ok.DH,ok.bs,ok.wU,ok.qm,ok.sE,ok.i9,ok.xC⟩
def Cx.Ok.cJ(ok:(X.k6 E).Ok):X.Ok :=
 ⟨ok.mod,ok.kind,ok.glob,ok.blt,ok.above,ok.inj,ok.has,ok.zJ,ok.hd,ok.frames,ok.Ds,ok.DH,ok.bs,ok.wU,ok.qm,ok.sE,ok.i9,ok.xC⟩
theorem Inv.k6(I:Inv X HQ σ H s)(E:Value->Shared->Prop):Inv (X.k6 E) HQ σ H s:=⟨I.ok.k6 E,I.os,I.bare,I.base,I.loc,I.cell,I.free,I.eW,I.pin,I.bf,I.len⟩
theorem Inv.cJ(I:Inv (X.k6 E) HQ σ H s):Inv X HQ σ H s:=⟨I.ok.cJ,I.os,I.bare,I.base,I.loc,I.cell,I.free,I.eW,I.pin,I.bf,I.len⟩
theorem SP.cJ{D:Ends}{f:Flow}{s':Shared}(h:SP (X.k6 E) HQ D f s'):SP X HQ D f s':=by
 cases f with
 | next=>obtain⟨σ',H',I,q⟩:=h;exact⟨σ',H',I.cJ,q⟩
 | brk=>obtain⟨σ',H',I,q⟩:=h;exact⟨σ',H',I.cJ,q⟩
 | cont=>obtain⟨σ',H',I,q⟩:=h;exact⟨σ',H',I.cJ,q⟩
 |ret u=>obtain⟨v,σ',H',I,r,q⟩:=h;exact⟨v,σ',H',I.cJ,r,q⟩
variable{te:TE}
variable{tc:TT}{c:Expr}
section
variable{st:Stmt}{rest:List Stmt}{t u:TS}
def E3:TS:=λD σ H=>D.nx σ H
def FF(t u:TS):TS:=λD σ H=>t { D with nx:=u D } σ H
def uw:i7 X [] E3:=λ_ _ σ H _ I h=>Od ⟨σ,H,I,h⟩
def rO(h1:PS X st t)(h2:i7 X rest u):i7 X (st::rest) (FF t u):=by
 intro HQ s σ H D I h;refine wpAny_execs_cons (cH (h1 HQ s σ H { D with nx:=u D } I h) λf s1 q=>?_);cases f with
 | next =>
  obtain⟨σ',H',I',q⟩:=q;exact h2 HQ s1 σ' H' D I' q
 | ret v=>exact q
 | brk=>exact q
 |cont=>exact q
def Ax(h1:PS X st t):i7 X [st] t:=by
 intro HQ s σ H D I h;refine wpAny_execs_cons (cH (h1 HQ s σ H D I h) λf s1 q=>?_);cases f with
 | next=>exact Od q
 | ret v=>exact q
 | brk=>exact q
 |cont=>exact q
def Inv.quiet(I:Inv X HQ σ H s):interactive X.env=false:=by simp[interactive,I.ok.kind]
def E9(te:TE):TS:=λD σ H=>te σ H λ_ H1=>D.nx σ H1
def u5(he:PE X e te)(hs:autoParam (swapsWith e none pos.line X.env=pure false) aR._auto_1):PS X (.Expr e pos) (E9 te):=by
 intro HQ s σ H D I h;exact wpAny_Expr_any (cH (he HQ s σ H _ I h) λv s1 ⟨x,H1,I1,r1,q1⟩=>⟨σ,H1,I1,q1⟩) I.quiet hs
def Gn(te:TE):TS:=λD σ H=>te σ H D.rt
def De(he:PE X e te):PS X (.Return (some e) pos) (Gn te):=by
 intro HQ s σ H D I h;exact wpAny_Return_some (cH (he HQ s σ H _ I h) λv s1 ⟨x,H1,I1,r1,q1⟩=>⟨x,σ,H1,I1,r1,q1⟩)
def GK(c:TT)(t u:TS):TS:=λD σ H=>c σ H λb H1=>if b=true then t D σ H1 else u D σ H1
def E8{a b:List Stmt}(hc:PT X c tc)(ha:i7 X a t)(hb:i7 X b u):PS X (.If c a b pos) (GK tc t u):=by
 intro HQ s σ H D I h;refine wpAny_If (cH (hc HQ s σ H _ I h) λd s1 ⟨H1,I1,q1⟩=>?_);cases d with
 | true=>exact ha HQ s1 σ H1 D I1 q1
 |false=>exact hb HQ s1 σ H1 D I1 q1
end
abbrev TG:=V->St->Hp->(St->Hp->Prop)->Prop
abbrev CI:=List V->St->Hp->(St->Hp->Prop)->Prop
def PG(X:Cx)(target:Expr)(t:TG):Prop :=
 ∀ (HQ:List (Addr×Obj)) (s:Shared) (σ:St) (H:Hp) (v:V) (u:Value) (Q:St->Hp->Prop),Inv X HQ σ H s->RelV v u->t v σ H Q ->
  wpAny ↑8 X.A (assign target X.env u) (λ_ s'=>∃σ' H',Inv X HQ σ' H' s'/\Q σ' H') X.xe s
def Fn(X:Cx)(ts:List Expr)(t:CI):Prop :=
 ∀ (HQ:List (Addr×Obj)) (s:Shared) (σ:St) (H:Hp) (vs:List V) (us:List Value) (Q:St->Hp->Prop),Inv X HQ σ H s->Vals vs us->t vs σ H Q ->
  wpAny ↑8 X.A (assignInOrder ((assignEach ts X.env).map (·.2)) us) (λ_ s'=>∃σ' H',Inv X HQ σ' H' s'/\Q σ' H') X.xe s
abbrev Dy:=V->V->V->Hp->(Hp->Prop)->Prop
def Er(X:Cx)(t:Dy):Prop :=
 ∀ (HQ:List (Addr×Obj)) (s:Shared) (σ:St) (H:Hp) (o i v:V) (ov iv u:Value) (Q:Hp->Prop),Inv X HQ σ H s->RelV o ov->RelV i iv->RelV v u->t o i v H Q ->
  wpAny ↑8 X.A (setItem ov iv u) (λ_ s'=>∃H',Inv X HQ σ H' s'/\Q H') X.xe s
variable{es:List Expr}
variable{n k:Nat}
variable{tg:Expr}
def br(i:Nat):TG:=λv σ H Q=>Q (σ.set i (some v)) H
def AM(hN:X.N.Nodup)(hi:X.N[i]?=some x)(hx:Loc X.env.scope x)(hf:autoParam ↑1 aF._auto_1):PG X (.Name x pos) (br i):=by
 intro HQ s σ H v u Q I r h;exact Q5 (mQ I hN hi hx r (λs' I'=>⟨_,H,I',h⟩) hf)
def qa:CI:=λvs σ H Q=>vs=[]/\Q σ H
def fy(t:TG)(u:CI):CI:=λvs σ H Q=>∃v r,vs=v::r/\t v σ H fun σ' H'=>u r σ' H' Q
def ir:Fn X [] qa:=by
 intro HQ s σ H vs us Q I r h;obtain⟨e,h⟩:=h;subst e;cases r;exact assignInOrder_nil ⟨σ,H,I,h⟩
def cB{t:TG}{u:CI}(h1:PG X e t)(h2:Fn X es u)(hs:autoParam ((assignEach (e::es) X.env).map (·.2)=assign e X.env::(assignEach es X.env).map (·.2)) aR._auto_1):Fn X (e::es) (fy t u):=by
 intro HQ s σ H vs us Q I r h;obtain⟨v,vr,e1,h⟩:=h;subst e1;cases r with
 | cons r rr =>
  rw[hs];refine assignInOrder_cons (cH (h1 HQ s σ H _ _ _ I r h) λ_ s1 ⟨σ1,H1,I1,q1⟩=>?_);exact h2 HQ s1 σ1 H1 _ _ Q I1 rr q1
def p8(K:LI)(n:Nat)(t:CI):TG:=λv σ H Q=>∃a xs,v=.ref a/\gB K H a xs/\xs.length=n/\t xs σ H Q
def jM{t:CI}(hc:X.calm=true)(h:Fn X es t)(hn:autoParam ((assignEach es X.env).length=n) aR._auto_1)(Ja:autoParam ((assignEach es X.env).findIdx? (·.1)=none) aR._auto_1):PG X (.Tuple es k pos) (p8 X.K n t):=by
 intro HQ s σ H v u Q I r hw;obtain⟨a,xs,e1,hq,hl,hw⟩:=hw;subst e1;cases r;obtain⟨HW,rv,ht,hz⟩:=I.tuple hq;refine assign_Tuple_tuple (I.ok.hd hc) ht (by simp[hn,<- hl,rv.length]) Ja λh' hx=>?_;have I1:Inv X HQ σ H { s with heap:=h' }:=I.kept (t':=s.toks) λb o e=>hx b o (L7 (LN e)) e;exact h HQ _ σ H xs _ Q I1 (by simpa using rv) hw
def FE(to ti:TE)(t:Dy):TG:=λv σ H Q=>to σ H λo H1=>ti σ H1 λi H2=>t o i v H2 λH3=>Q σ H3
def Dh{o i:Expr}{to ti:TE}{t:Dy}(ho:PE X o to)(hi:PE X i ti)(hs:Er X t)
  (ha:autoParam (∀v,assign (.Subscript o i pos) X.env v=(do
   let ov <- holding [v] (eval o X.env)
   let iv <- holding [v,ov] (eval i X.env)
   standAt pos
   holding [v,ov,iv] (setItem ov iv v)
   release [v,ov,iv] [])) aI._auto_1):PG X (.Subscript o i pos) (FE to ti t):=by
 intro HQ s σ H v u Q I r h;rw[ha];refine LH (Nb (cH (ho HQ s σ H _ I h) λov s1 ⟨x,H1,I1,r1,q1⟩=>?_));refine LH (Nb (cH (hi HQ s1 σ H1 _ I1 q1) λiv s2 ⟨y,H2,I2,r2,q2⟩=>?_));refine LH (OM (LH (Nb (cH (hs HQ s2 σ H2 x y v ov iv u _ I2 r1 r2 r q2) λ_ s3 ⟨H3,I3,q3⟩=>?_))));exact wpAny_release ⟨σ,H3,I3,q3⟩
def CB(te:TE)(g:TG):TS:=λD σ H=>te σ H λx H1=>g x σ H1 D.nx
def BU{g:TG}(he:PE X e te)(hg:PG X tg g)(hs:autoParam (swapsWithSole [tg] e pos.line X.env=pure false) aR._auto_1)(hw:autoParam (swappedStores [tg] e X.env=pure none) aR._auto_1)(h1:autoParam ((assignEach [tg] X.env).map (·.2)=[assign tg X.env]) aR._auto_1):PS X (.Assign [tg] e pos) (CB te g):=by
 intro HQ s σ H D I h;refine wpAny_Assign_stores (cH (he HQ s σ H _ I h) λv s1 ⟨x,H1,I1,r1,q1⟩=>?_) hs hw;rw[h1];exact cH (hg HQ s1 σ H1 x v _ I1 r1 q1) λ_ s2 q=>q
def ug{pos':Pos}(hN:X.N.Nodup)(hi:X.N[i]?=some x)(hx:Loc X.env.scope x)(he:PE X e te)(hs:autoParam (swapsWith e (some (.Name x pos')) pos.line X.env=pure false) aR._auto_1)(hf:autoParam ↑1 aF._auto_1):PS X (.Assign [.Name x pos'] e pos) (CB te (br i)):=by
 intro HQ s σ H D I h;refine wpAny_Assign_Name (cH (he HQ s σ H _ I h) λv s1 ⟨y,H1,I1,r1,q1⟩=>?_) hs;exact mQ I1 hN hi hx r1 (λs2 I2=>⟨_,H1,I2,q1⟩) hf
variable{tb:TS}{body:List Stmt}
def CP(c:TT)(tb:TS):TS:=λD σ H=>∃W:Nat->St->Hp->Prop,(∃m,W m σ H)/\∀m σ H,W m σ H ->
 c σ H λb H1=>if b=true then ∃N:St->Hp->Prop,(∀σ' H',N σ' H'->∃m',m'<m/\W m' σ' H')/\tb { D with nx:=N,ct:=N,bk:=D.nx } σ H1 else D.nx σ H1
def ya(hp:PassesOwn ↑8 X.A X.env X.xe)(hc:PT X c tc)(hb:i7 X body tb):PS X (.While c body [] pos) (CP tc tb):=by
 intro HQ s σ H D I h;obtain⟨W,⟨m0,w0⟩,turn⟩:=h;refine wpAny_While (codeAny_whileLoop (λn s'=>∃σ' H',Inv X HQ σ' H' s'/\W n σ' H') ?_ m0 ⟨σ,H,I,w0⟩);rintro n s1 ⟨σ1,H1,I1,w1⟩;refine NB hp (cH (hc HQ s1 σ1 H1 _ I1 (turn n σ1 H1 w1)) λb s2 ⟨H2,I2,q2⟩=>?_);cases b with
 | true =>
  obtain⟨N,hN,q2⟩:=q2;rw[if_pos rfl];refine NB hp (cH (hb HQ s2 σ1 H2 _ I2 q2) λf s3 q3=>?_);cases f with
  | next =>
   obtain⟨σ3,H3,I3,n3⟩:=q3;obtain⟨m',hm,w3⟩:=hN σ3 H3 n3;exact⟨m',hm,σ3,H3,I3,w3⟩
  | cont =>
   obtain⟨σ3,H3,I3,n3⟩:=q3;obtain⟨m',hm,w3⟩:=hN σ3 H3 n3;exact⟨m',hm,σ3,H3,I3,w3⟩
  | brk=>exact q3
  | ret v=>exact q3
 | false =>
  rw[if_neg MO];exact Od ⟨σ1,H2,I2,q2⟩
structure It where
 go:Nat->Hp->Prop
 tw:Nat->Hp->V->Hp->Prop
 stop:Nat->Hp->Prop
def lh(X:Cx)(HQ:List (Addr×Obj))(H:Hp)(b:Addr):Prop :=
 H b=none/\b≠X.env.locals/\b ∉ X.fs/\(b∈X.ex\/X.s₀.heap.objs.size<=b)/\(∀x c,X.env.cells.lookup x=some c->c≠b)/\∀p∈X.pn++HQ,p.1≠b
def Inv.t5(I:Inv X HQ σ H s)(hb:s.heap.objs.size<=b)(hn:H' b=none):lh X HQ H' b:=by
 refine⟨hn,NP (LU I.lt hb),I.Gu hb,.inr (MB I.sz hb),λx c e z=>?_,λp hp z=>?_⟩
 .obtain⟨v,q⟩:=I.cell x c e;exact absurd (LU q.lt (by rwa[z])) (Nl _)
 .exact absurd (LU (LN (I.pin p hp).1) (by rwa[z])) (Nl _)
structure Turn (P:Program) (w:World) (K:LI) (tg:Expr) (J:It) (fp:List Addr) (it:Addr) (tn:Nat->Heap->Prop):Prop where
 mem:it∈fp
 obj:∀i h,tn i h->∀b∈fp,∃o,h.get? b=some o/\∀v,o.data≠.cell v
 keep:∀i h h',tn i h->(∀b∈fp,∀o,h.get? b=some o->h'.get? b=some o)->tn i h'
 item:∀(X:Cx),X.prog=P->X.w=w->X.K=K->X.calm=true->∀(i:Nat)(HQ:List (Addr×Obj))(s:Shared)(σ:St)(H:Hp)(E:Value->Shared->Prop),Inv X HQ σ H s->(∀b∈fp,lh X HQ H b)->tn i s.heap->J.go i H ->
  wpAny (model P w) X.A (pyNext (.ref it)) (λr s1=>∃u,r=some u ∧
   wpAny (model P w) X.A (letOwnedTupleGo tg (.ref it) u) (λ_ s2=>∃x H',Inv X HQ σ H' s2/\RelV x u/\J.tw i H x H'/\tn (i+1) s2.heap/\∀b∈fp,H' b=none) E s1) E s
 done:∀(X:Cx),X.prog=P->X.w=w->X.K=K->X.calm=true->∀(i:Nat)(HQ:List (Addr×Obj))(s:Shared)(σ:St)(H:Hp)(E:Value->Shared->Prop),Inv X HQ σ H s->(∀b∈fp,lh X HQ H b)->tn i s.heap->J.stop i H ->
  wpAny (model P w) X.A (pyNext (.ref it)) (λr s1=>r=none/\Inv X HQ σ H s1) E s
 self:∀(A:Around)(i:Nat)(s:Shared)(Q:Value->Shared->Prop)(E:Value->Shared->Prop),tn i s.heap->Q (.ref it) s->wpAny (model P w) A (pyIter (.ref it)) Q E s
abbrev TI:=St->Hp->(It->Hp->Prop)->Prop
def Hf(X:Cx)(HQ:List (Addr×Obj))(σ:St)(tg:Expr)(R:It->Hp->Prop)(itv:Value)(s2:Shared):Prop :=
 ∃(it:Addr)(fp:List Addr)(tn:Nat->Heap->Prop)(J:It)(H':Hp),itv=.ref it/\Inv X HQ σ H' s2/\Turn X.prog X.w X.K tg J fp it tn/\tn 0 s2.heap/\(∀b∈fp,lh X HQ H' b)/\R J H'
def PI(X:Cx)(tg iter:Expr)(wi:TI):Prop :=
 ∀ (HQ:List (Addr×Obj)) (s:Shared) (σ:St) (H:Hp) (R:It->Hp->Prop),Inv X HQ σ H s->wi σ H R ->
  wpAny ↑8 X.A (eval iter X.env) (λv s1=>wpAny ↑8 X.A (pyIter v) (Hf X HQ σ tg R) X.xe s1) X.xe s
def yf {M : Model}{n : String}{vs : Array Value}{Q : Unit -> Shared -> Prop}(ho : s.heap.get? it=some o)(hc : o.cls=.type n)(hd : o.data=.fields vs)(hn : ["enumerate","zip","dict_itemiterator","dict_reverseitemiterator","odict_iterator","itertools.zip_longest","itertools.pairwise"].contains n=false)(hQ : Q () s) : wpAny M A (letOwnedTupleGo tg (.ref it) u) Q E s := by
  unfold letOwnedTupleGo;cases tg<;>first
    | exact LM hQ
    | (cases u<;>first
        | exact LM hQ
        | (refine LH (wpAny_load ho ?_)
           rw [hc,hd];show wpAny M A (if (["enumerate","zip","dict_itemiterator","dict_reverseitemiterator","odict_iterator","itertools.zip_longest","itertools.pairwise"].contains n && vs[0]? == some (rawInt _))=true then _ else _) Q E s;rw [if_neg (by intro h; rw [hn,Qn] at h; cases h)];exact LM hQ))
def Hh(K:LI)(a:Addr):It :=
 ⟨λi H=>∃xs x,gR K H a xs/\xs[i]?=some x,λi H x H'=>H'=H/\∀xs,gR K H a xs->xs[i]?=some x,λi H=>∃xs,gR K H a xs/\xs.length<=i⟩
def G_(K:LI)(a:Addr):It :=
 ⟨λi H=>∃xs x,gB K H a xs/\xs[i]?=some x,λi H x H'=>H'=H/\∀xs,gB K H a xs->xs[i]?=some x,λi H=>∃xs,gB K H a xs/\xs.length<=i⟩
def Ef(lo:Int)(n:Nat):It:=⟨λi _=>i<n,λi H x H'=>H'=H/\x=.int (lo+i),λi _=>n<=i⟩
theorem wu{K:LI}(a it:Addr):Turn P w K tg (Hh K a) [it] it (λi h=>h.IsListIter it a i) where
 mem:=by simp
 obj:=λi h st b hb=>by
  have e:b=it:=by simpa using hb
  subst e;obtain⟨o,e,c,d⟩:=st;exact⟨o,e,λv z=>by rw[d] at z;cases z⟩
 keep:=λi h h' st k=>st.at λo e=>k it ↑13 o e
 item:=by
  intro X hP hw hK hc i HQ s σ H E I hf st hg;subst hP hw hK;obtain⟨xs,x,hq,hx⟩:=hg;obtain⟨HW,rv,p,hz⟩:=I.list hq;obtain⟨u,hu,ru⟩:=rv.get hx;obtain⟨f0,f1,f2,f3,f4,f5⟩:=hf it ↑13;refine wpAny_pyNext_list_item st p.isList (x:=u) (by simpa using hu) λh' Ky sb=>?_;have I1:Inv X HQ σ H { s with heap:=h' }:=I.turned (t':=s.toks) (λb o hb e=>(sb.2 b hb).trans e) f0 f1 f3 f4 f5;obtain⟨o,e,c,d⟩:=id Ky;exact⟨u,rfl,yf (s:={ s with heap:=h' }) e c d ↑12 ⟨x,H,I1,ru,⟨rfl,λys hy=>by rwa[I.m7 hy hq]⟩,Ky,λb hb=>(hf b hb).1⟩⟩
 done:=by
  intro X hP hw hK hc i HQ s σ H E I hf st hg;subst hP hw hK;obtain⟨xs,hq,hx⟩:=hg;obtain⟨HW,rv,p,hz⟩:=I.list hq;obtain⟨f0,f1,f2,f3,f4,f5⟩:=hf it ↑13;have hl:=rv.length;exact wpAny_pyNext_list_end (I.ok.hd hc) st p.isList (by simp;lia) λh' eb=>⟨rfl,I.turned (t':=s.toks) (λb o hb e=>eb b o hb e) f0 f1 f3 f4 f5⟩
 self:=λ_ _ _ _ _ st h=>wpAny_pyIter_listiter st h
theorem sL{K:LI}(a it:Addr):Turn P w K tg (G_ K a) [it] it (λi h=>h.IsTupleIter it a i) where
 mem:=by simp
 obj:=λi h st b hb=>by
  have e:b=it:=by simpa using hb
  subst e;obtain⟨o,e,c,d⟩:=st;exact⟨o,e,λv z=>by rw[d] at z;cases z⟩
 keep:=λi h h' st k=>st.at λo e=>k it ↑13 o e
 item:=by
  intro X hP hw hK hc i HQ s σ H E I hf st hg;subst hP hw hK;obtain⟨xs,x,hq,hx⟩:=hg;obtain⟨HW,rv,p,hz⟩:=I.tuple hq;obtain⟨u,hu,ru⟩:=rv.get hx;obtain⟨f0,f1,f2,f3,f4,f5⟩:=hf it ↑13;refine wpAny_pyNext_tuple_item st (show s.heap.IsTuple a HW.toArray from p) (x:=u) (by simpa using hu) λh' Ky sb=>?_;have I1:Inv X HQ σ H { s with heap:=h' }:=I.turned (t':=s.toks) (λb o hb e=>(sb.2 b hb).trans e) f0 f1 f3 f4 f5;obtain⟨o,e,c,d⟩:=id Ky;exact⟨u,rfl,yf (s:={ s with heap:=h' }) e c d ↑12 ⟨x,H,I1,ru,⟨rfl,λys hy=>by rwa[I.kK hy hq]⟩,Ky,λb hb=>(hf b hb).1⟩⟩
 done:=by
  intro X hP hw hK hc i HQ s σ H E I hf st hg;subst hP hw hK;obtain⟨xs,hq,hx⟩:=hg;obtain⟨HW,rv,p,hz⟩:=I.tuple hq;obtain⟨f0,f1,f2,f3,f4,f5⟩:=hf it ↑13;have hl:=rv.length;exact wpAny_pyNext_tuple_end (I.ok.hd hc) st (show s.heap.IsTuple a HW.toArray from p) (by simp;lia) λh' eb=>⟨rfl,I.turned (t':=s.toks) (λb o hb e=>eb b o hb e) f0 f1 f3 f4 f5⟩
 self:=λ_ _ _ _ _ st h=>wpAny_pyIter_tupleiter st h
theorem ub{K:LI}(it:Addr)(lo:Int)(n:Nat):Turn P w K tg (Ef lo n) [it] it (λi h=>IsRangeIter h it (lo+(i:Nat)*1) ((n:Int)-(i:Nat)) 1) where
 mem:=by simp
 obj:=λi h st b hb=>by
  have e:b=it:=by simpa using hb
  subst e;exact⟨_,st,λv z=>by
   have z':Data.fields _=Data.cell v:=z;cases z'⟩
 keep:=λi h h' st k=>k it ↑13 _ st
 item:=by
  intro X hP hw hK hc i HQ s σ H E I hf st hg;subst hP hw hK;obtain⟨f0,f1,f2,f3,f4,f5⟩:=hf it ↑13;have W:=Walks.range (prog:=X.prog) (w:=X.w) (I.ok.hd hc) it lo 1 n;refine W.item i s _ _ hg st λv h' tk hv Ky kk=>?_;obtain⟨t,rfl⟩:=hv;have I1:Inv X HQ σ H { s with heap:=h',toks:=tk }:=I.turned (λb o hb e=>kk b o (by simpa using hb) e) f0 f1 f3 f4 f5;refine⟨_,rfl,yf (s:={ s with heap:=h',toks:=tk }) (n := "range_iterator") Ky rfl rfl ↑12 ⟨.int (lo+i),H,I1,⟨t,?_⟩,⟨rfl,rfl⟩,Ky,λb hb=>(hf b hb).1⟩⟩;rw[Int.mul_one]
 done:=by
  intro X hP hw hK hc i HQ s σ H E I hf st hg;subst hP hw hK;obtain⟨f0,f1,f2,f3,f4,f5⟩:=hf it ↑13;exact wpAny_pyNext_range_end (I.ok.hd hc) st (by have:n<=i:=hg;lia) λh' eb=>⟨rfl,I.turned (t':=s.toks) (λb o hb e=>eb b o hb e) f0 f1 f3 f4 f5⟩
 self:=λ_ _ _ _ _ st h=>wpAny_pyIter_rangeiter st h
variable{p:Pos}
variable{fp:List Addr}
theorem qJ{R:It->Hp->Prop}{lo hi:Int}{t u v:Tok}{tk:Nat}(I:Inv X HQ σ H s)(h1:-(2^62)<=lo)(h2:lo<2^62)(h3:-(2^62)<=hi)(h4:hi<2^62)(q:R (Ef lo (hi-lo).toNat) H):wpAny ↑8 X.A (pyIter (.ref s.heap.objs.size)) (Hf X HQ σ tg R) E { s with heap:=s.heap.push { cls:=.type "range",data:=.fields #[.int lo t,.int hi u,.int 1 v] },toks:=tk }:=by
 refine wpAny_pyIter_range (IsRange.new ..) (small_one h1 h2 h3 h4) ?_;have I1:Inv X HQ σ H { s with heap:=s.heap.push { cls:=.type "range",data:=.fields #[.int lo t,.int hi u,.int 1 v] },toks:=tk }:=I.kept λb o e=>LJ _ e;refine⟨(s.heap.push { cls:=.type "range",data:=.fields #[.int lo t,.int hi u,.int 1 v] }).objs.size,[(s.heap.push { cls:=.type "range",data:=.fields #[.int lo t,.int hi u,.int 1 v] }).objs.size],_,_,H,rfl,
  I1.kept (t':=tk) λb o e=>LJ _ e,ub _ lo (hi-lo).toNat,?_,λb hb=>?_,q⟩
 .have e1:lo+((0:Nat):Int)*1=lo:=by simp
  have e2:(((hi-lo).toNat:Nat):Int)-((0:Nat):Int)=Builtin.Range.rangeSize lo hi 1:=by rw[rangeSize_one];split<;>lia
  show IsRangeIter _ _ (lo+((0:Nat):Int)*1) ((((hi-lo).toNat:Nat):Int)-((0:Nat):Int)) 1;rw[e1,e2];exact LV _ rfl
 .have e:b=(s.heap.push { cls:=.type "range",data:=.fields #[.int lo t,.int hi u,.int 1 v] }).objs.size:=by simpa using hb
  subst e;exact I1.t5 (LR _) (I1.bf.fresh (LR _))
def Bi(ta:TA):TI:=fun σ H R=>ta σ H λvs H1=>∃j:Int,vs=[.int j]/\-(2^62)<=j/\j<2^62/\R (Ef 0 j.toNat) H1
def A4(ta:TA):TI:=fun σ H R=>ta σ H λvs H1=>∃i j:Int,vs=[.int i,.int j]/\(-(2^62)<=i/\i<2^62/\-(2^62)<=j/\j<2^62)/\R (Ef i (j-i).toNat) H1
theorem cu{a:Expr}{ta:TA}(hg:Gl X "range")(hm:X.mg "range"=none)(ha:PA X [a] ta)(hs:autoParam (starEach [a] X.env=[(false,eval a X.env)]) aR._auto_1):PI X tg (.Call (.Name "range" p) [a] [] pos) (Bi ta):=by
 intro HQ s σ H R I h;refine Call_ (jO I hg hm boot_range (MZ (cH (ha pos HQ s σ H _ I h) λus s1 ⟨vs,H1,I1,r1,q1⟩=>?_) hs rfl));obtain⟨j,e,q1,q2,q⟩:=q1;subst e;cases r1 with
 | cons r rr =>
  cases rr;obtain⟨t,rfl⟩:=r;exact call_range_1 (qJ I1 ⋯ ⋯ q1 q2 (by simpa using q))
def vZ{a b:Expr}{ta:TA}(hg:Gl X "range")(hm:X.mg "range"=none)(ha:PA X [a,b] ta)(hs:autoParam (starEach [a,b] X.env=[(false,eval a X.env),(false,eval b X.env)]) aR._auto_1)(JH:autoParam (starEach [b] X.env=[(false,eval b X.env)]) aR._auto_1):PI X tg (.Call (.Name "range" p) [a,b] [] pos) (A4 ta):=by
 intro HQ s σ H R I h;refine Call_ (jO I hg hm boot_range (MZ (cH (ha pos HQ s σ H _ I h) λus s1 ⟨vs,H1,I1,r1,q1⟩=>?_) (by rw[hs,JH]) (by rw[JH];rfl)));obtain⟨i,j,e,⟨q1,q2,q3,q4⟩,q⟩:=q1;subst e;cases r1 with
 | cons r rr =>
  cases rr with
  | cons r' rr =>
   cases rr;obtain⟨t,rfl⟩:=r;obtain⟨t',rfl⟩:=r';exact call_range_2 (qJ I1 q1 q2 q3 q4 q)
def Gi(wi:TI)(g:TG)(tb:TS):TS:=λD σ H=>wi σ H λJ H1=>∃W:Nat->Nat->St->Hp->Prop,(∃m,W 0 m σ H1)/\∀i m σ H,W i m σ H ->
 (J.stop i H/\D.nx σ H)\/(J.go i H/\∃N:St->Hp->Prop,(∀σ' H',N σ' H'->∃m',m'<m/\W (i+1) m' σ' H')/\∀x H',J.tw i H x H'->g x σ H' fun σ2 H2=>tb { D with nx:=N,ct:=N,bk:=D.nx } σ2 H2)
def kN(fp:List Addr)(h:Heap):List (Addr×Obj):=fp.filterMap λb=>(h.get? b).map λo=>(b,o)
def iy(hb:b∈fp)(e:h.get? b=some o):(b,o)∈kN fp h:=QK.mpr ⟨b,hb,by rw[e];rfl⟩
def vK{p:Addr×Obj}(hp:p∈kN fp h):p.1∈fp/\h.get? p.1=some p.2:=by
 obtain⟨b,hb,e⟩:=QK.mp hp;cases q:h.get? b with
 | none=>rw[q] at e;cases e
 | some o =>
  rw[q] at e;have e':(b,o)=p:=L8 e;subst e';exact⟨hb,q⟩
def Inv.pinned(I:Inv X HQ σ H s)(hf:∀b∈fp,lh X HQ H b)(ho:∀b∈fp,∃o,s.heap.get? b=some o/\∀v,o.data≠.cell v):Inv X (HQ++kN fp s.heap) σ H s :=
 I.uH λp hp=>(NT.mp hp).elim (λz=>I.pin p (Mv _ z)) λz=>by
  obtain⟨hb,e⟩:=vK z;obtain⟨f0,f1,f2,_⟩:=hf p.1 hb;obtain⟨o,e',d⟩:=ho p.1 hb;rw[e] at e';cases e';exact⟨e,f0,f1,f2,d⟩
def Inv.j_{pl:List (Addr×Obj)}(I:Inv X (HQ++pl) σ H s):Inv X HQ σ H s:=I.uH λp hp=>I.pin p (Mv _ (OR _ hp))
def BX{iter:Expr}{wi:TI}{g:TG}(hp:PassesOwn ↑8 X.A X.env X.xe)(hc:X.calm=true)(hi:PI X tg iter wi)(hg:PG X tg g)(hb:i7 X body tb)(hs:autoParam ↑5 aI._auto_1):PS X (.For tg iter body [] pos) (Gi wi g tb):=by
 intro HQ s σ H D I h;refine wpAny_For (cH (hi HQ s σ H _ I h) λv s1 h1=>cH h1 λitv s2 h2=>?_) hs;obtain⟨it,fp,tn,J,H2,e,I2,T,Ks,f2,W,⟨m0,w0⟩,turn⟩:=h2;subst e;have J0:∀{H':Hp},(∀b∈fp,H' b=none)->∀b∈fp,lh X HQ H' b:=λhn b hb=>⟨hn b hb,(f2 b hb).2⟩
 refine codeAny_forLoop_any (λn s'=>∃i σ' H',Inv X HQ σ' H' s'/\tn i s'.heap/\(∀b∈fp,H' b=none)/\W i n σ' H') ?_ m0 ⟨0,σ,H2,I2,Ks,λb hb=>(f2 b hb).1,w0⟩;rintro n s3 ⟨i,σ3,H3,I3,K8,fr3,w3⟩;rcases turn i n σ3 H3 w3 with ⟨stop,qn⟩|⟨go,N,hN,step⟩
 .refine NB hp (cH (T.done X rfl rfl rfl hc i HQ s3 σ3 H3 X.xe I3 (J0 fr3) K8 stop) λr s4 ⟨hr,I4⟩=>?_);subst hr;exact Od ⟨σ3,H3,I4,qn⟩
 .refine NB hp (cH (T.item X rfl rfl rfl hc i HQ s3 σ3 H3 X.xe I3 (J0 fr3) K8 go) λr s4 ⟨u,hr,h4⟩=>?_);subst hr;refine NB hp (cH h4 λ_ s5 ⟨x,H5,I5,r5,y5,st5,fr5⟩=>?_);have I5':=I5.pinned (J0 fr5) (T.obj _ _ st5);refine NB hp (cH (hg _ s5 σ3 H5 x u _ I5' r5 (step x H5 y5)) λ_ s6 ⟨σ6,H6,I6,q6⟩=>?_);refine NB hp (cH (hb _ s6 σ6 H6 _ I6 q6) λf s7 q7=>?_);have again:∀{σ7:St}{H7:Hp},Inv X (HQ++kN fp s5.heap) σ7 H7 s7->N σ7 H7->∃m,m<n/\∃i σ' H',Inv X HQ σ' H' s7/\tn i s7.heap/\(∀b∈fp,H' b=none)/\W i m σ' H':=λ{σ7 H7} I7 n7=>by
   obtain⟨m',hm,w7⟩:=hN σ7 H7 n7;refine⟨m',hm,i+1,σ7,H7,I7.j_,T.keep _ _ _ st5 λb hb o e=>(I7.pin (b,o) (Mv _ (Mv _ (iy hb e)))).1,λb hb=>?_,w7⟩;obtain⟨o,e,d⟩:=T.obj _ _ st5 b hb;exact(I7.pin (b,o) (Mv _ (Mv _ (iy hb e)))).2.1
  cases f with
  | next=>obtain⟨σ7,H7,I7,n7⟩:=q7;exact again I7 n7
  | cont=>obtain⟨σ7,H7,I7,n7⟩:=q7;exact again I7 n7
  | brk=>obtain⟨σ7,H7,I7,q7⟩:=q7;exact⟨σ7,H7,I7.j_,q7⟩
  |ret v=>obtain⟨x7,σ7,H7,I7,r7,q7⟩:=q7;exact⟨x7,σ7,H7,I7.j_,r7,q7⟩
abbrev R2:=V->V->Hp->VK->Prop
def gc(X:Cx)(f:Value->Value->Sem Value)(r:R2):Prop :=
 ∀ (HQ:List (Addr×Obj)) (s:Shared) (σ:St) (H:Hp) (x y:V) (v u:Value) (Q:VK),Inv X HQ σ H s->RelV x v->RelV y u->r x y H Q ->
  wpAny ↑8 X.A (f v u) (EP X HQ σ Q) X.xe s
def GX(X:Cx)(f:Value->Sem Value)(r:V->Hp->VK->Prop):Prop :=
 ∀ (HQ:List (Addr×Obj)) (s:Shared) (σ:St) (H:Hp) (x:V) (v:Value) (Q:VK),Inv X HQ σ H s->RelV x v->r x H Q ->
  wpAny ↑8 X.A (f v) (EP X HQ σ Q) X.xe s
def dn(X:Cx)(f:Value)(r:List V->Hp->VK->Prop):Prop :=
 ∀ (HQ:List (Addr×Obj)) (s:Shared) (σ:St) (H:Hp) (xs:List V) (us:List Value) (Q:VK),Inv X HQ σ H s->Vals xs us->r xs H Q ->
  wpAny ↑8 X.A (call f us) (EP X HQ σ Q) X.xe s
def Ee(r:R2)(ta tb:TE):TE:=fun σ H Q=>ta σ H λx H1=>tb σ H1 λy H2=>r x y H2 Q
def Hj(r:V->Hp->VK->Prop)(ta:TE):TE:=fun σ H Q=>ta σ H λx H1=>r x H1 Q
def rI(C:Int->Int->Prop)(g:Int->Int->V):R2:=λx y H Q=>∃i j,x=.int i/\y=.int j/\C i j/\Q (g i j) H
def uN(g:Int->Int->V):R2:=λx y H Q=>∃i j,x=.int i/\y=.int j/\Q (g i j) H
def rU(g:Int->V):V->Hp->VK->Prop:=λx H Q=>∃i,x=.int i/\Q (g i) H
variable{f:Value->Value->Sem Value}
variable{r:R2}
section
variable{a b:Expr}{tb tc:TE}
def B_(ha:PE X a ta)(hb:PE X b tb){R:V->V->Hp->Prop}(I:Inv X HQ σ H s)(h:ta σ H λx H1=>tb σ H1 λy H2=>R x y H2)(hf:∀v u s2 x y H2,Inv X HQ σ H2 s2->RelV x v->RelV y u->R x y H2->wpAny ↑8 X.A (f v u) Q X.xe s2):wpAny ↑8 X.A (eval a X.env) (λv s₁=>wpAny ↑8 X.A (eval b X.env) (λu s₂=>wpAny ↑8 X.A (f v u) Q X.xe s₂) X.xe s₁) X.xe s:=by
 refine cH (ha HQ s σ H _ I h) λv s1 ⟨x,H1,I1,r1,q1⟩=>?_;refine cH (hb HQ s1 σ H1 _ I1 q1) λu s2 ⟨y,H2,I2,r2,q2⟩=>?_;exact hf v u s2 x y H2 I2 r1 r2 q2
def E_{op:Operator}(ho:gc X (binaryOp op) r)(ha:PE X a ta)(hb:PE X b tb):PE X (.BinOp a op b pos) (Ee r ta tb):=by
 intro HQ s σ H Q I h;exact wpAny_BinOp (B_ ha hb I h λv u s2 x y H2 I2 rx ry q=>ho HQ s2 σ H2 x y v u Q I2 rx ry q)
def EA{op:UnaryOp}{r:V->Hp->VK->Prop}(ho:GX X (unaryOp op) r)(ha:PE X a ta):PE X (.UnaryOp op a pos) (Hj r ta):=by
 intro HQ s σ H Q I h;exact UnaryOp_ (cH (ha HQ s σ H _ I h) λv s1 ⟨x,H1,I1,r1,q1⟩=>ho HQ s1 σ H1 x v Q I1 r1 q1)
def Ft{C:Int->Int->Prop}{g:Int->Int->Int}(rule:∀(i j:Int)(t u:Tok)(s:Shared)(Q:Value->Shared->Prop)(E:Value->Shared->Prop),C i j->Q (.int (g i j) s.toks) { s with toks:=s.toks+1 }->wpAny ↑8 X.A (f (.int i t) (.int j u)) Q E s):gc X f (rI C λi j=>.int (g i j)):=by
 intro HQ s σ H x y v u Q I rx ry h;obtain⟨i,j,rfl,rfl,hc,q⟩:=h;obtain⟨t,rfl⟩:=rx;obtain⟨t',rfl⟩:=ry;exact rule i j t t' s _ _ hc ⟨.int (g i j),H,I.tok _,⟨_,rfl⟩,q⟩
def D2{g:Int->Int->Int}(rule:∀(i j:Int)(t u:Tok)(s:Shared)(Q:Value->Shared->Prop)(E:Value->Shared->Prop),Q (.int (g i j) s.toks) { s with toks:=s.toks+1 }->wpAny ↑8 X.A (f (.int i t) (.int j u)) Q E s):gc X f (uN λi j=>.int (g i j)):=by
 intro HQ s σ H x y v u Q I rx ry h;obtain⟨i,j,rfl,rfl,q⟩:=h;obtain⟨t,rfl⟩:=rx;obtain⟨t',rfl⟩:=ry;exact rule i j t t' s _ _ ⟨.int (g i j),H,I.tok _,⟨_,rfl⟩,q⟩
def z9{g:Int->Int->Bool}(rule:∀(i j:Int)(t u:Tok)(s:Shared)(Q:Value->Shared->Prop)(E:Value->Shared->Prop),Q (.bool (g i j)) s->wpAny ↑8 X.A (f (.int i t) (.int j u)) Q E s):gc X f (uN λi j=>.bl (g i j)):=by
 intro HQ s σ H x y v u Q I rx ry h;obtain⟨i,j,rfl,rfl,q⟩:=h;obtain⟨t,rfl⟩:=rx;obtain⟨t',rfl⟩:=ry;exact rule i j t t' s _ _ ⟨.bl (g i j),H,I,rfl,q⟩
def Cg(i j:Int):Prop:=0<=j/\j<=1000000/\i.natAbs<2^64
def CA:gc X (binaryOp .Add) (uN λi j=>.int (i+j)):=D2 λ_ _ _ _ _ _ _ q=>add_int q
def C6:gc X (binaryOp .Sub) (uN λi j=>.int (i-j)):=D2 λ_ _ _ _ _ _ _ q=>sub_int q
def zZ:gc X (binaryOp .Mod) (rI (λ_ j=>j≠0) λi j=>.int (i.fmod j)):=Ft λ_ _ _ _ _ _ _ hc q=>mod_int' hc q
def B9:gc X (binaryOp .Pow) (rI Cg λi j=>.int (i^j.toNat)):=Ft λ_ _ _ _ _ _ _ hc q=>pow_int_small hc.1 hc.2.1 hc.2.2 q
def Hn{f:Value->Sem Value}{g:Int->Int}(rule:∀(i:Int)(t:Tok)(s:Shared)(Q:Value->Shared->Prop)(E:Value->Shared->Prop),Q (.int (g i) s.toks) { s with toks:=s.toks+1 }->wpAny ↑8 X.A (f (.int i t)) Q E s):GX X f (rU λi=>.int (g i)):=by
 intro HQ s σ H x v Q I rx h;obtain⟨i,rfl,q⟩:=h;obtain⟨t,rfl⟩:=rx;exact rule i t s _ _ ⟨.int (g i),H,I.tok _,⟨_,rfl⟩,q⟩
def BH:GX X (unaryOp .USub) (rU λi=>.int (-i)):=Hn λ_ _ _ _ _ q=>neg_int q
end
variable{op:CmpOp}
variable{us:List Value}
section
variable{a b:Expr}{tb tc:TE}
def sT{Q:VK}{k k':Bool}(I:Inv X HQ σ H s)(q:Q (.bl k) H)(e:k=k'):EP X HQ σ Q (.bool k') s:=by
 subst e;exact⟨.bl k,H,I,rfl,q⟩
def rn:gc X (compareOp .Lt) (uN λi j=>.bl (decide (i<j))):=z9 λ_ _ _ _ _ _ _ q=>lt_int q
def n5:gc X (compareOp .LtE) (uN λi j=>.bl (decide (i<=j))):=z9 λ_ _ _ _ _ _ _ q=>le_int q
def Ba:gc X (compareOp .Gt) (uN λi j=>.bl (decide (j<i))):=z9 λ_ _ _ _ _ _ _ q=>gt_int q
def Bf:gc X (compareOp .GtE) (uN λi j=>.bl (decide (j<=i))):=z9 λ_ _ _ _ _ _ _ q=>ge_int q
def wZ:gc X (compareOp .Is) (λx y H Q=>y=.bz/\Q (.bl (decide (x=.bz))) H):=by
 intro HQ s σ H x y v u Q I rx ry h;obtain⟨rfl,q⟩:=h;cases ry;refine is_none_gen (sT I q ?_);cases x<;>first
  | (cases rx;rfl)
  |(obtain⟨t,rfl⟩:=rx;rfl)
def gc.or{r':R2}(h:gc X f r)(h':gc X f r'):gc X f (λx y H Q=>r x y H Q\/r' x y H Q):=by
 intro HQ s σ H x y v u Q I rx ry q;rcases q with q|q
 .exact h HQ s σ H x y v u Q I rx ry q
 .exact h' HQ s σ H x y v u Q I rx ry q
def eR(b:Expr)(h:autoParam (op≠.In) aD._auto_1)(h2:autoParam (op≠.NotIn) aD._auto_1):behindInMarks op b=false:=by
 have e1:(op==CmpOp.In)=false:=by cases op<;>first|rfl|exact absurd rfl h
 have e2:(op==CmpOp.NotIn)=false:=by cases op<;>first|rfl|exact absurd rfl h2
 cases b<;>simp[behindInMarks,e1,e2]
def zX(ho:gc X (compareOp op) r)(ha:PE X a ta)(hb:PE X b tb)(hm:behindInMarks op b=false):PE X (.Compare a [op] [b] pos) (Ee r ta tb):=by
 intro HQ s σ H Q I h;exact wpAny_Compare1 (B_ ha hb I h λv u s2 x y H2 I2 rx ry q=>ho HQ s2 σ H2 x y v u Q I2 rx ry q) hm
def Bh(t:TE):TT:=fun σ H Q=>t σ H λx H'=>∃k,x=.bl k/\Q k H'
def z7(ho:gc X (compareOp op) r)(ha:PE X a ta)(hb:PE X b tb)(hm:behindInMarks op b=false):PT X (.Compare a [op] [b] pos) (Bh (Ee r ta tb)):=by
 intro HQ s σ H Q I h;refine wpAny_isTrue_Compare1 (cH (ha HQ s σ H _ I h) λv s1 ⟨x,H1,I1,r1,q1⟩=>cH (hb HQ s1 σ H1 _ I1 q1) λu s2 ⟨y,H2,I2,r2,q2⟩ =>
  cH (ho HQ s2 σ H2 x y v u _ I2 r1 r2 q2) λc s3 ⟨z,H3,I3,r3,k,e,q3⟩=>?_) hm
 subst e;cases r3;exact M1 ⟨H3,I3,q3⟩
def tW(r r':R2)(ta tb tc:TE):TE:=fun σ H Q=>ta σ H λx H1=>tb σ H1 λy H2=>r x y H2 λz H3=>∃k,z=.bl k ∧
 (if k=true then tc σ H3 λw' H4=>r' y w' H4 Q else Q (.bl false) H3)
def xn{JW:CmpOp}{r':R2}(ho:gc X (compareOp op) r)(Ju:gc X (compareOp JW) r')(ha:PE X a ta)(hb:PE X b tb)(hc:PE X c tc)(hm:autoParam (lastMarks [op,JW] [b,c]=false) aU._auto_1):PE X (.Compare a [op,JW] [b,c] pos) (tW r r' ta tb tc):=by
 intro HQ s σ H Q I h;refine Compare_chain (cH (ha HQ s σ H _ I h) λv s1 ⟨x,H1,I1,r1,q1⟩=>chain_link (cH (hb HQ s1 σ H1 _ I1 q1) λu s2 ⟨y,H2,I2,r2,q2⟩ =>
  cH (ho HQ s2 σ H2 x y v u _ I2 r1 r2 q2) λd s3 ⟨z,H3,I3,r3,k,e,q3⟩=>?_)) hm
 subst e;cases r3;refine M1 ?_;cases k with
 | false=>exact ite_ff ⟨.bl false,H3,I3,rfl,q3⟩
 |true=>exact ite_tt (chain_last (cH (hc HQ s3 σ H3 _ I3 q3) λw' s4 ⟨z',H4,I4,r4,q4⟩=>Ju HQ s4 σ H4 y z' u w' Q I4 r2 r4 q4))
def yO{JW:CmpOp}{r':R2}(ho:gc X (compareOp op) r)(Ju:gc X (compareOp JW) r')(ha:PE X a ta)(hb:PE X b tb)(hc:PE X c tc)(hm:autoParam (lastMarks [op,JW] [b,c]=false) aU._auto_1):PT X (.Compare a [op,JW] [b,c] pos) (Bh (tW r r' ta tb tc)):=by
 intro HQ s σ H Q I h;refine isTrue_chain (cH (ha HQ s σ H _ I h) λv s1 ⟨x,H1,I1,r1,q1⟩=>test_link (cH (hb HQ s1 σ H1 _ I1 q1) λu s2 ⟨y,H2,I2,r2,q2⟩ =>
  cH (ho HQ s2 σ H2 x y v u _ I2 r1 r2 q2) λd s3 ⟨z,H3,I3,r3,k,e,q3⟩=>?_)) hm
 subst e;cases r3;refine M1 ?_;cases k with
 | false =>
  obtain⟨k',e',q'⟩:=q3;cases e';exact ite_ff ⟨H3,I3,q'⟩
 | true =>
  refine ite_tt (test_last (cH (hc HQ s3 σ H3 _ I3 q3) λw' s4 ⟨z',H4,I4,r4,q4⟩=>cH (Ju HQ s4 σ H4 y z' u w' _ I4 r2 r4 q4) λd' s5 ⟨z2,H5,I5,r5,k2,e2,q5⟩=>?_));subst e2;cases r5;exact M1 ⟨H5,I5,q5⟩
def kM:(sizeLine:Nat)<2^63:=by rw[sizeLine_eq];decide
def tH:gc X (binaryOp .Add) (λx y H Q=>∃i j,x=.str i/\y=.str j/\i.length+j.length<=sizeLine/\Q (.str (i++j)) H):=by
 intro HQ s σ H x y v u Q I rx ry h;obtain⟨i,j,rfl,rfl,hz,q⟩:=h;obtain⟨t,rfl⟩:=rx;obtain⟨t',rfl⟩:=ry;exact add_str (λt' tk=>⟨.str (i++j),H,I.tok _,⟨_,rfl⟩,q⟩) hz
def vals1{x:V}(r:Vals [x] us):∃u,us=[u]/\RelV x u:=by
 cases r with
 |cons r1 r2=>cases r2;exact⟨_,rfl,r1⟩
def vals2{x y:V}(r:Vals [x,y] us):∃u w',us=[u,w']/\RelV x u/\RelV y w':=by
 cases r with
 | cons r1 r2 =>
  cases r2 with
  |cons r3 r4=>cases r4;exact⟨_,_,rfl,r1,r3⟩
def oU(hc:X.calm=true):dn X (.builtin "max") (λxs H Q=>∃i j,xs=[.int i,.int j]/\Q (.int (if j>i then j else i)) H):=by
 intro HQ s σ H xs us Q I r h;obtain⟨i,j,rfl,q⟩:=h;obtain⟨u,w',rfl,⟨t,rfl⟩,⟨t',rfl⟩⟩:=vals2 r;refine max_two_ints (I.ok.hd hc) λh' tk k=>⟨_,H,I.kept k,?_,q⟩
 by_cases hj:j>i
 .rw[if_pos hj,if_pos hj];exact⟨_,rfl⟩
 .rw[if_neg hj,if_neg hj];exact⟨_,rfl⟩
def v8(hc:X.calm=true):dn X (.builtin "min") (λxs H Q=>∃i j,xs=[.int i,.int j]/\Q (.int (if j<i then j else i)) H):=by
 intro HQ s σ H xs us Q I r h;obtain⟨i,j,rfl,q⟩:=h;obtain⟨u,w',rfl,⟨t,rfl⟩,⟨t',rfl⟩⟩:=vals2 r;refine min_two_ints (I.ok.hd hc) λh' tk k=>⟨_,H,I.kept k,?_,q⟩
 by_cases hj:j<i
 .rw[if_pos hj,if_pos hj];exact⟨_,rfl⟩
 .rw[if_neg hj,if_neg hj];exact⟨_,rfl⟩
end
structure t4 (h:Heap) (x dx C:Addr) (mA:Str->Option Value):Prop where
 obj:h.get? x=some (Ni C dx)
 ns:h.Ns1 dx mA
 ne:dx≠x
variable{mA:Str->Option Value}{dx:Addr}
def ly(n:h.Ns1 dx mA):∃od,h.get? dx=some od/\∀name,Oo name od=some (mA name):=by
 obtain⟨o,es,ep,ho,hd,hk,_,hm⟩:=n;refine⟨o,ho,λname=>?_⟩;have e:=hm name;unfold nsFind findBy at e;rw[<- QL] at e;unfold Oo;rw[hd];dsimp only
 split
 .rename_i y q;rw[q] at e;exact congrArg some e
 .rename_i q;rw[q] at e;have a:es.toList.any (·.refKey)=false:=by
   rw[List.any_eq_false];intro y hy;obtain⟨z,t,hkey⟩:=hk y (Array.mem_toList_iff.mp hy);simp[DictEntry.refKey,hkey]
  have a':¬ es.toList.any (·.refKey)=true:=by rw[a];exact MO
  rw[if_neg a'];exact congrArg some e
variable{C:Addr}
def t4.look{x:Addr}(I:t4 h x dx C mA):∃od,Nr h x (Ni C dx) C (some od)/\∀name,Oo name od=some (mA name) :=
 let ⟨od,ho,hl⟩:=ly I.ns
 ⟨od,⟨I.obj,rfl,rfl,ho⟩,hl⟩
variable{prog:Program}
variable{pl:Sem Bool}
variable{kw:List (Str×Value)}
section
variable{K:LI}{x f:Addr}{name:Str}{v:Value}
def get_map{expr:Bool}(X:K.In s.heap)(I:t4 s.heap x dx C mA)(hg:OH K C name=true)(hh:Oq K C=true)(ha:Ms K (.ref C) name=some none)(hv:mA name=some v)(KY:Rt v=true)(h:Q v { s with toks:=s.toks+1 }):wpAny ↑11 A (getAttr (.ref x) name expr) Q E s:=by
 obtain⟨od,J,hl⟩:=I.look;exact PySem.W.get_value X J (O6 hg).1 (Qy hh ha rfl (by rw[hl,hv])) KY h
def w9{Q:Value×List Value->Shared->Prop}(X:K.In s.heap)(I:t4 s.heap x dx C mA)(hg:OH K C name=true)(hf:Ms K (.ref C) name=some (some (.ref f)))(ht:N2 K (.ref f)=true)(hv:mA name=none)(h:Q (.ref f,[.ref x]) s):wpAny ↑11 A (getMethod (.ref x) name pl) Q E s:=by
 obtain⟨od,J,hl⟩:=I.look;exact PySem.W.method_fn X J (O6 hg).1 (O6 hg).2 hf (beq_iff_eq.mp ht) (by show (Oo name od).map (·.isSome)=some false;rw[hl,hv];rfl) h
theorem Az{ns:List Str}{Q:Unit->Shared->Prop}(X:K.In s.heap)(I:t4 s.heap x dx C mA)(hs:Ms K (.ref C) "__setattr__"=some (some (.builtin "object.__setattr__")))(hp:Q6 K C=true)(ht:Oe K C name=some none)(hh:Oq K C=true)(hw:Q4 mA ns)(JD:ns.length<=sizeLine)(h:∀h',t4 h' x dx C (λy=>if y=name then some v else mA y)->Om dx s.heap h'->Q () { s with heap:=h',toks:=s.toks+2 }):wpAny ↑11 A (setAttr (.ref x) name v) Q E s:=by
 obtain⟨od,J,hl⟩:=I.look;refine Q7 X J hs (PySem.W.osa_open (s:={ s with toks:=s.toks+1 }) (r:=none) X J hp ht λb=>?_);obtain⟨cd,hc,Li⟩:=NK hh;have hx:s.heap.get? x=some ⟨.ref C,some dx,.plain,#[]⟩:=I.obj;refine LH (LM (LH (LH (Ot hx (LH (QM (s:={ s with toks:=s.toks+1 }) (O7 X hc) ?_))))));rw[Li];refine LM (a:=some dx) (LH (LM (LH ?_)));refine wpAny_nsSet1 (s:={ s with toks:=s.toks+1 }) I.ns λh' Kx JH=>?_;obtain⟨oD,esD,epD,hoD,hdD,Kh⟩:=Kx.count (Q8 name v hw);refine LH (wpAny_lookBehind hoD (by rw[hdD];exact pastItsLine_dict (MB Kh (by rw[M9];lia))) ?_);exact LM (h _ ⟨(JH.2 _ (Nk I.ne)).trans I.obj,Kx,I.ne⟩ JH)
def xw{R:Result->Shared->Prop}{vs:List Value}(X:K.In s.heap)(hm:RO K C=true)(hi:Ms K (.ref C) "__init__"=some (some (.ref f)))(hf:NV K (.ref f)=some (.type "function"))(h:codeAny ↑11 (A.under (.builtin "type.__call__" ⟨.ref C::vs,kw⟩)) (.call (.ref f) ⟨.ref (s.heap.objs.size+1)::vs,kw⟩) (PySem.W.InitBack (s.heap.objs.size+1) R) { s with heap:=(s.heap.push MT).push (Ni C s.heap.objs.size) }):codeAny ↑11 A (.call (.ref C) ⟨vs,kw⟩) R s:=by
 obtain⟨hh,g,d,t,os⟩:=s;exact PySem.W.make_core (PySem.W.makes_of X hm) (NW X hi) (λself=>RP X self hf) (.inl rfl) h
end
def iQ(f:Str)(v:V):List (Str×V)->List (Str×V)
 | []=>[(f,v)]
 |(g,x)::r=>if g=f then (g,v)::r else (g,x)::iQ f v r
theorem lJ(f g:Str)(v:V):∀fs:List (Str×V),(iQ f v fs).lookup g=if g=f then some v else fs.lookup g
 | []=>by
  show NX g [(f,v)]=_
  by_cases h:g=f
  .have hb:(g==f)=true:=beq_iff_eq.mpr h;simp only[NX,hb,if_pos h]
  .have hb:(g==f)=false:=beq_eq_false_iff_ne.mpr h;simp only[NX,hb,if_neg h]
 | (k,x)::r=>by
  have ih:=lJ f g v r;rw[show iQ f v ((k,x)::r)=(if k=f then (k,v)::r else (k,x)::iQ f v r) from rfl]
  by_cases hk:k=f
  .rw[if_pos hk]
   by_cases h:g=k
   .have hb:(g==k)=true:=beq_iff_eq.mpr h;simp only[NX,hb,if_pos (h.trans hk)]
   .have hb:(g==k)=false:=beq_eq_false_iff_ne.mpr h;simp only[NX,hb,if_neg (λe:g=f=>h (e.trans hk.symm))]
  .rw[if_neg hk]
   by_cases h:g=k
   .have hb:(g==k)=true:=beq_iff_eq.mpr h;simp only[NX,hb,if_neg (λe:g=f=>hk (h.symm.trans e))]
   .have hb:(g==k)=false:=beq_eq_false_iff_ne.mpr h;simp only[NX,hb];exact ih
theorem lq(f:Str)(v:V):∀fs:List (Str×V),f∈(iQ f v fs).map (·.1)/\∀g,g∈fs.map (·.1)->g∈(iQ f v fs).map (·.1)
 | []=>⟨by simp[iQ],λg h=>by simp at h⟩
 | (k,x)::r=>by
  obtain⟨i1,i2⟩:=lq f v r;rw[show iQ f v ((k,x)::r)=(if k=f then (k,v)::r else (k,x)::iQ f v r) from rfl]
  by_cases hk:k=f
  .rw[if_pos hk];subst hk;exact⟨by simp,λg h=>by simpa using h⟩
  .rw[if_neg hk];refine⟨?_,λg h=>?_⟩
   .rw[Mg];exact LQ _ i1
   .rw[Mg] at h ⊢;rcases L5.mp h with e|e
    .exact L5.mpr (.inl e)
    .exact LQ _ (i2 g e)
theorem lO(f:Str)(v:V):∀fs:List (Str×V),(iQ f v fs).length<=fs.length+1
 | []=>by simp[iQ]
 | (k,x)::r=>by
  have ih:=lO f v r;rw[show iQ f v ((k,x)::r)=(if k=f then (k,v)::r else (k,x)::iQ f v r) from rfl]
  by_cases hk:k=f
  .rw[if_pos hk,M9,M9];lia
  .rw[if_neg hk,M9,M9];lia
def kx.some_of{o:Option Value}(r:kx (some v) o):∃u,o=some u/\RelV v u:=by
 cases o with
 | none=>exact(show False from r).elim
 |some u=>exact⟨u,rfl,r⟩
def kx.none_of{o:Option Value}(r:kx none o):o=none:=by
 cases o with
 | none=>rfl
 |some u=>exact(show False from r).elim
def pH(r:RelV v u):Rt u=true:=by
 cases v with
 | bz=>cases (show u=Mt from r);rfl
 | bl b=>cases (show u=Mw b from r);rfl
 | int i=>obtain⟨t,e⟩:=(show ∃t,u=PD i t from r);cases e;rfl
 | str x=>obtain⟨t,e⟩:=(show ∃t,u=PF x t from r);cases e;rfl
 | byt b=>obtain⟨t,e⟩:=(show ∃t,u=Si b t from r);cases e;rfl
 | Bu b=>obtain⟨t,e⟩:=(show ∃t,u=Qm b t from r);cases e;rfl
 | ref a=>cases (show u=LS a from r);rfl
 |ty n=>cases (show u=M0 n from r);rfl
section
variable{fs fs':List (Str×V)}
def ku(bf:kX P w H h)(e:H a=some (.ins C dx fs)):∃mA,t4 h a dx C mA/\(∀f,kx (fs.lookup f) (mA f))/\Q4 mA (fs.map (·.1))/\fs.length<=1000/\H dx=some (.own a):=by
 obtain⟨d,z,ne,ob,mA,n,r,q⟩:=(show bN P w H h a (.ins C dx fs) from bf a _ e)
 exact⟨mA,⟨ob,n,ne⟩,r,q,z,d⟩
end
structure ot (K:LI) (C:Addr):Prop where
 pg:OH K C Str.empty=true
 hd:Oq K C=true
 po:Q6 K C=true
 sa:Ms K (.ref C) "__setattr__"=some (some (.builtin "object.__setattr__"))
def ot.get{K:LI}(c:ot K C)(f:Str):OH K C f=true:=c.pg
def cF(K:LI)(C:Addr)(f:Str):Prop:=Ms K (.ref C) f=some none
def cF.Be{K:LI}{f:Str}(n:cF K C f):Oe K C f=some none:=by
 unfold Oe;rw[show Ms K (.ref C) f=some none from n];rfl
structure Meth (K:LI) (C:Addr) (m:Str) (f:Addr):Prop where
 at_:Ms K (.ref C) m=some (some (.ref f))
 fn:N2 K (.ref f)=true
 kp:Mi K (.ref f)=true
variable{m:Str}
section
variable{fs:List (Str×V)}{f:Str}
def t_{b:Bool}(I:Inv X HQ σ H s)(e:H a=some (.ins C dx fs))(c:ot X.K C)(n:cF X.K C f)(l:fs.lookup f=some v)(h:∀u s',Inv X HQ σ H s'->RelV v u->Q u s'):wpAny ↑8 A (getAttr (.ref a) f b) Q E s:=by
 obtain⟨mA,O,r,_,_,_⟩:=ku I.bf e;obtain⟨u,hu,ru⟩:=kx.some_of (v:=v) (o:=mA f) (by rw[<- l];exact r f);exact get_map I.h9 O (c.get f) c.hd n hu (pH ru) (h u _ (I.tok _) ru)
def sZ{g:Addr}{Q:Value×List Value->Shared->Prop}(I:Inv X HQ σ H s)(e:H a=some (.ins C dx fs))(c:ot X.K C)(k:Meth X.K C m g)(l:fs.lookup m=none)(h:Q (.ref g,[.ref a]) s):wpAny ↑8 A (getMethod (.ref a) m pl) Q E s:=by
 obtain⟨mA,O,r,_,_,_⟩:=ku I.bf e;have hn:mA m=none:=kx.none_of (by rw[<- l];exact r m);exact w9 I.h9 O (c.get m) k.at_ k.fn hn h
theorem tR{y:V}{Q:Unit->Shared->Prop}(I:Inv X HQ σ H s)(e:H a=some (.ins C dx fs))(c:ot X.K C)(n:cF X.K C f)(hl:fs.length<1000)(ry:RelV y u)(h:∀s',Inv X HQ σ (upd H a (.ins C dx (iQ f y fs))) s'->Q () s'):wpAny ↑8 A (setAttr (.ref a) f u) Q E s:=by
 obtain⟨mA,O,r,wi,_,ho⟩:=ku I.bf e;have hz:(fs.map (·.1)).length<=sizeLine:=by rw[LK,sizeLine_eq];lia
 refine Az I.h9 O c.sa c.po n.Be c.hd wi hz λh' O' sb=>h _ ?_;have hd:∃o,h'.get? dx=some o:=let ⟨o,_,_,e',_⟩:=O'.ns;⟨o,e'⟩
 refine I.write (x:=a) (e:=dx) (by rw[e];exact Nj) (.inr ho) (λb q hb z=>(sb.2 b hb).trans z) hd ?_;refine⟨by rwa[aq O.ne],?_,O.ne,O'.obj,_,O'.ns,λg=>?_,λg hg=>?_⟩
 .have:=lO f y fs;lia
 .show kx ((iQ f y fs).lookup g) (if g=f then some u else mA g);rw[lJ]
  by_cases q:g=f
  .rw[if_pos q,if_pos q];exact ry
  .rw[if_neg q,if_neg q];exact r g
 .by_cases q:g=f
  .rw[q];exact(lq f y fs).1
  .refine(lq f y fs).2 g (wi g λz=>hg ?_);show (if g=f then some u else mA g)=none;rwa[if_neg q]
def Inv.made(I:Inv X HQ σ H s):Inv X HQ σ (upd (upd H s.heap.objs.size (.own (s.heap.objs.size+1))) (s.heap.objs.size+1) (.ins C s.heap.objs.size [])) { s with heap:=(s.heap.push MT).push (Ni C s.heap.objs.size) }:=by
 have e1:(s.heap.push MT).get? s.heap.objs.size=some MT:=LV s.heap rfl;have e2:((s.heap.push MT).push (Ni C s.heap.objs.size)).get? (s.heap.objs.size+1)=some (Ni C s.heap.objs.size):=by
  have:=LV (s.heap.push MT) (o:=Ni C s.heap.objs.size) rfl
  rwa [MJ] at this
 have e3:(s.heap.push MT).Ns s.heap.objs.size (λ_=>none):=⟨MT,#[],_,e1,rfl,(λe he=>absurd he ↑13),λ_=>rfl⟩
 have I1:=I.laid (a:=s.heap.objs.size) (o:=.own (s.heap.objs.size+1)) (h':=s.heap.push MT) (t':=s.toks) (λb u q=>LJ _ q) (LR _) ⟨_,e1⟩;refine I1.laid (a:=s.heap.objs.size+1) (o:=.ins C s.heap.objs.size []) (t':=s.toks) (λb u q=>LJ _ q) (Q9 (MJ _ _)) ?_;have ne:s.heap.objs.size≠s.heap.objs.size+1:=L7 (M_ _);refine⟨by rw[aq ne,aw],MP _,ne,e2,λ_=>none,(Q_ e3).at λo q=>LJ _ q,λ_=>Nj,λy hy=>absurd rfl hy⟩
def uA{env:Env}{f:Str}(hb:attributeBase e f env (eval e env)=eval e env)(h:wpAny ↑11 A (eval e env) (λo s₁=>wpAny ↑11 A (getAttr o f true) Q E s₁) E s):wpAny ↑11 A (eval (.Attribute e f pos) env) Q E s :=
 Attribute_any_ h (by rw[arm_eval_Attribute,hb])
end
def F1(K:LI)(ta:TE)(f:Str):TE:=fun σ H Q=>ta σ H λx H1=>∃a C dx fs v,x=.ref a/\H1 a=some (.ins C dx fs)/\ot K C/\cF K C f/\fs.lookup f=some v/\Q v H1
def FX(K:LI)(ta tv:TE)(f:Str):TS:=λD σ H=>tv σ H λy H1=>ta σ H1 λx H2=>∃a C dx fs,x=.ref a/\H2 a=some (.ins C dx fs)/\ot K C/\cF K C f/\fs.length<1000 ∧
 D.nx σ (upd H2 a (.ins C dx (iQ f y fs)))
section
variable{o value:Expr}{f:Str}{pos' LG:Pos}{tv:TE}
def CU(he:PE X e ta)(hb:attributeBase e f X.env (eval e X.env)=eval e X.env):PE X (.Attribute e f pos) (F1 X.K ta f):=by
 intro HQ s σ H Q I h;refine uA hb (cH (he HQ s σ H _ I h) λu s1 ⟨x,H1,I1,rx,a,C,dx,fs,v,ex,ea,c,n,l,q⟩=>?_);subst ex;obtain rfl:u=LS a:=rx;exact t_ I1 ea c n l λu' s2 I2 ru=>⟨v,H1,I2,ru,q⟩
def C7(ha:PE X o ta)(hv:PE X value tv)(hs:swapsWith value (some (.Attribute o f pos')) pos.line X.env=pure false):PS X (.Assign [.Attribute o f pos'] value pos) (FX X.K ta tv f):=by
 intro HQ s σ H D I h;refine OF (cH (hv HQ s σ H _ I h) λu s1 ⟨y,H1,I1,ry,q⟩=>cH (ha HQ s1 σ H1 _ I1 q) λov s2 ⟨x,H2,I2,rx,a,C,dx,fs,ex,ea,c,n,l,q2⟩=>?_) hs;subst ex;obtain rfl:ov=LS a:=rx;exact tR I2 ea c n l ry λs3 I3=>⟨σ,_,I3,q2⟩
end
section
variable{c:Value}{b:Bool}
inductive iP (K:LI) (H:Hp):V->Value->Prop where
 | bz:iP K H .bz (.type "NoneType")
 | bl (x:Bool):iP K H (.bl x) (.type "bool")
 | int (i:Int):iP K H (.int i) (.type "int")
 | str (x:Str):iP K H (.str x) (.type "str")
 | Bu (x:UInt64):iP K H (.Bu x) (.type "float")
 | lst {a:Addr} {xs:List V} (e:H a=some (.lst xs)):iP K H (.ref a) (.type "list")
 | lA {a:Addr} {o:Obj} {xs:List V} (e:H a=some (.lA o (.lst xs))):iP K H (.ref a) (.type "list")
 | tup {a:Addr} {xs:List V} (e:H a=some (.tup xs)):iP K H (.ref a) (.type "tuple")
 | dK {a:Addr} {IE:List (Key×V)} (e:H a=some (.dK IE)):iP K H (.ref a) (.type "dict")
 | dT {a:Addr} {IE:List (List Key×V)} (e:H a=some (.dT IE)):iP K H (.ref a) (.type "dict")
 | ins {a C dx:Addr} {fs:List (Str×V)} (e:H a=some (.ins C dx fs)) (cl:ot K C) (ha:Ms K (.ref C) "__class__"=some (some (.builtin "object.__class__")))
   (hn:Ou K (.builtin "object.__class__") "__get__"=some (some (.builtin "getset_descriptor.__get__"))) (DM:OY K (.builtin "object.__class__")=some true)
   (hm:PB K C (.type "object")=some true):iP K H (.ref a) (.ref C)
def oX{x:V}{t:Value}(I:Inv X HQ σ H s)(rx:RelV x u)(ty:iP X.K H x t)(e:L6 X.K t c=some b)(h:∀tk,Q (.bool b) { s with toks:=tk }):wpAny ↑8 A (call (.builtin "isinstance") [u,c]) Q E s:=by
 cases ty with
 | bz=>cases (show u=Mt from rx);exact MF Ra I.h9 Nj e (λz=>nomatch z) h
 | bl y=>cases (show u=Mw y from rx);exact MF Rb I.h9 Nj e (λz=>nomatch z) h
 | int i=>obtain⟨t,q⟩:=(show ∃t,u=PD i t from rx);cases q;exact MF Ru I.h9 Nj e (λz=>nomatch z) h
 | str y=>obtain⟨t,q⟩:=(show ∃t,u=PF y t from rx);cases q;exact MF Rv I.h9 Nj e (λz=>nomatch z) h
 | Bu y=>obtain⟨t,q⟩:=(show ∃t,u=Qm y t from rx);cases q;exact MF QN I.h9 Nj e (λz=>nomatch z) h
 | @lst a xs ea =>
  cases (show u=LS a from rx);obtain⟨_,_,n,_,h1⟩:=(show bN X.prog X.w H s.heap a (.lst xs) from I.bf a _ ea)
  exact MF Ov I.h9 ⟨_,h1,rfl⟩ e (λz=>nomatch z) h
 | @lA a ob xs ea =>
  cases (show u=LS a from rx);obtain⟨_,_,_,n,_,h1⟩:=(show bN X.prog X.w H s.heap a (.lA ob (.lst xs)) from I.bf a _ ea)
  exact MF Ov I.h9 ⟨_,h1,rfl⟩ e (λz=>nomatch z) h
 | @tup a xs ea =>
  cases (show u=LS a from rx);obtain⟨_,_,_,p⟩:=(show bN X.prog X.w H s.heap a (.tup xs) from I.bf a _ ea)
  obtain⟨o,h1,h2,_⟩:=p;exact MF QO I.h9 ⟨o,h1,h2⟩ e (λz=>nomatch z) h
 | @dK a IE ea =>
  cases (show u=LS a from rx);obtain⟨_,_,vs,_,p⟩:=(show bN X.prog X.w H s.heap a (.dK IE) from I.bf a _ ea)
  obtain⟨o,es,ep,h1,h2,_⟩:=p;exact MF Ow I.h9 ⟨o,h1,h2.1⟩ e (λz=>nomatch z) h
 | @dT a IE ea =>
  cases (show u=LS a from rx);obtain⟨_,_,xs,_,o,es,ep,h1,h2,_⟩:=(show bN X.prog X.w H s.heap a (.dT IE) from I.bf a _ ea)
  exact MF Ow I.h9 ⟨o,h1,h2.1⟩ e (λz=>nomatch z) h
 | @ins a C dx fs ea cl ha hn DM hm =>
  cases (show u=LS a from rx);obtain⟨mA,O,_⟩:=ku I.bf ea;obtain⟨od,J,_⟩:=O.look;exact MF (Rw (cl.get _) cl.hd ha hn DM hm) I.h9 J e (λz=>nomatch z) h
end
structure bD (k:Nat) (A:Around):Prop where
 hd:A.handled=none
 dp:A.depth+3*k+5<recursionLimit
 un:A.units+16*k+200<cLine
theorem bD.mono{j:Nat}(r:bD k A)(h:j<=k):bD j A:=⟨r.hd,by have:=r.dp;lia,by have:=r.un;lia⟩
theorem bD.deeper{k:Nat}{A:Around}(r:bD (k+1) A)(env:Env):bD k (A.deeper env) :=
 ⟨r.hd,by have:=r.dp;show A.depth+1+3*k+5<_;lia,by have:=r.un;show A.units+3+16*k+200<_;lia⟩
def tN:(A.under (.builtin "type.__call__" ⟨.ref C::us,kw⟩)).depth=A.depth+1:=by
 first|rfl|simp[Rc,Code.weight,Code.isCreation,Code.isGuard,Code.isCaller,Code.frames,Rf,guardIds]
def uk:(A.under (.builtin "type.__call__" ⟨.ref C::us,kw⟩)).units=A.units+1:=by
 first|rfl|simp[Rc,Code.cUnits,Code.frames,Rf]
theorem bD.make(r:bD (k+1) A)(C:Addr)(us:List Value)(kw:List (Str×Value)):bD k (A.under (.builtin "type.__call__" ⟨.ref C::us,kw⟩)) :=
 ⟨r.hd,by have:=r.dp;rw[tN];lia,by have:=r.un;rw[uk];lia⟩
theorem bD.depth{k:Nat}{A:Around}(r:bD k A):A.depth<recursionLimit:=by have:=r.dp;lia
theorem bD.units{k:Nat}{A:Around}(r:bD k A):A.units+64<cLine:=by have:=r.un;lia
def DR:TA:=λ_ H Q=>Q [] H
def DZ(ta:TE)(tr:TA):TA:=fun σ H Q=>ta σ H λx H1=>tr σ H1 λxs H2=>Q (x::xs) H2
variable{t:TA}
def e9:PA X [] DR:=λ_ _ _ _ H Q I h=>Calls.spliced_nil ⟨[],H,I,.nil,h⟩
def bM(ha:PE X e te)(hr:PA X es t)(hs:autoParam ↑0 aR._auto_1):PA X (e::es) (DZ te t):=by
 intro pos HQ s σ H Q I h;rw[hs];show wpAny _ _ (spliced ((false,eval e X.env)::backTo pos (starEach es X.env))) _ _ s;refine Calls.spliced_cons (cH (ha HQ s σ H _ I h) λu s1 ⟨x,H1,I1,r1,q1⟩=>?_);exact cH (hr pos HQ s1 σ H1 _ I1 q1) λus s2 ⟨xs,H2,I2,r2,q2⟩=>⟨x::xs,H2,I2,.cons r1 r2,q2⟩
def GZ(t:TA):TE:=fun σ H Q=>t σ H λxs H1=>xs.length<=sizeLine/\∀p,H1 p=none->Q (.ref p) (upd H1 p (.tup xs))
def FU(t:TA):TE:=fun σ H Q=>t σ H λxs H1=>xs.length<=sizeLine/\∀p,H1 p=none->Q (.ref p) (upd H1 p (.lst xs))
def mT{x1}(h:PA X es t):PE X (.Tuple es x1 pos) (GZ t):=by
 intro HQ s σ H Q I hq;refine wpAny_Tuple_spliced (cH (h pos HQ s σ H _ I hq) λus s1 ⟨xs,H1,I1,r,z,q⟩=>⟨by rwa[<- r.length],?_⟩);have hf:H1 s1.heap.objs.size=none:=I1.bf.fresh (LR _);refine⟨.ref s1.heap.objs.size,upd H1 s1.heap.objs.size (.tup xs),I1.laid (t':=s1.toks) (λb u e=>LJ _ e) (LR _) ?_,rfl,q _ hf⟩;exact⟨z,us,r,⟨_,LV _ rfl,rfl,_,rfl⟩⟩
def yA(h:PA X es t):PE X (.List es pos) (FU t):=by
 intro HQ s σ H Q I hq;refine wpAny_List_spliced (cH (h pos HQ s σ H _ I hq) λus s1 ⟨xs,H1,I1,r,z,q⟩=>⟨by rwa[<- r.length],?_⟩);have hf:H1 s1.heap.objs.size=none:=I1.bf.fresh (LR _);refine⟨.ref s1.heap.objs.size,upd H1 s1.heap.objs.size (.lst xs),I1.laid (t':=s1.toks) (λb u e=>LJ _ e) (LR _) ?_,rfl,q _ hf⟩;exact⟨z,us,0,r,LV _ rfl⟩
abbrev Sp:=List V->Hp->VK->XK->Prop
abbrev Cp:=List Env->Hp->Shared->XK->Value->Shared->Prop
structure oy (P:Program) (w:World) (K:LI) (mg:Str->Option Value) (base:Heap) (A:Around) (outer:List Env) (s:Shared) (H:Hp):Prop where
 frames:A.frames=some outer
 mod:Mod K mg base
 bs:∀b o,base.get? b=some o->s.heap.get? b=some o/\H b=none
 wU:base.objs.size<=s.heap.objs.size
 i9:s.heap.FunFrames base outer
 xC:∀b∈qI outer,H b=none
 bf:kX P w H s.heap
 bare:AllBare s.gens
def CE(outer:List Env)(P:Program)(w:World)(H:Hp)(s:Shared)(Q:VK)(u:Value)(s':Shared):Prop :=
 ∃v H',s'.os=s.os/\AllBare s'.gens/\Un (qI outer) [] H H' s.heap s'.heap/\kX P w H' s'.heap/\RelV v u/\Q v H'
def CR(CX:Cp)(outer:List Env)(P:Program)(w:World)(H:Hp)(s:Shared)(Q:VK)(E:XK)(r:Result)(s':Shared):Prop :=
 match r with
 | .ok (.ret u)=>CE outer P w H s Q u s'
 | .ok _=>False
 |.error e=>CX outer H s E e s'
structure aT (P:Program) (w:World) (K:LI) (mg:Str->Option Value) (base:Heap) (CX:Cp) (k:Nat) (f:Addr) (fd:FuncData) (ps:List Str) (sp:Sp):Prop where
 len:∀vs H Q E,sp vs H Q E->vs.length=ps.length
 run:∀(A:Around)(outer:List Env)(s:Shared)(H:Hp)(args:Args)(us:List Value)(vs:List V)(Q:VK)(E:XK),bD k A->oy P w K mg base A outer s H->BindsTo s fd args (ps.zip us)->Vals vs us->sp vs H Q E ->
  codeAny (model P w) A (.call (.ref f) args) (CR CX outer P w H s Q E) s
variable{outer:List Env}{base:Heap}{mg:Str->Option Value}
def oy.make{K:LI}(e:oy P w K mg base A outer s H)(C:Addr)(us:List Value)(kw:List (Str×Value)):oy P w K mg base (A.under (.builtin "type.__call__" ⟨.ref C::us,kw⟩)) outer s H:=⟨by first|exact e.frames|(simpa [Rc,Code.envs,Rf,pushEnvs] using e.frames),e.mod,e.bs,e.wU,e.i9,e.xC,e.bf,e.bare⟩
section
variable{s':Shared}
def Inv.i_(I:Inv X HQ σ H s):oy X.prog X.w X.K X.mg X.base X.A X.stack s H :=
 ⟨I.ok.frames,I.ok.mod,I.bs,MB I.ok.wU I.sz,I.stack,I.pR,I.bf,I.bare⟩
def Inv.after{Q:VK}(I:Inv X HQ σ H s)(h:CE X.stack X.prog X.w H s Q u s'):EP X HQ σ Q u s':=by
 obtain⟨v,H',os,bare,un,bf,r,q⟩:=h;obtain⟨hh,g,d,t,os'⟩:=s';obtain rfl:os'=s.os:=os;exact⟨v,H',I.call (h':=hh) (g':=g) (d':=d) (t':=t) (ch:=[]) un bf bare (λb z=>absurd z ↑13),r,q⟩
end
def Binds(K:LI)(fd:FuncData)(ps:List Str)(ds:List Value):Prop :=
 ∀(s:Shared)(us:List Value),K.In s.heap->(us++ds).length=ps.length->BindsTo s fd ⟨us,[]⟩ (ps.zip (us++ds))
variable{ps:List Str}{fd:FuncData}
def Binds.all{K:LI}(h:∀us:List Value,us.length=ps.length->bindArgs fd ⟨us,[]⟩=pure (ps.zip us)):Binds K fd ps []:=λs us _ hl=>by
 rw[MK] at hl ⊢;exact .of_eq (h us hl)
variable{sp:Sp}{CX:Cp}
section
variable{f:Addr}{IH:List V}{ds:List Value}{E:XK}{apos:Pos}{o:Expr}
structure Mk (K:LI) (C f:Addr):Prop where
 makes:RO K C=true
 init:Ms K (.ref C) "__init__"=some (some (.ref f))
 fn:N2 K (.ref f)=true
 kp:Mi K (.ref C)=true
end
section
variable{f:Addr}{ks:List Str}{E:XK}{apos kpos:Pos}{o:Expr}{kws:List Keyword}{tk:TA}{nm:Option Str}
variable{g:List Value->List Value->List Value}{gV:List V->List V->List V}
end
structure bg (N P:List Str) (sc:Scope):Prop where
 kind:sc.kind=.function
 co:sc.isCoroutine=false
 gen:sc.isGenerator=false
 nd:N.Nodup
 pre:N.take P.length=P
 par:∀x∈P,sc.names.lookup x=some .local\/sc.names.lookup x=some .cell
 C2:∀y∈sc.names,y.2≠.free
theorem o_{kindOf:Str->Option NameKind}{x:Str}:∀{binds:List (Str×Value)}{m:Str->Option Value},(∀v,(x,v) ∉ binds)->bindL kindOf binds m x=m x
 | [],_,_=>rfl
 | (n,v)::r,m,h=>by
  unfold bindL;rw[o_ λw hw=>h w (LQ _ hw)]
  split
  .have:x≠n:=by rintro rfl;exact h v L4
   simp[this]
  .rfl
theorem pq{kindOf:Str->Option NameKind}{x:Str}:∀{binds:List (Str×Value)}{m:Str->Option Value},(∀v,(x,v) ∉ binds)->bindC kindOf binds m x=m x
 | [],_,_=>rfl
 | (n,v)::r,m,h=>by
  unfold bindC;rw[pq λw hw=>h w (LQ _ hw)]
  split
  .rfl
  .have:x≠n:=by rintro rfl;exact h v L4
   simp[this]
theorem oQ{kindOf:Str->Option NameKind}{x:Str}{v:Value}:∀{P:List Str}{vs:List Value}{i:Nat}{m:Str->Option Value},P.Nodup->P[i]?=some x->vs[i]?=some v->kindOf x=some .local ->bindL kindOf (P.zip vs) m x=some v
 | [],_,_,_,_,h,_,_=>by simp at h
 | _::_,[],_,_,_,_,h,_=>by simp at h
 | p::P,w::vs,0,m,nd,h1,h2,hk=>by
  simp at h1 h2;subst h1;subst h2;show bindL kindOf ((p,w)::P.zip vs) m p=_;unfold bindL;rw[o_ λv hv=>(Of.mp nd).1 (MW hv).1,if_pos hk];simp
 | p::P,w::vs,i+1,m,nd,h1,h2,hk=>by
  show bindL kindOf ((p,w)::P.zip vs) m x=_;unfold bindL;exact oQ (i:=i) (Of.mp nd).2 (by simpa using h1) (by simpa using h2) hk
theorem pb{kindOf:Str->Option NameKind}{x:Str}{v:Value}:∀{P:List Str}{vs:List Value}{i:Nat}{m:Str->Option Value},P.Nodup->P[i]?=some x->vs[i]?=some v->kindOf x≠some .local ->bindC kindOf (P.zip vs) m x=some v
 | [],_,_,_,_,h,_,_=>by simp at h
 | _::_,[],_,_,_,_,h,_=>by simp at h
 | p::P,w::vs,0,m,nd,h1,h2,hk=>by
  simp at h1 h2;subst h1;subst h2;show bindC kindOf ((p,w)::P.zip vs) m p=_;unfold bindC;rw[pq λv hv=>(Of.mp nd).1 (MW hv).1,if_neg hk];simp
 | p::P,w::vs,i+1,m,nd,h1,h2,hk=>by
  show bindC kindOf ((p,w)::P.zip vs) m x=_;unfold bindC;exact pb (i:=i) (Of.mp nd).2 (by simpa using h1) (by simpa using h2) hk
def start(N:List Str)(vs:List V):St:=vs.map some++LO (N.length-vs.length) none
def eQ(CX:Cp)(P:Program)(w:World)(K:LI)(mg:Str->Option Value)(base:Heap)(N:List Str)(qual:Str)(scope:Scope)(f:Addr)(cd:Value)(A:Around)(outer:List Env)(s:Shared)(H:Hp)(E:XK):Cx where
 prog:=P
 w:=w
 K:=K
 mg:=mg
 base:=base
 A:=A.deeper (envOfC qual scope s.heap.objs.size f cd)
 N:=N
 s₀:=s
 H₀:=H
 env:=envOfC qual scope s.heap.objs.size f cd
 outer:=outer
 stack:=envOfC qual scope s.heap.objs.size f cd::outer
 ex:=[]
 calm:=true
 fn:=λ_=>true
 pn:=[]
 xe:=λe s'=>wpAny (model P w) (A.deeper (envOfC qual scope s.heap.objs.size f cd)) (leaving (envOfC qual scope s.heap.objs.size f cd) e) (λ_ KJ=>CX outer H s E e KJ) (λe' KJ=>CX outer H s E e' KJ) s'
def rY{sc:Scope}(h:sc.names.lookup x=some .cell):∃c,(cellsFrom n sc.names []).lookup x=some c:=by
 have q:=Ox sc.names n [] (.inl h);exact NF.mp q
variable{scope:Scope}
theorem oR{K:LI}{qual:Str}{f:Addr}{cd:Value}{s1:Shared}{E:XK}{vs:List V}(S:bg N ps scope)(hd:A.handled=none)(e0:oy P w K mg base A outer s H)(hl:vs.length=ps.length)(r:Vals vs us)(x:InCallC s s.heap.objs.size (bindL (envOfC qual scope s.heap.objs.size f cd).kindOf (ps.zip us) λ_=>none) (cellsFrom (s.heap.objs.size+1) scope.names []) (bindC (envOfC qual scope s.heap.objs.size f cd).kindOf (ps.zip us) λ_=>none) s1):Inv (eQ CX P w K mg base N qual scope f cd A outer s H E) [] (start N vs) H s1:=by
 have Iu:ps.length<=N.length:=by have:=congrArg List.length S.pre;rw[OI] at this;lia
 obtain⟨h1,tk,rfl,hk⟩:=x.done;have dF:∀b:Addr,b ∉ (eQ CX P w K mg base N qual scope f cd A outer s H E).ex:=λb z=>absurd (show b∈([]:List Addr) from z) ↑13;refine⟨⟨e0.mod,S.kind,rfl,rfl,LR _,λy z c h1 h2=>?_,λy hy=>?_,λy c _ h=>?_,λ_=>hd,Qo e0.frames,.inr ⟨rfl,rfl⟩,λb z=>absurd z (dF b),e0.bs,e0.wU,λb _ _=>dF b,λb z=>absurd z (dF b),e0.i9,e0.xC⟩,
  rfl,e0.bare,Un.kept hk,⟨_,x.toInCall.ns,λi y v h1 h2 h3=>?_⟩,λy c h=>⟨_,x.cell y c h⟩,e0.bf.fresh (LR _),λy c h=>?_,λp hp=>absurd (show p∈([]:List (Addr×Obj)) from hp) ↑13,e0.bf.kept hk,?_⟩
 .exact name_of_addr x.apart (M7 h1) (M7 h2)
 .have hy:scope.names.lookup y=some .cell\/scope.names.lookup y=some .free:=hy;rcases hy with hy|hy
  .exact rY hy
  .exact absurd rfl (S.C2 _ (M7 hy))
 .exact Ol (x.above y c (M7 h))
 .have hi:i<vs.length:=by
   unfold start at h2
   by_cases hi:i<vs.length
   .exact hi
   .rw[Mj (by simpa using hi)] at h2;rw[MY] at h2
    split at h2<;>cases h2
  have ha:vs[i]?=some v:=by
   unfold start at h2;rw[Mr (by simpa using hi),L_] at h2;cases e:vs[i]? with
   | none=>rw[e] at h2;cases h2
   | some a=>rw[e] at h2;cases h2;rfl
  obtain⟨u,hu,rv⟩:=r.get ha;have hp:ps[i]?=some y:=by
   rwa[<- S.pre,List.getElem?_take_of_lt ⋯]
  have ndP:ps.Nodup:=by rw[<- S.pre];exact S.nd.sublist (List.take_sublist _ _)
  refine⟨u,rv,?_⟩;rcases S.par y (OT hp) with k|k
  .exact .inl ⟨k,oQ ndP hp hu k⟩
  .obtain⟨c,e⟩:=rY (n:=s.heap.objs.size+1) k;refine .inr ⟨.inl k,c,e,?_⟩;have q:=x.cell y c e;rwa[pb ndP hp hu (by show scope.names.lookup y≠_;rw[k];decide)] at q
 .exact e0.bf.fresh (Ol (x.above y c (M7 h)))
 .unfold start;show _=N.length;rw[Mp,LK,OG];lia
def D9{K:LI}{f:Addr}{name qual:Str}{params:Arguments}{dV kV doc pm Ig ct oc:Value}{an od:Option Addr}{J4:Array (Option Value)}(lk:K.lookup f=some ⟨oc,od,.func (MM name qual params body scope dV kV doc pm an Ig ct),J4⟩)(II:Nf K Ig qual=true)(S:bg N ps scope)(len:∀vs H Q E,sp vs H Q E->vs.length=ps.length)(Kg:∀(A:Around)(outer:List Env)(s:Shared)(H:Hp)(vs:List V)(Q:VK)(E:XK),bD k (A.deeper (envOfC qual scope s.heap.objs.size f Ig))->sp vs H Q E ->∃t,i7 (eQ CX P w K mg base N qual scope f Ig A outer s H E) body t/\t { nx:=λ_ H'=>Q .bz H',rt:=Q } (start N vs) H):aT P w K mg base CX (k+1) f (MM name qual params body scope dV kV doc pm an Ig ct) ps sp:=by
 refine⟨len,λA outer s H args us vs Q E hr e0 hb r hsp=>?_⟩;have hl:=len _ _ _ _ hsp;have KX:K.In s.heap:=e0.mod.zq.keeps λb o e=>(e0.bs b o e).1;have lim:s.heap.NoLimit:=e0.mod.nolimit.keeps λb o e=>(e0.bs b o e).1;have Km:∀y∈ps.zip us,scope.names.lookup y.1=some .local\/(scope.names.lookup y.1=some .cell/\((cellsFrom (s.heap.objs.size+1) scope.names []).lookup y.1).isSome=true):=λ⟨n,v⟩ hy=>by
  rcases S.par n (MW hy).1 with q|q
  .exact .inl q
  .exact .inr ⟨q,Ox _ _ _ (.inl q)⟩
 refine Qi hr.depth (KX _ _ lk) rfl S.co S.gen rfl (QS KX II) (hb _ _ _ _ ?_);refine Pd S.kind Km λenv he s1 x=>?_;subst he;refine⟨lim.keeps x.toInCall.keep,codeAny_func ?_⟩;obtain⟨t,ht,hq⟩:=Kg A outer s H vs Q E (hr.deeper _) hsp;have I:Inv (eQ CX P w K mg base N qual scope f Ig A outer s H E) [] (start N vs) H s1:=oR S hr.hd e0 hl r x;refine MS (ht [] s1 (start N vs) H _ I hq) (λfl s' hs=>?_) λe s' hs=>hs;have fin:∀{σ':St}{H':Hp}{v:V}{u:Value},Inv (eQ CX P w K mg base N qual scope f Ig A outer s H E) [] σ' H' s'->RelV v u->Q v H'->CE outer P w H s Q u s' :=
  λ{σ' H' v u} J rv q=>⟨v,H',J.os,J.bare,J.base,J.bf,rv,q⟩
 cases fl with
 | ret u =>
  obtain⟨v,σ',H',J,rv,q⟩:=hs;exact fin J rv q
 | next =>
  obtain⟨σ',H',J,q⟩:=hs;exact fin (v:=V.bz) (u:=Mt) J rfl q
 | brk =>
  obtain⟨_,_,_,q⟩:=hs;exact Mx q
 | cont =>
  obtain⟨_,_,_,q⟩:=hs;exact Mx q
section
variable{id T:String}{r:List V->Hp->VK->Prop}
def GO(r:List V->Hp->VK->Prop)(t:TA):TE:=fun σ H Q=>t σ H λvs H1=>r vs H1 Q
def kr(hc:dn X (.builtin id) r)(hg:Gl X x)(hm:X.mg x=none)(hv:bootBuiltins x=some (.builtin id))(ha:PA X (e::es) t)(hn:autoParam (x ≠ "__name__") aD._auto_1)(IF:autoParam ↑7 aD._auto_1)(he:autoParam ↑0 aR._auto_1)(Iu:autoParam ↑2 aR._auto_1):PE X (.Call (.Name x p) (e::es) [] pos) (GO r t):=by
 intro HQ s σ H Q I h;refine MQ (jO I hg hm hv ?_ hn IF);exact PyProof.Rows.callWith_builtin1 (cH (ha pos HQ s σ H _ I h) λus s1 ⟨vs,H1,I1,r1,q1⟩=>hc HQ s1 σ H1 vs us Q I1 r1 q1) he Iu
def o5(hc:dn X (.type T) r)(hg:Gl X x)(hm:X.mg x=none)(hv:bootBuiltins x=some (.type T))(ha:PA X (e::es) t)(hn:autoParam (x ≠ "__name__") aD._auto_1)(IF:autoParam ↑7 aD._auto_1)(he:autoParam ↑0 aR._auto_1)(Iu:autoParam ↑2 aR._auto_1):PE X (.Call (.Name x p) (e::es) [] pos) (GO r t):=by
 intro HQ s σ H Q I h;refine MQ (jO I hg hm hv ?_ hn IF);exact MZ (cH (ha pos HQ s σ H _ I h) λus s1 ⟨vs,H1,I1,r1,q1⟩=>hc HQ s1 σ H1 vs us Q I1 r1 q1) he Iu
end
end L2
namespace HT
open PySem PyProof.Rows
section
open PySem.SeqAt
open PySem.AutoSeq1 (wpAny_loadPart')
open PySem.MeetsSeq PySem.MeetsSeq2 PySem.MeetsSeq3
end
variable{Q:Value->Shared->Prop}
section
variable{prog:Program}{w:World}{A:Around}{E:Value->Shared->Prop}{s:Shared}
def Aj{t b:Addr}{vs ws:List Value}(ht:IsTup s.heap t vs.toArray)(hb:IsTup s.heap b ws.toArray)(hv:vs≠[])(h1:ws=[]->Q (.ref t) s)(h2:ws≠[]->Q (.ref s.heap.objs.size) { s with heap:=s.heap.push { cls:=.type "tuple",data:=.seq (vs++ws).toArray } })(JD:vs.length+ws.length<=sizeLine):wpAny ↑11 A (binaryOp .Add (.ref t) (.ref b)) Q E s:=by
 obtain⟨⟨cls,dd,data,sl⟩,ho,hc,n,hd⟩:=id ht;obtain⟨⟨cls2,La,data2,sl2⟩,J7,Lg,n2,hd2⟩:=id hb;simp only at hc hd Lg hd2;subst hc hd Lg hd2;have e:vs.toArray++ws.toArray=(vs++ws).toArray:=by simp
 by_cases hw:ws=[]
 .exact Rh ⟨_,ho,rfl⟩ ⟨_,J7,rfl⟩ PJ QD Oz Oi (N_ _ _)
   (tuple_addW1 t b vs.toArray ws.toArray n n2 dd La sl sl2 (by simpa using hv) (by simp[hw])) ⟨ho,J7,h1 hw⟩
 .refine Rh ⟨_,ho,rfl⟩ ⟨_,J7,rfl⟩ PJ QD Oz Oi (N_ _ _)
   (tuple_addW2 t b vs.toArray ws.toArray n n2 dd La sl sl2 (by simpa using hv) (by simpa using hw) (by rwa[LW,LW])) ⟨ho,J7,?_⟩
  rw[e];exact h2 hw
def dJ(n d:Nat):Option Int->Nat
 | none=>d
 |some v=>if v<0 then (v+(n:Int)).toNat else min v.toNat n
theorem Ci(n d:Nat)(hd:d<=n)(o:Option Int):dJ n d o<=n:=by
 cases o with
 | none=>exact hd
 | some v =>
  show (if v<0 then (v+(n:Int)).toNat else min v.toNat n)<=n
  by_cases hv:v<0
  .rw[if_pos hv];lia
  .rw[if_neg hv];exact Nat.min_le_right _ _
theorem ve(v:Int)(n d:Nat):(if v<0 then max (v+(n:Int)) 0 else min v (n:Int))=((dJ n d (some v):Nat):Int):=by
 show (if v<0 then max (v+(n:Int)) 0 else min v (n:Int))=(((if v<0 then (v+(n:Int)).toNat else min v.toNat n):Nat):Int)
 by_cases hv:v<0
 .simp only[if_pos hv];lia
 .simp only[if_neg hv];lia
theorem um(lo hi:Option Int)(n:Nat):N6 lo hi 1 (n:Int)=(((dJ n 0 lo:Nat):Int),((dJ n n hi:Nat):Int)):=by
 have h1:¬ ((1:Int)<0):=by lia
 unfold N6;simp only[h1,if_false];refine Prod.ext ?_ ?_
 .cases lo with
  | none=>rfl
  | some v=>exact ve v n 0
 .cases hi with
  | none=>rfl
  |some v=>exact ve v n n
theorem sR(i j:Nat):Nz (i:Int) (j:Int) 1=j-i:=by
 unfold Nz;have h1:(1:Int)>0:=by lia
 simp only[h1,if_true,Int.ediv_one]
 split<;>lia
def mW{v:Value}{o:Option Int}{Q:Option Int->Shared->Prop}(p:IsPart v o)(h:Q o s):wpAny ↑11 A (Builtin.Slice.slicePartIndex v) Q E s:=by
 cases p with
 | none=>exact slicePart_none h
 |int i t=>exact slicePart_int h
def hV{sl:Addr}{vl vu:Value}{lo hi:Option Int}{n:Nat}{Q:Int×Int×Nat->Shared->Prop}(hs:s.heap.IsSliceOf sl vl vu .none)(pl:IsPart vl lo)(pu:IsPart vu hi)(h:Q (((dJ n 0 lo:Nat):Int),1,dJ n n hi-dJ n 0 lo) s):wpAny ↑11 A (Pe (.ref sl) (pure (n:Int))) Q E s:=by
 obtain⟨os,KW,hcs,Lj⟩:=id hs;unfold Pe Builtin.Slice.sliceFields;refine LH (LH (Ml KW Lj (x:=vl) rfl (LH (Ml KW Lj (x:=vu) rfl (LH (Ml KW Lj (x:=.none) rfl (LM ?_)))))));refine LH (slicePart_none ?_);show wpAny _ _ (if ((1:Int)==0)=true then _ else _) _ _ s;rw[if_neg ↑12];refine LH (mW pl (LH (mW pu (LH (LM ?_)))));show wpAny _ _ (match N6 lo hi 1 (n:Int) with|(lo,hi)=>pure (lo,(1:Int),Nz lo hi 1)) _ _ s;rw[um lo hi n];show wpAny _ _ (pure (((dJ n 0 lo:Nat):Int),(1:Int),Nz ((dJ n 0 lo:Nat):Int) ((dJ n n hi:Nat):Int) 1)) _ _ s;rw[sR];exact LM h
theorem xr(xs:Array Value)(i k:Nat):((LZ k).filterMap λ(m:Nat)=>xs[((i:Int)+(m:Int)*1).toNat]?).toArray=((xs.toList.drop i).take k).toArray:=by
 have e:(λ(m:Nat)=>xs[((i:Int)+(m:Int)*1).toNat]?)=λm=>xs[i+m]?:=by
  funext m
  have:((i:Int)+(m:Int)*1).toNat=i+m:=by lia
  rw[this]
 rw[e];have:=pick_run xs i k;rw[List.filterMap_map] at this;have e2:((λx=>xs[x]?)∘λx=>i+x)=λm=>xs[i+m]?:=rfl;rw[e2] at this;rw[this]
theorem kA{t sl:Addr}{HR:Array Value}{vl vu:Value}{lo hi:Option Int}(ht:IsTup s.heap t HR)(hs:s.heap.IsSliceOf sl vl vu .none)(pl:IsPart vl lo)(pu:IsPart vu hi)(hw:¬ (dJ HR.size 0 lo=0/\dJ HR.size HR.size hi=HR.size))(h:Q (.ref s.heap.objs.size) { s with heap:=s.heap.push { cls:=.type "tuple",data:=.seq ((HR.toList.drop (dJ HR.size 0 lo)).take (dJ HR.size HR.size hi-dJ HR.size 0 lo)).toArray } })(JD:HR.size<=sizeLine):wpAny ↑11 A (getItem (.ref t) (.ref sl)) Q E s:=by
 have J3:sizeOk (.seq ((HR.toList.drop (dJ HR.size 0 lo)).take (dJ HR.size HR.size hi-dJ HR.size 0 lo)).toArray):=by
  show ((HR.toList.drop (dJ HR.size 0 lo)).take (dJ HR.size HR.size hi-dJ HR.size 0 lo)).toArray.size<=sizeLine;rw[LW,OI,PK,O5];lia
 have hj:dJ HR.size HR.size hi<=HR.size:=Ci _ _ (LR _) hi;obtain⟨os,KW,hcs,Lj⟩:=id hs;have hTs:s.TypeIs (.ref sl) "slice" := ⟨os,KW,hcs⟩
 unfold getItem
 try with_reducible refine Nb ?_
 first|refine LH (LM ?_)|skip
 refine LH (Ri ht.typeIs ↑12 ?_);refine LH (MN (name:=MC "__getitem__") ht.typeIs ME
  (Np ME ht.typeIs Qz ?_ (QT _ _)))
 show wpAny _ _ (Pf (.ref t) >>= _) _ _ s;refine LH (tupleItemsOf_ ht ?_);refine LH (Rj hTs ?_);rw[if_pos ↑12];refine LH (hV hs pl pu ?_);have hno:¬ ((((dJ HR.size 0 lo:Nat):Int)==0&&(1:Int)==1&&(dJ HR.size HR.size hi-dJ HR.size 0 lo)==HR.size)=true):=by
  intro q;rw[My,My] at q;have q1:((dJ HR.size 0 lo:Nat):Int)=0:=eq_of_beq q.1.1;have q2:dJ HR.size HR.size hi-dJ HR.size 0 lo=HR.size:=eq_of_beq q.2;exact hw ⟨by lia,by lia⟩
 show wpAny _ _ (if (((dJ HR.size 0 lo:Nat):Int)==0&&(1:Int)==1&&(dJ HR.size HR.size hi-dJ HR.size 0 lo)==HR.size)=true then _ else _) _ _ s;rw[if_neg hno,xr]
 first
  | exact LH (m:=NG _) (M3 (LM ⟨_,rfl,LM h⟩) J3)
  | exact LH (m:=NG _) (M3 (LH (LM (LM ⟨_,rfl,LM h⟩))) J3)
  | exact LH (LH (m:=NG _) (M3 (LM (LM ⟨_,rfl,LM h⟩)) J3))
  |exact LH (LH (m:=NG _) (M3 (LM ⟨_,rfl,LM h⟩) J3))
end
end HT
namespace L2
open PySem PySem.Spec PyProof.Rows
abbrev TO:=St->Hp->(Option Int->Hp->Prop)->Prop
def PO(X:Cx)(e:Option Expr)(t:TO):Prop :=
 ∀ (HQ:List (Addr×Obj)) (s:Shared) (σ:St) (H:Hp) (Q:Option Int->Hp->Prop),Inv X HQ σ H s->t σ H Q ->
  wpAny ↑8 X.A (evalPart e X.env) (λu s'=>∃o H',Inv X HQ σ H' s'/\IsPart u o/\Q o H') X.xe s
def AL:TO:=λ_ H Q=>Q none H
def Ez(t:TE):TO:=fun σ H Q=>t σ H λx H1=>∃i,x=.int i/\Q (some i) H1
variable{pos:Pos}{e:Expr}{X:Cx}
variable{r:V->Option Int->Option Int->Hp->VK->Prop}
variable{xs:List V}
section
variable{te:TE}{lo hi:Option Expr}{tl th:TO}{p2:Pos}
def Ad:PO X none AL:=by
 intro HQ s σ H Q I h;rw[evalPart_none];exact LM ⟨none,H,I,.none,h⟩
def Am(h:PE X e te):PO X (some e) (Ez te):=by
 intro HQ s σ H Q I hw;rw[evalPart_some];refine cH (h HQ s σ H _ I hw) λu s1 ⟨x,H1,I1,r1,q1⟩=>?_;obtain⟨i,rfl,q⟩:=q1;obtain⟨t,rfl⟩:=r1;exact⟨some i,H1,I1,.int i t,q⟩
def zo(X:Cx)(r:V->Option Int->Option Int->Hp->VK->Prop):Prop :=
 ∀ (HQ:List (Addr×Obj)) (s:Shared) (σ:St) (H:Hp) (x:V) (v vl vu:Value) (lo hi:Option Int) (sl:Addr) (Q:VK),Inv X HQ σ H s->RelV x v->s.heap.IsSliceOf sl vl vu .none->IsPart vl lo->IsPart vu hi->r x lo hi H Q ->
  ∃T id,typeLookup (.type T) "__getitem__"=pure (some (.builtin id))/\s.TypeIs v T/\wpAny ↑8 X.A (getItem v (.ref sl)) (EP X HQ σ Q) X.xe s
def zo.or{r':V->Option Int->Option Int->Hp->VK->Prop}(h:zo X r)(h':zo X r'):zo X (λx lo hi H Q=>r x lo hi H Q\/r' x lo hi H Q):=by
 intro HQ s σ H x v vl vu lo hi sl Q I rx hs pl pu q;rcases q with q|q
 .exact h HQ s σ H x v vl vu lo hi sl Q I rx hs pl pu q
 .exact h' HQ s σ H x v vl vu lo hi sl Q I rx hs pl pu q
def HI(r:V->Option Int->Option Int->Hp->VK->Prop)(te:TE)(tl th:TO):TE:=fun σ H Q=>te σ H λx H1=>tl σ H1 λl H2=>th σ H2 λu H3=>r x l u H3 Q
def xc(hr:zo X r)(he:PE X e te)(hl:PO X lo tl)(hu:PO X hi th):PE X (.Subscript e (.Slice lo hi none p2) pos) (HI r te tl th):=by
 intro HQ s σ H Q I h;refine Subscript_ (cH (he HQ s σ H _ I h) λv s1 ⟨x,H1,I1,r1,q1⟩=>?_);refine wpAny_Slice (cH (hl HQ s1 σ H1 _ I1 q1) λvl s2 ⟨l,H2,I2,pl,q2⟩=>cH (hu HQ s2 σ H2 _ I2 q2) λvu s3 ⟨u,H3,I3,pu,q3⟩=>?_);rw[evalPart_none];refine LM ?_;have I4:Inv X HQ σ H3 { s3 with heap:=s3.heap.push { cls:=.type "slice",data:=.fields #[vl,vu,.none] } }:=I3.kept (t':=s3.toks) λb ob q=>LJ _ q;obtain⟨T,id,hT,ht,hg⟩:=hr HQ { s3 with heap:=s3.heap.push { cls:=.type "slice",data:=.fields #[vl,vu,.none] } } σ H3 x v vl vu l u s3.heap.objs.size Q I4 r1 (Sk ..) pl pu q3;show wpAny ↑8 X.A (subscriptTail e (.Slice lo hi none p2) v (.ref s3.heap.objs.size)) (EP X HQ σ Q) X.xe { s3 with heap:=s3.heap.push { cls:=.type "slice",data:=.fields #[vl,vu,.none] } };exact tail_any (ops:=[.ref s3.heap.objs.size,v]) ht hT hg (by with_unfolding_all rfl)
def rR(xs:List V)(lo hi:Option Int):List V:=(xs.drop (HT.dJ xs.length 0 lo)).take (HT.dJ xs.length xs.length hi-HT.dJ xs.length 0 lo)
theorem lQ(xs:List V)(lo hi:Option Int):(rR xs lo hi).length<=xs.length:=by
 unfold rR;rw[OI,PK];lia
def G3(K:LI):V->Option Int->Option Int->Hp->VK->Prop:=λx lo hi H Q=>∃a xs,x=.ref a/\gB K H a xs ∧
 ¬ (HT.dJ xs.length 0 lo=0/\HT.dJ xs.length xs.length hi=xs.length)/\∀p,H p=none->Q (.ref p) (upd H p (.tup (rR xs lo hi)))
def Cr:zo X (G3 X.K):=by
 intro HQ s σ H x v vl vu lo hi sl Q I rx hs pl pu h;obtain⟨a,xs,rfl,hx,hw,q⟩:=h;cases rx;obtain⟨HW,r,ht,hz⟩:=I.tuple hx;have hlen:HW.toArray.size=xs.length:=by rw[LW];exact r.length.symm
 refine⟨"tuple",_,ME.lookup,ht.typeIs,?_⟩;refine HT.kA ht hs pl pu (by rwa[hlen]) ?_ (by rwa[hlen]);rw[hlen];refine⟨.ref s.heap.objs.size,_,I.laid (t':=s.toks) (o:=.tup (rR xs lo hi)) (λb ob q=>LJ _ q) (LR _) ?_,rfl,q _ (I.bf.fresh (LR _))⟩;exact⟨MB (lQ xs lo hi) hz,_,(r.drop (HT.dJ xs.length 0 lo)).take (HT.dJ xs.length xs.length hi-HT.dJ xs.length 0 lo),Rx _ _⟩
def Bb(K:LI):R2:=λx y H Q=>∃a b xs ys,x=.ref a/\y=.ref b/\gB K H a xs/\gB K H b ys/\xs≠[]/\xs.length+ys.length<=sizeLine ∧
 (ys=[]->Q (.ref a) H)/\(ys≠[]->∀p,H p=none->Q (.ref p) (upd H p (.tup (xs++ys))))
def Vals.j7{us:List Value}(r:Vals xs us):us=[] ↔ xs=[]:=by
 cases r with
 | nil=>simp
 |cons _ _=>simp
def zA:gc X (binaryOp .Add) (Bb X.K):=by
 intro HQ s σ H x y v u Q I rx ry h;obtain⟨a,b,xs,ys,rfl,rfl,ha,hb,hx,hz,q1,q2⟩:=h;cases rx;cases ry;obtain⟨HW,r1,p1,_⟩:=I.tuple ha;obtain⟨JU,r2,p2,_⟩:=I.tuple hb;refine HT.Aj p1 p2 (λz=>hx (r1.j7.mp z)) (λz=>⟨.ref a,H,I,rfl,q1 (r2.j7.mp z)⟩) (λz=>?_) (by rwa[<- r1.length,<- r2.length]);refine⟨.ref s.heap.objs.size,_,I.laid (t':=s.toks) (o:=.tup (xs++ys)) (λb ob q=>LJ _ q) (LR _) ?_,rfl,q2 (λw=>z (r2.j7.mpr w)) _ (I.bf.fresh (LR _))⟩;exact⟨by rwa[Mp],_,r1.append r2,Rx _ _⟩
end
def wW(n:Nat)(i:Int):Option Nat:=if 0<=i then (if i<n then some i.toNat else none) else if -(n:Int)<=i then some (i+n).toNat else none
variable{α:Type}
def qG(xs:List α)(i:Int):Option α:=(wW xs.length i).bind λj=>xs[j]?
variable{j n:Nat}{i:Int}
theorem uW(h:wW n i=some j):seqIndex? i n=some j/\j<n/\-(n:Int)<=i/\i<n:=by
 unfold wW at h
 by_cases h0:0<=i
 .rw[if_pos h0] at h
  by_cases h1:i<n
  .rw[if_pos h1] at h;have e:i.toNat=j:=L8 h;exact⟨by rw[RJ h0 h1,e],by lia,by lia,h1⟩
  .rw[if_neg h1] at h;cases h
 .rw[if_neg h0] at h
  by_cases h1:-(n:Int)<=i
  .rw[if_pos h1] at h;have e:(i+n).toNat=j:=L8 h;exact⟨by rw[Rk ⋯ h1,e],by lia,h1,by lia⟩
  .rw[if_neg h1] at h;cases h
def p6{xs:List α}{v:α}(h:qG xs i=some v):∃j,seqIndex? i xs.length=some j/\xs[j]?=some v/\j<xs.length/\-(xs.length:Int)<=i/\i<xs.length:=by
 unfold qG at h;cases e:wW xs.length i with
 | none=>rw[e] at h;cases h
 | some j =>
  rw[e] at h;obtain⟨h1,h2,h3,h4⟩:=uW e;exact⟨j,h1,h,h2,h3,h4⟩
theorem qt{xs:List α}{v:α}(h:xs[j]?=some v):qG xs (j:Int)=some v:=by
 have hj:j<xs.length:=(MH.mp h).1;have e:wW xs.length (j:Int)=some j:=by
  unfold wW;rw[if_pos ⋯,if_pos ⋯];simp
 unfold qG;rwa[e]
def qz(b:Expr):Prop:=∀o i,subscripted b false o i=operate [o,i] (getItem o i)
def zR(X:Cx)(r:R2):Prop :=
 ∀ (value slice:Expr) (HQ:List (Addr×Obj)) (s:Shared) (σ:St) (H:Hp) (x y:V) (v u:Value) (Q:VK),Inv X HQ σ H s->RelV x v->RelV y u->r x y H Q ->
  subscripted slice false v u=operate [v,u] (getItem v u)->wpAny ↑8 X.A (subscriptTail value slice v u) (EP X HQ σ Q) X.xe s
def FQ(X:Cx)(id:String)(r:V->List V->Hp->VK->Prop):Prop :=
 ∀ (HQ:List (Addr×Obj)) (s:Shared) (σ:St) (H:Hp) (x:V) (xs:List V) (v:Value) (us:List Value) (Q:VK),Inv X HQ σ H s->RelV x v->Vals xs us->r x xs H Q ->
  wpAny ↑8 X.A (call (.builtin id) (v::us)) (EP X HQ σ Q) X.xe s
variable{HW:List Value}{s:Shared}{H:Hp}{σ:St}{HQ:List (Addr×Obj)}
section
variable{a b:Expr}{ta tb:TE}
def zR.or{r r':R2}(h:zR X r)(h':zR X r'):zR X (λx y H Q=>r x y H Q\/r' x y H Q):=by
 intro value slice HQ s σ H x y v u Q I rx ry q hs;rcases q with q|q
 .exact h value slice HQ s σ H x y v u Q I rx ry q hs
 .exact h' value slice HQ s σ H x y v u Q I rx ry q hs
def Eb{r:R2}(hr:zR X r)(ha:PE X a ta)(hb:PE X b tb)(hs:qz b):PE X (.Subscript a b pos) (Ee r ta tb):=by
 intro HQ s σ H Q I h;exact Subscript_ (B_ ha hb I h λv u s2 x y H2 I2 rx ry q=>hr a b HQ s2 σ H2 x y v u Q I2 rx ry q (hs _ _))
def ET(K:LI):R2:=λx y H Q=>∃p xs i v,x=.ref p/\y=.int i/\gR K H p xs/\qG xs i=some v/\Q v H
def Ei(K:LI):R2:=λx y H Q=>∃p xs i v,x=.ref p/\y=.int i/\gB K H p xs/\qG xs i=some v/\Q v H
def EM:R2:=λx y H Q=>∃z i c,x=.str z/\y=.int i/\z.length<=sizeLine/\qG z.cps.toList i=some c/\Q (.str ⟨#[c]⟩) H
theorem AD:zR X (ET X.K):=by
 intro value slice HQ s σ H x y v u Q I rx ry h hs;obtain⟨p,xs,i,z,rfl,rfl,hq,he,q⟩:=h;cases rx;obtain⟨t,rfl⟩:=ry;obtain⟨HW,r,pl,hz⟩:=I.list hq;obtain⟨j,h1,h2,h3,h4,h5⟩:=p6 he;obtain⟨w,ew,JX⟩:=r.get h2;have hl:=r.length;have hn:=kM;have fin:EP X HQ σ Q w s:=⟨z,H,I,JX,q⟩
 by_cases h0:0<=i
 .have hj:i.toNat=j:=by
   rw[RJ h0 h5] at h1;exact L8 h1
  exact item_listR pl.isList h0 ⋯ (by rw[hj];simpa using ew) fin hs
 .have hj:(i+(HW.toArray.size:Int)).toNat=j:=by
   rw[Rk ⋯ h4] at h1;rw[LW,<- hl];exact L8 h1
  exact P1 (x:=w) pl.isList.typeIs Rl.lookup
   (wpAny_getItem_list_neg (Q:=λr s'=>r=w/\EP X HQ σ Q r s') pl.isList ⋯ (by rw[LW]<;>lia) ⋯ (by rw[hj];simpa using ew) ⟨rfl,fin⟩) hs
theorem CF:zR X (Ei X.K):=by
 intro value slice HQ s σ H x y v u Q I rx ry h hs;obtain⟨p,xs,i,z,rfl,rfl,hq,he,q⟩:=h;cases rx;obtain⟨t,rfl⟩:=ry;obtain⟨HW,r,pl,hz⟩:=I.tuple hq;obtain⟨j,h1,h2,h3,h4,h5⟩:=p6 he;obtain⟨w,ew,JX⟩:=r.get h2;have hl:=r.length;have hn:=kM;have fin:EP X HQ σ Q w s:=⟨z,H,I,JX,q⟩
 exact P1 (x:=w) pl.typeIs slot_tuple_getitem.lookup
  (getItem_tuple (j:=j) (Q:=λr s'=>r=w/\EP X HQ σ Q r s') pl ⋯ ⋯ (by rwa[LW,<- hl]) (by simpa using ew) ⟨rfl,fin⟩) hs
theorem Cu:zR X EM:=by
 intro value slice HQ s σ H x y v u Q I rx ry h hs;obtain⟨z,i,c,rfl,rfl,hz,he,q⟩:=h;obtain⟨t,rfl⟩:=rx;obtain⟨t',rfl⟩:=ry;obtain⟨j,h1,h2,h3,h4,h5⟩:=p6 he;have hl:z.cps.toList.length=z.length:=by simp[Str.length]
 rw[hl] at h1 h4 h5;have hn:=kM;exact tail_any (typeIs_str s z t) slot_str_getitem.lookup (getItem_str (c:=c) (by
  have e1:decide (i < -(2^63:Int))=false:=decide_eq_false ⋯;have e2:decide (i>=2^63)=false:=decide_eq_false ⋯;rw[e1,e2,R6]) (by rw[h1];simpa using h2) ⟨.str ⟨#[c]⟩,H,I.tok _,⟨_,rfl⟩,q⟩) hs
def G7(K:LI):R2:=λx y H Q=>ET K x y H Q\/Ei K x y H Q\/EM x y H Q
def CN:zR X (G7 X.K):=AD.or (CF.or Cu)
def ua(HW:List Value)(n j:Nat)(u:Value):P4 (·.setIfInBounds j u) { cls:=.type "list",data:=.seq HW.toArray n }={ cls:=.type "list",data:=.seq (HW.set j u).toArray n }:=by
 simp[P4]
theorem Inv.lst{HQ:List (Addr×Obj)}{σ:St}{H:Hp}{s:Shared}{p:Addr}{xs:List V}(I:Inv X HQ σ H s)(h:H p=some (.lst xs)):∃(HW:List Value)(n:Nat),Vals xs HW/\s.heap.get? p=some { cls:=.type "list",data:=.seq HW.toArray n }/\xs.length<=sizeLine:=by
 obtain⟨z,HW,n,r,e⟩:=I.bf p _ h;exact⟨HW,n,r,e,z⟩
def Inv.Cn{p:Addr}{ys:List V}{its':List Value}{n':Nat}{f:Obj->Obj}(I:Inv X HQ σ H s)(h:H p=some (.lst xs))(ho:s.heap.get? p=some { cls:=.type "list",data:=.seq HW.toArray n })(hf:f { cls:=.type "list",data:=.seq HW.toArray n }={ cls:=.type "list",data:=.seq its'.toArray n' })(r:Vals ys its')(hz:ys.length<=sizeLine)(t:Nat):Inv X HQ σ (upd H p (.lst ys)) { s with heap:=s.heap.update p f,toks:=t }:=by
 have e:(s.heap.update p f).get? p=some { cls:=.type "list",data:=.seq its'.toArray n' }:=by
  rw[M8 f ho (by rw[hf]<;>rfl),hf]
 refine I.write (x:=p) (e:=p) (by rw[h];trivial) (.inl rfl) (λb u hb q=>(MI _ _ (Nk hb)).trans q) ⟨_,e⟩ ?_;exact⟨hz,its',n',r,e⟩
def ER:V->V->V->Hp->(Hp->Prop)->Prop:=λo i v H Q=>∃p xs k j,o=.ref p/\i=.int k/\H p=some (.lst xs)/\wW xs.length k=some j/\Q (upd H p (.lst (xs.set j v)))
theorem set_list:Er X ER:=by
 intro HQ s σ H o i v ov iv u Q I ro ri rv h;obtain⟨p,xs,k,j,rfl,rfl,hp,hj,q⟩:=h;cases ro;obtain⟨t,rfl⟩:=ri;obtain⟨HW,n,r,ho,hz⟩:=I.lst hp;obtain⟨h1,h2,h3,h4⟩:=uW hj;have hl:=r.length;have hn:=kM;have I':Inv X HQ σ (upd H p (.lst (xs.set j v))) { s with heap:=s.heap.update p (P4 (·.setIfInBounds j u)) } :=
  I.Cn hp ho (ua HW n j u) (r.set rv j) (by rwa[OZ]) s.toks
 by_cases h0:0<=k
 .have hk:k.toNat=j:=by
   rw[RJ h0 h4] at h1;exact L8 h1
  exact PySem.W.ki_setAt ho h0 ⋯ (by rwa[LW,<- hl]) (by rw[hk];exact⟨_,I',q⟩)
 .have hk:(k+(HW.toArray.size:Int)).toNat=j:=by
   rw[Rk ⋯ h3] at h1;rw[LW,<- hl];exact L8 h1
  exact PySem.W.ki_setBack ho ⋯ (by rwa[LW,<- hl]) ⋯ (by rw[hk];exact⟨_,I',q⟩)
theorem qb(lo hi:Option Int)(n:Nat):(sliceBounds lo hi none n).1=((HT.dJ n 0 lo:Nat):Int)/\(sliceBounds lo hi none n).2.1=((HT.dJ n n hi:Nat):Int)/\(sliceBounds lo hi none n).2.2=1:=by
 refine⟨?_,?_,rfl⟩
 .cases lo with
  | none=>simp[sliceBounds,HT.dJ]
  | some i =>
   simp only[sliceBounds,HT.dJ,Ry,show (1:Int)>0 by decide,if_true]
   by_cases h:i<0
   .simp only[h,if_true]<;>lia
   .simp only[h,if_false]<;>lia
 .cases hi with
  | none=>simp[sliceBounds,HT.dJ]
  | some i =>
   simp only[sliceBounds,HT.dJ,Ry,show (1:Int)>0 by decide,if_true]
   by_cases h:i<0
   .simp only[h,if_true]<;>lia
   .simp only[h,if_false]<;>lia
def oC(HW:List Value)(lo hi:Option Int):slicePick HW.toArray lo hi none=((HW.drop (HT.dJ HW.length 0 lo)).take (HT.dJ HW.length HW.length hi-HT.dJ HW.length 0 lo)).toArray:=by
 obtain⟨h1,h2,h3⟩:=qb lo hi HW.toArray.size;unfold slicePick;rw[h1,h2,h3];simp only[sliceRange_one,pick_run,LW]<;>rfl
def F2(K:LI):V->Option Int->Option Int->Hp->VK->Prop:=λx lo hi H Q=>∃a xs,x=.ref a/\gR K H a xs/\∀p,H p=none->Q (.ref p) (upd H p (.lst (rR xs lo hi)))
theorem zx:zo X (F2 X.K):=by
 intro HQ s σ H x v vl vu lo hi sl Q I rx hs pl pu h;obtain⟨a,xs,rfl,hx,q⟩:=h;cases rx;obtain⟨HW,r,ht,hz⟩:=I.list hx;have hlen:=r.length;refine⟨"list",_,Rl.lookup,ht.isList.typeIs,?_⟩;refine wpAny_getItem_list_slice ht.isList hs pl pu .none ↑13 ?_ (by rw[LW]<;>lia);rw[oC,<- hlen];refine⟨.ref s.heap.objs.size,_,I.laid (t':=s.toks) (o:=.lst (rR xs lo hi)) (λb ob q=>LJ _ q) (LR _) ?_,rfl,q _ (I.bf.fresh (LR _))⟩;exact⟨MB (lQ xs lo hi) hz,_,0,(r.drop (HT.dJ xs.length 0 lo)).take (HT.dJ xs.length xs.length hi-HT.dJ xs.length 0 lo),LV _ rfl⟩
theorem qc:dn X (.builtin "len") (λxs H Q=>∃p ys,xs=[.ref p]/\(gR X.K H p ys\/gB X.K H p ys)/\Q (.int ys.length) H):=by
 intro HQ s σ H xs us Q I r h;obtain⟨p,ys,rfl,hq,q⟩:=h;obtain⟨u,rfl,rx⟩:=vals1 r;cases rx;have hn:=kM;rcases hq with hq|hq
 .obtain⟨HW,r',pl,hz⟩:=I.list hq;have hlen:=r'.length;exact Calls.call_len_list pl.isList (by simp only[LW]<;>lia) ⟨.int ys.length,H,I.tok _,⟨s.toks+1,by rw[LW,hlen]⟩,q⟩
 .obtain⟨HW,r',pl,hz⟩:=I.tuple hq;have hlen:=r'.length;exact len_tuple pl (by simp only[LW]<;>lia) ⟨.int ys.length,H,I.tok _,⟨s.toks+1,by rw[LW,hlen]⟩,q⟩
theorem pI:dn X (.builtin "len") (λxs H Q=>∃z,xs=[.str z]/\z.length<=sizeLine/\Q (.int z.length) H):=by
 intro HQ s σ H xs us Q I r h;obtain⟨z,rfl,hz,q⟩:=h;obtain⟨u,rfl,t,rfl⟩:=vals1 r;have hn:=kM;exact len_str ⋯ ⟨.int z.length,H,I.tok _,⟨_,rfl⟩,q⟩
def dn.or{f:Value}{r r':List V->Hp->VK->Prop}(h:dn X f r)(h':dn X f r'):dn X f (λxs H Q=>r xs H Q\/r' xs H Q):=by
 intro HQ s σ H xs us Q I rs q;rcases q with q|q
 .exact h HQ s σ H xs us Q I rs q
 .exact h' HQ s σ H xs us Q I rs q
theorem kd:dn X (.type "list") (λxs H Q=>∃p ys,xs=[.ref p]/\(gR X.K H p ys\/gB X.K H p ys)/\∀l,H l=none->Q (.ref l) (upd H l (.lst ys))):=by
 intro HQ s σ H xs us Q I r h;obtain⟨p,ys,rfl,hq,q⟩:=h;obtain⟨u,rfl,rx⟩:=vals1 r;cases rx;have fin:∀(HW:List Value),Vals ys HW->ys.length<=sizeLine->∀(h':Heap)(c':Nat),(∀b o',s.heap.get? b=some o'->h'.get? b=some o') ->
   h'.get? s.heap.objs.size=some { cls:=.type "list",dict:=none,data:=.seq HW.toArray c',slots:=#[] }->EP X HQ σ Q (.ref s.heap.objs.size) { s with heap:=h' }:=λHW r' hz h' c' kp e =>
  ⟨.ref s.heap.objs.size,_,I.laid (t':=s.toks) kp (LR _) (show bN X.prog X.w _ h' _ (.lst ys) from ⟨hz,HW,c',r',e⟩),rfl,q _ (I.bf.fresh (LR _))⟩
 rcases hq with hq|hq
 .obtain⟨HW,r',pl,hz⟩:=I.list hq;have hlen:=r'.length;obtain⟨o,ho,hc,n,hd⟩:=pl.isList;exact call_list_seq p (.inl rfl) ho hc hd (λh' c' kp e=>fin HW r' hz h' c' kp e) (by simp only[LW]<;>lia)
 .obtain⟨HW,r',pl,hz⟩:=I.tuple hq;have hlen:=r'.length;obtain⟨o,ho,hc,n,hd⟩:=pl;exact call_list_seq p (.inr rfl) ho hc hd (λh' c' kp e=>fin HW r' hz h' c' kp e) (by simp only[LW]<;>lia)
theorem og:dn X (.type "tuple") (λxs H Q=>∃p ys,xs=[.ref p]/\((gR X.K H p ys/\∀l,H l=none->Q (.ref l) (upd H l (.tup ys)))\/(gB X.K H p ys/\Q (.ref p) H))):=by
 intro HQ s σ H xs us Q I r h;obtain⟨p,ys,rfl,h⟩:=h;obtain⟨u,rfl,rx⟩:=vals1 r;cases rx;rcases h with ⟨hq,q⟩|⟨hq,q⟩
 .obtain⟨HW,r',pl,hz⟩:=I.list hq;have hlen:=r'.length;refine call_tuple_list pl.isList (λh' kp=>?_) (by simp only[LW]<;>lia);have I1:Inv X HQ σ H { s with heap:=h' }:=I.kept (t':=s.toks) kp;have I2:Inv X HQ σ (upd H h'.objs.size (.tup ys)) { s with heap:=h'.push { cls:=.type "tuple",data:=.seq HW.toArray } } :=
   I1.laid (t':=s.toks) (λb o e=>LJ _ e) (LR _) (show bN X.prog X.w _ _ _ (.tup ys) from ⟨hz,HW,r',Rx _ _⟩)
  exact⟨.ref h'.objs.size,_,I2,rfl,q _ (I1.bf.fresh (LR _))⟩
 .obtain⟨HW,r',pl,hz⟩:=I.tuple hq;exact call_tuple_same pl ⟨.ref p,H,I,rfl,q⟩
def G6(K:LI)(T:String)(x:V)(H:Hp):Prop:=match x with
 | .str _=>T="str"
 | .int _=>T="int"
 | .ref p=>(T="list" /\ ∃xs,gR K H p xs)\/(T="tuple" /\ ∃o,K.lookup p=some o/\o.cls=.type "tuple" /\ o.dict=none) ∨
   (T="dict" /\ ((∃IE,H p=some (.dK IE))\/∃IE,H p=some (.dT IE)))\/(T="set" /\ ∃S n,H p=some (.set S n))
 |_=>False
def CK{T:String}{x:V}{v:Value}(I:Inv X HQ σ H s)(r:RelV x v)(ty:G6 X.K T x H):s.TypeIs v T/\∀a,v=.ref a->∃ob,s.heap.get? a=some ob/\ob.dict=none:=by
 cases x with
 | str z =>
  obtain⟨t,rfl⟩:=r;cases (show T="str" from ty);exact⟨typeIs_str s z t,λ_ e=>nomatch e⟩
 | int i =>
  obtain⟨t,rfl⟩:=r;cases (show T="int" from ty);exact⟨P5 s i t,λ_ e=>nomatch e⟩
 | ref p =>
  cases r;rcases ty with ⟨rfl,xs,hq⟩|⟨rfl,o,hk,hc,hd⟩|⟨rfl,hk⟩|⟨rfl,S,n,hk⟩
  .obtain⟨HW,_,pl,_⟩:=I.list hq;refine⟨pl.isList.typeIs,λa e=>?_⟩;cases e;obtain⟨o,n,e,c,hd,_⟩:=pl;exact⟨o,e,hd⟩
  .refine⟨⟨o,I.h9 p o hk,hc⟩,λa e=>?_⟩;cases e;exact⟨o,I.h9 _ o hk,hd⟩
  .have z:∃o,s.heap.get? p=some o/\o.ExactDict:=by
    rcases hk with ⟨IE,hk⟩|⟨IE,hk⟩
    .obtain⟨_,_,_,_,o,_,_,e,ex,_⟩:=I.bf p _ hk;exact⟨o,e,ex⟩
    .obtain⟨_,_,_,_,o,_,_,e,ex,_⟩:=I.bf p _ hk;exact⟨o,e,ex⟩
   obtain⟨o,e,ex⟩:=z;refine⟨⟨o,e,ex.1⟩,λa e2=>?_⟩;cases e2;exact⟨o,e,ex.2.1⟩
  .obtain⟨o,_,_,_,e,ex,_⟩:=I.bf p _ hk;refine⟨⟨o,e,ex.1⟩,λa e2=>?_⟩;cases e2;exact⟨o,e,ex.2.1⟩
 |_=>exact Mx ty
def Hw(K:LI)(T:String)(r:V->List V->Hp->VK->Prop)(to:TE)(t:TA):TE:=fun σ H Q=>to σ H λx H1=>G6 K T x H1/\t σ H1 λxs H2=>r x xs H2 Q
variable{o:Expr}{es:List Expr}{to:TE}{t:TA}{name:Str}{apos Ik:Pos}{T id:String}{r:V->List V->Hp->VK->Prop}
def xR(pa:PlainAttrs T)(slot:Slot T name id)(hty:typeOf (.builtin id)=pure (.type "method_descriptor"))(hm:FQ X id r)(ho:PE X o to)(ha:PA X (e::es) t)(Jm:autoParam (attributeBase o name X.env (eval o X.env)=eval o X.env) aR._auto_1)(JT:autoParam (((backTo Ik (starEach (e::es) X.env)).all (λx=>!x.1)&&(backToKw Ik (keywordEach [] X.env)).all (λx=>x.1.isSome) && decide ((e::es).length+([]:List Keyword).length+(if ([]:List Keyword).isEmpty then 0 else 1)<30))=true) aR._auto_1)(Jn:autoParam ((apos.endLine==Ik.line)=true) aR._auto_1)(hs:autoParam ↑0 aR._auto_1)(IT:autoParam ((backTo Ik (starEach es X.env)).any (·.1)=false) aR._auto_1):PE X (.Call (.Attribute o name apos) (e::es) [] Ik) (Hw X.K T r to t):=by
 intro HQ s σ H Q I h;refine wpAny_Call_method_late Jm JT Jn rfl (cH (ho HQ s σ H _ I h) λv s1 ⟨x,H1,I1,r1,ty,q1⟩=>?_);obtain⟨h1,h2⟩:=CK I1 r1 ty;refine⟨T,id,pa,slot,hty,h1,h2,?_⟩;have hA:=ha Ik HQ s1 σ H1 _ I1 q1;rw[hs] at hA ⊢;refine Calls.callWith_builtin (by show (false||(backTo Ik (starEach es X.env)).any (·.1))=false;rw[IT]<;>rfl) (Calls.evalArgs_plain ?_);exact cH hA λus s2 ⟨vs,H2,I2,r2,q2⟩=>hm HQ s2 σ H2 x vs v us Q I2 r1 r2 q2
end
def HJ(X:Cx)(id:String)(r:V->List V->Hp->VK->Prop):Prop :=
 ∀ (HQ:List (Addr×Obj)) (s:Shared) (σ:St) (H:Hp) (x:V) (xs:List V) (v:Value) (us:List Value) (Q:VK),Inv X HQ σ H s->RelV x v->Vals xs us->r x xs H Q ->
  wpAny ↑8 X.A (call (.builtin id) (v::us)) (EP X HQ σ Q) X.xe s
def Vals.one:∀{x:V}{us:List Value},Vals [x] us->∃u,us=[u]/\RelV x u
 |_,_,.cons r .nil=>⟨_,rfl,r⟩
theorem Vals.rep{xs:List V}{us:List Value}(h:Vals xs us):∀k:Nat,Vals (LO k xs).flatten (LO k us).flatten
 | 0=>.nil
 | k+1=>by
  rw[ML,ML,M4,M4];exact Vals.append h (Vals.rep h k)
theorem foldl_rep(HW:List Value):∀(k:Nat)(acc:List Value),Pg (λx1 x2=>x1++x2) acc.toArray (LO k HW.toArray)=(acc++(LO k HW).flatten).toArray
 | 0,acc=>by simp
 | k+1,acc=>by
  have e:acc.toArray++HW.toArray=(acc++HW).toArray:=by simp
  have e2:(acc++HW)++(LO k HW).flatten=acc++(LO (k+1) HW).flatten:=by
   rw[ML,M4,Px]
  rw[<- e2,<- foldl_rep HW k (acc++HW),<- e,ML,List.foldl_cons]
variable{t':Nat}
section
variable{l b:Addr}{ys zs:List V}
def Inv.Gs{its':List Value}{f:Array Value->Array Value}(I:Inv X HQ σ H s)(hH:H l=some (.lst xs))(e:s.heap.get? l=some { cls:=.type "list",data:=.seq HW.toArray n })(hf:f HW.toArray=its'.toArray)(hv:Vals ys its')(hz:ys.length<=sizeLine):Inv X HQ σ (upd H l (.lst ys)) { s with heap:=s.heap.update l (P4 f),toks:=t' }:=by
 have q:=PySem.IsL.update e f;rw[hf] at q;refine I.write (x:=l) (e:=l) (by rw[hH];exact trivial) (.inl rfl) (λb' u hb hu=>(MI s.heap (P4 f) (Nk hb)).trans hu) ⟨_,q⟩ ?_;exact⟨hz,its',_,hv,q⟩
def Inv.EE(I:Inv X HQ σ H s)(hv:Vals ys HW)(hz:ys.length<=sizeLine):Inv X HQ σ (upd H s.heap.objs.size (.lst ys)) { s with heap:=s.heap.push { cls:=.type "list",data:=.seq HW.toArray },toks:=t' } :=
 I.laid (λ_ _ q=>LJ _ q) (LR _) ⟨hz,HW,0,hv,LV _ rfl⟩
theorem Inv.fresh(I:Inv X HQ σ H s):H s.heap.objs.size=none:=I.bf.fresh (LR _)
def Inv.AQ(I:Inv X HQ σ H s)(hH:H l=some (.lst xs)):xs.length<=sizeLine/\∃(HW:List Value)(n:Nat),Vals xs HW/\xs.length=HW.length/\s.heap.get? l=some { cls:=.type "list",data:=.seq HW.toArray n }:=by
 obtain⟨z,HW,n,r,e⟩:=I.bf l _ hH;exact⟨z,HW,n,r,r.length,e⟩
theorem w6(h:n<=sizeLine):Oa n=false:=by
 unfold Oa;exact decide_eq_false ⋯
end
def zN:V->List V->Hp->VK->Prop:=λx vs H Q=>∃l xs y,x=.ref l/\vs=[y]/\H l=some (.lst xs)/\xs.length<sizeLine/\Q .bz (upd H l (.lst (xs++[y])))
theorem ph:HJ X "list.append" zN:=by
 intro HQ s σ H x vs v us Q I rx rv h;obtain⟨l,xs,y,rfl,rfl,hH,hz,q⟩:=h;cases rx;obtain⟨u,rfl,ru⟩:=rv.one;obtain⟨z,HW,n,r,hl,e⟩:=I.AQ hH;refine NY F.slot_list_append ⟨_,e,rfl⟩ F.entry_list_append (F.args_list_append_2 _ _) (PySem.list_append l HW.toArray n u (by rw[LW];lia)) ⟨e,?_⟩;refine⟨.bz,_,I.Gs (its':=HW++[u]) hH e ↑13 (r.append (.cons ru .nil)) ?_,rfl,q⟩;rw[Mp,List.length_singleton];lia
def DS:R2:=λx y H Q=>∃l b xs zs,x=.ref l/\y=.ref b/\H l=some (.lst xs)/\H b=some (.lst zs)/\xs.length+zs.length<=sizeLine/\∀p,H p=none->Q (.ref p) (upd H p (.lst (xs++zs)))
theorem CD:gc X (binaryOp .Add) DS:=by
 intro HQ s σ H x y v u Q I rx ry h;obtain⟨l,b,xs,zs,rfl,rfl,hH,hB,hz,q⟩:=h;cases rx;cases ry;obtain⟨z,HW,n,r,hl,e⟩:=I.AQ hH;obtain⟨z2,JU,n2,r2,Kc,e2⟩:=I.AQ hB;refine PySem.P.add_list e e2 ?_ (by rw[LW,LW];lia);have ea:HW.toArray++JU.toArray=(HW++JU).toArray:=by simp
 rw[ea];exact⟨.ref _,_,I.EE (t':=s.toks) (r.append r2) (by rw[Mp];lia),rfl,q _ I.fresh⟩
def Ec:R2:=λx y H Q=>∃l k xs,x=.ref l/\y=.int k/\H l=some (.lst xs)/\-(2^63)<=k/\k<2^63/\xs.length*k.toNat<=sizeLine ∧
 ∀p,H p=none->Q (.ref p) (upd H p (.lst (LO k.toNat xs).flatten))
def len_rep(xs:List α)(k:Nat):(LO k xs).flatten.length=k*xs.length:=by
 induction k with
 | zero=>simp
 |succ k ih=>rw[ML,M4,Mp,ih,Nat.succ_mul,Rm]
theorem BN:gc X (binaryOp .Mult) Ec:=by
 intro HQ s σ H x y v u Q I rx ry h;obtain⟨l,k,xs,rfl,rfl,hH,h1,h2,hz,q⟩:=h;cases rx;obtain⟨t,rfl⟩:=ry;obtain⟨z,HW,n,r,hl,e⟩:=I.AQ hH;have hlen:HW.toArray.size*k.toNat<=sizeLine:=by rwa[LW,<- hl]
 have hcap:¬ HW.toArray.size*k.toNat>(2^63-1)/8:=by
  have:(sizeLine:Nat)<=(2^63-1)/8:=by decide
  lia
 have hfit:¬ (!Builtin.List.listFitsIndex k)=true:=by
  rw[fitsIndex_both h1 h2];exact MO
 have Ln:¬ Oa (HW.toArray.size*k.toNat)=true:=by
  rw[w6 hlen];exact MO
 have Jx:Pg (λx1 x2=>x1++x2) #[] (LO (if HW.toArray.isEmpty=true then 0 else k.toNat) HW.toArray)=(LO k.toNat HW).flatten.toArray:=by
  have f0:∀m:Nat,Pg (λx1 x2=>x1++x2) #[] (LO m HW.toArray)=(LO m HW).flatten.toArray:=λm=>by
   have:=foldl_rep HW m [];rwa[RQ] at this
  rw[f0];cases HW with
  | nil=>simp
  | cons a r'=>rw[if_neg ↑13]
 refine Pu (T := "list") (U := "int") ↑12 ⟨_,e,rfl⟩ (λs'=>P5 s' k t) noFill_list_mul F.fills_int_mul F.slot_int_rmul repeat_list F.slot_int_index.lookup
  (NY F.slot_int_rmul (P5 s k t) F.entry_int_rmul (F.args_int_rmul_2 _ _) (int___rmul___int_list k t l HW.toArray n)
   ⟨e,rfl,⟨_,e,rfl⟩,NY F.slot_list_mul ⟨_,e,rfl⟩ F.entry_list_mul (F.args_list_mul_2 _ _) (AutoListH.list___mul___list_int_3 l HW.toArray n k t hfit hcap Ln) ⟨e,?_⟩⟩)
 rw[Jx];exact⟨.ref _,_,I.EE (t':=s.toks) (r.rep k.toNat) (by rwa[len_rep,Pa]),rfl,q _ I.fresh⟩
variable{E:Value->Shared->Prop}{A:Around}{w:World}
section
variable{prog:Program}
end
section
variable{κ:Type}[DecidableEq κ]
end
variable{a:Addr}
section
variable{P:Program}{h:Heap}
end
variable{o:Option V}{u:Value}
section
variable{y v:V}{r:Value}
end
variable{IE:List (Key×V)}
section
variable{k:Key}
end
section
variable{o i value:Expr}{pos' LG:Pos}{td ty tv:TE}
end
section
variable{y d:V}{r:Value}
end
section
variable{o f:Expr}{apos Ik:Pos}{td ty tx:TE}
end
section
variable{y:V}
end
end L2
namespace Att
open PySem PySem.W PySem.Calls PyProof.Rows
variable{h:Heap}{P:Params}
def lZ:∀(ns:List Int)(vs:List Value),WellAll P h vs (ns.map WData.int)->IntsAre vs ns:=by
 intro ns
 induction ns with
 | nil =>
  intro vs w;rw[Pb] at w;cases w;exact .nil
 | cons n ns ih =>
  intro vs w;rw[Mg] at w;cases w with
  | cons a b =>
   cases a;exact .cons _ _ (ih _ b)
def vG{l:OpenLaw}{n:Nat}(hn:l.most=some n){args:List WData}{vals:List Value}(vO:l.row.toRowW.claim.pre args=true)(hwl:WellAll P h vals args):∃a vs ns,vals=[LS a]/\args=[WData.list (ns.map WData.int)]/\h.get? a=some { cls:=.type "list",data:=.seq vs.toArray }/\IntsAre vs ns/\ns.length<=n:=by
 have hsh:WShape.hasAll [] args [.list .int]=true:=(pre_splitW vO).1;have hc:l.pre.holds [] { args:=args }=true:=(pre_splitW vO).2;obtain⟨d,r,rfl,h1,h2⟩:=hasAllW_cons hsh;obtain rfl:=hasAllW_nil h2;obtain⟨xs,rfl,h3⟩:=hasW_list h1;obtain⟨ns,rfl⟩:=items_int h3;have hlen:ns.length<=n:=by
  unfold OpenLaw.pre at hc;have h4:(WTm.not (.lt (.lit (.int (n:Int))) (.len (.arg 0)))).holds [] { args:=[.list (ns.map .int)] }=true:=by
   have h4:=(holds_andW hc).1;rwa[hn] at h4
  have h5:=condW_of h4 (w_not (w_lt w_lit (w_len_list (w_arg rfl))));rw[LK] at h5;refine Rz λq=>?_;have q':(n:Int)<((ns.length:Nat):Int):=by lia
  first
   | (rw[decide_eq_true q'] at h5;exact absurd h5 ↑12)
   | (simp at h5;lia)
 cases hwl with
 | cons w1 w2 =>
  cases w2;cases w1 with
  |list ho hall=>exact⟨_,_,ns,rfl,rfl,ho,lZ ns _ hall,hlen⟩
def vM(l:OpenLaw)(args:List WData):l.row.toRowW.claim.post args (.bool true) args=true :=
 postW_of (r:=l.row.toRowW) (X:=(true==true))
  (show WShape.has [] (.bool true) .bool=true by first|rfl|decide|simp[WShape.has,WShape.arms,WShape.armsAll])
  (show (WTm.eq .res (.lit (.bool true))).value [] { args:=args,res:=some (.bool true),after:=args }=some (.bool (true==true)) from w_eq_bool (w_res rfl) w_lit) rfl
section
variable{prog:Program}{w:World}{A:Around}{E:Value->Shared->Prop}{s:Shared}{K:Frag}
end
end Att
namespace L2
open PySem PySem.Spec PyProof.Rows
theorem pf:∀{vs:List Value}{ns:List Int},IntsAre vs ns->Vals (ns.map V.int) vs
 | _,_,.nil=>.nil
 |_,_,.cons n t h=>.cons ⟨t,rfl⟩ (pf h)
def inClass(s:Stmt)(j:Nat):Stmt:=match s with
 | .ClassDef _ _ _ body _ _ _ _ _ _ _=>body.getD j (.Pass ⟨0,0,0,0⟩)
 |_=>.Pass ⟨0,0,0,0⟩
def f9(s:Stmt):Arguments:=match s with
 | .FunctionDef _ a _ _ _ _ _ _ _ _=>a
 |_=>{ posonlyargs:=[],args:=[],vararg:=none,kwonlyargs:=[],kw_defaults:=[],kwarg:=none,defaults:=[] }
def cR(s:Stmt):List Stmt:=match s with
 | .FunctionDef _ _ b _ _ _ _ _ _ _=>b
 |_=>[]
def au(s:Stmt):Scope:=match s with
 | .FunctionDef _ _ _ _ _ _ sc _ _ _=>sc
 |_=>{ kind:=.function,names:=[],isGenerator:=false,isCoroutine:=false }
abbrev E0:XK:=λ_ _ _=>False
section
variable{P:Program}{w:World}{K:LI}{mg:Str->Option Value}{base:Heap}
end
def pv{n:Nat}(h:n<=1000):n<sizeLine:=Og h ↑12
section
variable{X:Cx}
end
def aZ(H H':Hp):Prop:=∀b o,H b=some o->H' b=some o
end L2
section
namespace HD
open PySem PySem.W L2
abbrev pw:Program:=PySem.Challenge.pw_dialvault_k13_kept_and_turned
noncomputable section
noncomputable def st(s:String)(t:Nat):Value:=.str (MC s) t
def en(P:Params)(s:String)(t:Nat)(v:Value):DictEntry:=⟨PyData.keyHash P (MC s),st s t,v⟩
def tu(xs:List Value):Obj:=⟨.type "tuple",none,.seq ⟨xs⟩ 0,⟨[]⟩⟩
def di(n:Nat)(es:List DictEntry):Obj:=⟨.type "dict",none,.dict ⟨es⟩ n,⟨[]⟩⟩
def tp(i:Nat):Stmt:=pw.main.body.getD i (.Pass ⟨0,0,0,0⟩)
def mp(i j:Nat):Stmt:=inClass (tp i) j
def co(a b:String)(t:Nat)(l n:Int)(x1 x2 x3 x4 x5:Nat)(u:Nat):Obj:=⟨.type "code",none,.fields ⟨[st a t,st b (t+1),st "/claim/cut.py" (t+2),.int l 0,.int n 0,.int 0 0,.int 0 0,.int 3 0,.ref x1,.bool true,.int 181 0,.ref x2,.none,.ref x3,.ref x4,.ref x5,.int u 0,.int l 0,st "/claim/cut.py" (u+1)]⟩,⟨[]⟩⟩
def ft(a b:String)(s:Stmt):Obj:=⟨.none,none,.func ⟨MC a,MC b,f9 s,.stmts (cR s),au s,0,[],.none,.none,.none,.none,none,.none,.none,0⟩,⟨[]⟩⟩
def fo(a b:String)(s:Stmt)(df pm:Value)(cd:Nat):Obj:=⟨.type "function",none,.func ⟨MC a,MC b,f9 s,.stmts (cR s),au s,3,[],df,.none,.none,pm,none,.ref cd,.none,0⟩,⟨[]⟩⟩
def CG:List Obj->List Obj
 | []=>[]
 | [a]=>[a]
 |a::_::r=>a::CG r
def bt:Nat->List Obj->BT
 | 0,_=>.nil
 | _+1,[]=>.nil
 |n+1,a::r=>.node a (bt n (CG r)) (bt n (CG (r.drop 1)))
def S(L:Params->List Obj)(n k:Nat)(w:World)(os:OsState):SharedT:=⟨bt 14 (L w.params),n,{},⟨[]⟩,⟨0,0,0,0⟩,k,os⟩
def F(L:Params->List Obj)(k:Nat)(w:World)(os:OsState):Shared:=⟨⟨⟨L w.params⟩,{}⟩,⟨[]⟩,⟨0,0,0,0⟩,k,os⟩
def cc(a:String)(t:Nat)(l:Int)(x y u:Nat):Obj:=⟨.type "code",none,.fields ⟨[st a t,st a (t+1),st "/claim/cut.py" (t+2),.int l 0,.int 0 0,.int 0 0,.int 0 0,.int 0 0,.ref x,.bool false,.int 181 0,.ref y,.none,.none,.none,.none,.int u 0,.int l 0,st "/claim/cut.py" (u+1)]⟩,⟨[]⟩⟩
def fr(a b:Nat)(s:String)(t:Nat):Obj:=⟨.type "frame",none,.plain,⟨[some (.ref a),some (.ref 3),some (.ref b),none,some (st s t),none,some (.ref 0)]⟩⟩
def su(a:Nat):Obj:=⟨.type "super",none,.fields ⟨[.ref a,.ref a,.ref a]⟩,⟨[]⟩⟩
def ii(a:Nat):Obj:=⟨.type "builtin_function_or_method",none,.fields ⟨[.builtin "object.__init_subclass__",.ref a]⟩,⟨[]⟩⟩
def A9:List Nat->List Value
 | a::b::c::r=>.int a 0::.int b 0::.ref c::A9 r
 |_=>[]
def fi(xs:List Nat):Obj:=⟨.none,none,.fields ⟨A9 xs⟩,⟨[]⟩⟩
def cl(n:Str)(bs ms:List Value)(k:Nat)(ss:List Value)(sl:List (Option Value)):Obj:=⟨.type "type",none,.cls ⟨n,bs,ms,k,n,true,[],ss,false,none,false⟩,⟨sl⟩⟩
def pt(L:List Obj)(us:List (Nat×Obj))(ns:List Obj):List Obj:=us.foldl (λl u=>l.set u.1 u.2) L++ns
abbrev b0:=boot_o_0
abbrev b1:=boot_o_1
abbrev b2:=boot_o_2
abbrev b3:=boot_o_3
abbrev b4:=boot_o_4
abbrev b5:=boot_o_5
abbrev b6:=boot_o_6
abbrev b7:=boot_o_7
abbrev b8:=boot_o_8
abbrev b9:=boot_o_9
abbrev HK:=boot_o_10
def m0:Value:=st "__main__" 164
def m1:Value:=st "dialvault.errors" 194
def m2:Value:=st "dialvault.wholes" 386
def m3:Value:=st "dialvault.vault" 422
def m4:Value:=st "law_dialvault_k13_kept_and_turned" 615
def nl:List String->Nat->List Value
 | [],_=>[]
 |x::r,t=>st x t::nl r (t+1)
def fA(P:Params)(a t:Nat)(x q:String)(s:Stmt)(l n:Int)(vs:List String)(df pm:Value):List Obj:=[b7 P,b8 P,tu (nl vs (t+3)),b7 P,ft x q s,co x q t l n a (a+1) (a+2) (a+3) (a+4) (t+3+vs.length),fo x q s df pm (a+5)]
def fT(P:Params)(a t:Nat)(x:String)(s:Stmt)(l n:Int)(vs:List String)(pm:Value):List Obj:=fA P a t x x s l n vs .none pm
def fB(P:Params)(a t:Nat)(x q:String)(s:Stmt)(l n:Int)(df pm:Value):List Obj:=[b7 P,b8 P,ft x q s,⟨.type "code",none,.fields ⟨[st x t,st q (t+1),st "/claim/cut.py" (t+2),.int l 0,.int n 0,.int 0 0,.int 0 0,.int 3 0,.ref a,.bool true,.int 181 0,.ref (a+1),.none,.none,.none,.ref (a+2),.int (t+3) 0,.int l 0,st "/claim/cut.py" (t+4)]⟩,⟨[]⟩⟩,fo x q s df pm (a+3)]
def dB(P:Params)(n t:Nat)(m:Value)(l:Int)(r:List DictEntry):Obj:=di n (en P "__module__" t m::en P "__firstlineno__" (t+4) (.int l (t+3))::r)
def dA(P:Params)(n t:Nat)(m:Value)(x:String)(l:Int)(r:List DictEntry):Obj:=di n (en P "__module__" t m::en P "__qualname__" (t+2) (st x (t+1))::en P "__firstlineno__" (t+4) (.int l (t+3))::r)
def gw(t a:Nat):Obj:=⟨.type "getset_descriptor",none,.fields ⟨[st "__weakref__" t,.ref a,.builtin "ExceptionGroup.__weakref__",.none]⟩,⟨[]⟩⟩
def gd(t a:Nat):Obj:=⟨.type "getset_descriptor",none,.fields ⟨[st "__dict__" t,.ref a,.builtin "function.__dict__",.builtin "function.__dict__#set"]⟩,⟨[]⟩⟩
def ce(x:String)(b a k:Nat)(ss:List Value)(d t u:Nat):Obj:=cl x [.ref b] [.ref a,.ref b,.type "ValueError",.type "Exception",.type "BaseException",.type "object"] k ss [some (.ref d),none,some (st x t),some (st x u),some (.builtin "ValueError.__new__"),some (.bool true)]
def gl P:=[en P "__doc__" 166 .none,en P "__package__" 167 .none,en P "__loader__" 168 (.builtin "__main__.__loader__#opaque"),en P "__spec__" 169 .none,en P "__annotations__" 170 (.ref 6),en P "__builtins__" 171 (.ref 4),en P "__file__" 173 (st "/claim/cut.py" 172),en P "__cached__" 174 .none,en P "_wall" 193 (.ref 21),en P "VaultError" 220 (.ref 38),en P "NoDial" 252 (.ref 65),en P "NoLever" 284 (.ref 91),en P "NoPrice" 316 (.ref 117),en P "NoSetting" 339 (.ref 136),en P "NoPulls" 362 (.ref 155),en P "TooMany" 385 (.ref 174),en P "is_whole" 394 (.ref 183),en P "is_row" 400 (.ref 188),en P "common" 412 (.ref 195),en P "multiple_of" 421 (.ref 202),en P "MOST_DIALS" 425 (.int 6 424),en P "LEAST_SIZE" 427 (.int 2 426),en P "MOST_SIZE" 429 (.int 360 428),en P "MOST_LEVERS" 431 (.int 8 430),en P "LEAST_PRICE" 433 (.int 1 432),en P "MOST_PRICE" 435 (.int 1000 434),en P "Vault" 493 (.ref 246),en P "is_within" 502 (.ref 257),en P "need_sizes" 511 (.ref 264),en P "need_levers" 521 (.ref 271),en P "prices_for" 530 (.ref 278),en P "rests" 536 (.ref 283),en P "is_setting" 542 (.ref 288),en P "is_pulls" 550 (.ref 295),en P "need_setting" 558 (.ref 302),en P "need_pulls" 566 (.ref 309),en P "kept" 575 (.ref 316),en P "added" 581 (.ref 321),en P "turned" 593 (.ref 328),en P "pulled" 605 (.ref 336),en P "between" 614 (.ref 343),en P "_law_cell" 625 (.ref 350),en P "_law_mix" 634 (.ref 357),en P "_law_same" 644 (.ref 364),en P "_law_number" 654 (.ref 371),en P "_law_sizes" 664 (.ref 378),en P "_law_levers" 670 (.ref 383),en P "_law_row" 676 (.ref 388),en P "_law_spoiled" 686 (.ref 395),en P "_law_are_wholes" 692 (.ref 400),en P "_law_is_setting" 698 (.ref 405),en P "_law_rests" 704 (.ref 410),en P "_law_outcome" 715 (.ref 417),en P "_law_turned" 733 (.ref 424),en P "_law_copy" 740 (.ref 431),en P "_law_pulled" 746 (.ref 436),en P "_law_between" 752 (.ref 441),en P "_law_kept" 765 (.ref 448),en P "law" 771 (.ref 453)]
def LA(P:Params):List Obj:=[b0 P,b1 P,b2 P,b3 P,b4 P,b5 P,b6 P,b7 P,b8 P,b9 P,HK P,b7 P,b8 P,cc "<module>" 182 1 11 12 185,fr 13 3 "__main__" 164]
def o9:Obj:=⟨.type "builtin_function_or_method",none,(.fields ⟨[.builtin "type.__prepare__",.type "type"]⟩),⟨[]⟩⟩
def HE:Obj:=gw 216 38
def DL:=tu [.ref 38]
def L0 P:=pt (LA P) [(3,di 15 (en P "__name__" 165 m1::(gl P).take 14)),(12,fi [1,0,20,5,0,27,9,0,47,16,0,73,23,0,99,30,0,125])] (fT P 15 187 "_wall" (tp 0) 1 1 ["k"] m0++([tu [.type "ValueError"],o9,dA P 5 203 m1 "VaultError" 5 [en P "word" 214 (.ref 35),en P "__static_attributes__" 215 (.ref 36)],b7 P,fi [7,4,34],cc "VaultError" 198 5 25 26 201,fr 27 24 "dialvault.errors" 194]++(fA P 29 208 "word" "VaultError.word" (mp 2 0) 7 1 ["self"] .none m1++([b7 P,dB P 3 203 m1 5 [en P "word" 214 (.ref 35),en P "__static_attributes__" 215 (.ref 36),en P "__weakref__" 217 (.ref 39),en P "__doc__" 218 .none],cl "VaultError" [.type "ValueError"] [.ref 38,.type "ValueError",.type "Exception",.type "BaseException",.type "object"] 37 [.ref 65,.ref 91,.ref 117,.ref 136] [some (.ref 22),none,some (st "VaultError" 196),some (st "VaultError" 204),some (.builtin "ValueError.__new__"),some (.bool true)],HE,su 38,ii 38,DL,o9,dA P 6 228 m1 "NoDial" 9 [en P "__init__" 240 (.ref 55),en P "word" 247 (.ref 62),en P "__static_attributes__" 249 (.ref 63)],b7 P,fi [11,4,54,14,4,61],cc "NoDial" 223 9 45 46 226,fr 47 44 "dialvault.errors" 194]++(fA P 49 233 "__init__" "NoDial.__init__" (mp 3 0) 11 2 ["self","dial"] .none m1++(fA P 56 241 "word" "NoDial.word" (mp 3 1) 14 1 ["self"] .none m1++([tu [st "dial" 248],dB P 2 228 m1 9 [en P "__init__" 240 (.ref 55),en P "word" 247 (.ref 62),en P "__static_attributes__" 249 (.ref 63),en P "__doc__" 250 .none],ce "NoDial" 38 65 64 [] 42 221 229,su 65,ii 65,DL,o9,dA P 6 260 m1 "NoLever" 16 [en P "__init__" 272 (.ref 81),en P "word" 279 (.ref 88),en P "__static_attributes__" 281 (.ref 89)],b7 P,fi [18,4,80,21,4,87],cc "NoLever" 255 16 71 72 258,fr 73 70 "dialvault.errors" 194]++(fA P 75 265 "__init__" "NoLever.__init__" (mp 4 0) 18 2 ["self","lever"] .none m1++(fA P 82 273 "word" "NoLever.word" (mp 4 1) 21 1 ["self"] .none m1++([tu [st "lever" 280],dB P 2 260 m1 16 [en P "__init__" 272 (.ref 81),en P "word" 279 (.ref 88),en P "__static_attributes__" 281 (.ref 89),en P "__doc__" 282 .none],ce "NoLever" 38 91 90 [] 68 253 261,su 91,ii 91,DL,o9,dA P 6 292 m1 "NoPrice" 23 [en P "__init__" 304 (.ref 107),en P "word" 311 (.ref 114),en P "__static_attributes__" 313 (.ref 115)],b7 P,fi [25,4,106,28,4,113],cc "NoPrice" 287 23 97 98 290,fr 99 96 "dialvault.errors" 194]++(fA P 101 297 "__init__" "NoPrice.__init__" (mp 5 0) 25 2 ["self","lever"] .none m1++(fA P 108 305 "word" "NoPrice.word" (mp 5 1) 28 1 ["self"] .none m1++([tu [st "lever" 312],dB P 2 292 m1 23 [en P "__init__" 304 (.ref 107),en P "word" 311 (.ref 114),en P "__static_attributes__" 313 (.ref 115),en P "__doc__" 314 .none],ce "NoPrice" 38 117 116 [] 94 285 293,su 117,ii 117,DL,o9,dA P 5 324 m1 "NoSetting" 30 [en P "word" 335 (.ref 133),en P "__static_attributes__" 336 (.ref 134)],b7 P,fi [32,4,132],cc "NoSetting" 319 30 123 124 322,fr 125 122 "dialvault.errors" 194]++(fA P 127 329 "word" "NoSetting.word" (mp 6 0) 32 1 ["self"] .none m1++([b7 P,dB P 2 324 m1 30 [en P "word" 335 (.ref 133),en P "__static_attributes__" 336 (.ref 134),en P "__doc__" 337 .none],ce "NoSetting" 38 136 135 [] 120 317 325,su 136,ii 136])))))))))))))))
def FZ:Obj:=gd 487 246
def F4:Obj:=gw 489 246
def L1 P:=pt (L0 P) [(3,di 43 (en P "__name__" 165 m4::(gl P).take 42)),(12,fi [1,0,20,5,0,27,9,0,47,16,0,73,23,0,99,30,0,125,34,0,144,38,0,163,43,0,182,45,0,187,49,0,194,60,0,201,72,0,208,93,0,256,95,0,263,103,0,270,109,0,277,118,0,282,120,0,287,125,0,294,127,0,301,130,0,308,133,0,315,138,0,320,141,0,327,148,0,335,156,0,342,161,0,349]),(38,cl "VaultError" [.type "ValueError"] [.ref 38,.type "ValueError",.type "Exception",.type "BaseException",.type "object"] 37 [.ref 65,.ref 91,.ref 117,.ref 136,.ref 155,.ref 174] [some (.ref 22),none,some (st "VaultError" 196),some (st "VaultError" 204),some (.builtin "ValueError.__new__"),some (.bool true)])] ([DL,o9,dA P 5 347 m1 "NoPulls" 34 [en P "word" 358 (.ref 152),en P "__static_attributes__" 359 (.ref 153)],b7 P,fi [36,4,151],cc "NoPulls" 342 34 142 143 345,fr 144 141 "dialvault.errors" 194]++(fA P 146 352 "word" "NoPulls.word" (mp 7 0) 36 1 ["self"] .none m1++([b7 P,dB P 2 347 m1 34 [en P "word" 358 (.ref 152),en P "__static_attributes__" 359 (.ref 153),en P "__doc__" 360 .none],ce "NoPulls" 38 155 154 [] 139 340 348,su 155,ii 155,DL,o9,dA P 5 370 m1 "TooMany" 38 [en P "word" 381 (.ref 171),en P "__static_attributes__" 382 (.ref 172)],b7 P,fi [40,4,170],cc "TooMany" 365 38 161 162 368,fr 163 160 "dialvault.errors" 194]++(fA P 165 375 "word" "TooMany.word" (mp 8 0) 40 1 ["self"] .none m1++([b7 P,dB P 2 370 m1 38 [en P "word" 381 (.ref 171),en P "__static_attributes__" 382 (.ref 172),en P "__doc__" 383 .none],ce "TooMany" 38 174 173 [] 158 363 371,su 174,ii 174]++(fT P 177 388 "is_whole" (tp 10) 43 1 ["thing"] m2++(fB P 184 395 "is_row" "is_row" (tp 11) 45 2 .none m2++(fT P 189 401 "common" (tp 12) 49 2 ["one","other","row","behind","times","rest"] m2++(fT P 196 413 "multiple_of" (tp 13) 60 1 ["numbers","multiple","number"] m2++([b7 P,o9,dA P 9 443 m3 "Vault" 72 [en P "__init__" 453 (.ref 215),en P "sizes" 460 (.ref 222),en P "levers" 467 (.ref 229),en P "prices" 474 (.ref 236),en P "around" 481 (.ref 243),en P "__static_attributes__" 486 (.ref 244)],b7 P,fi [74,4,214,82,4,221,85,4,228,88,4,235,91,4,242],cc "Vault" 438 72 206 207 441,fr 208 205 "dialvault.vault" 422,tu [.none]]++(fB P 211 448 "__init__" "Vault.__init__" (mp 21 0) 74 4 (.ref 210) m3++(fA P 216 454 "sizes" "Vault.sizes" (mp 21 1) 82 1 ["self"] .none m3++(fA P 223 461 "levers" "Vault.levers" (mp 21 2) 85 1 ["self"] .none m3++(fA P 230 468 "prices" "Vault.prices" (mp 21 3) 88 1 ["self"] .none m3++(fA P 237 475 "around" "Vault.around" (mp 21 4) 91 1 ["self"] .none m3++([tu [st "dial_sizes" 482,st "least_round" 483,st "lever_prices" 484,st "lever_settings" 485],dB P 4 443 m3 72 [en P "__init__" 453 (.ref 215),en P "sizes" 460 (.ref 222),en P "levers" 467 (.ref 229),en P "prices" 474 (.ref 236),en P "around" 481 (.ref 243),en P "__static_attributes__" 486 (.ref 244),en P "__dict__" 488 (.ref 247),en P "__weakref__" 490 (.ref 248),en P "__doc__" 491 .none],cl "Vault" [.type "object"] [.ref 246,.type "object"] 245 [] [none,none,some (st "Vault" 436),some (st "Vault" 444),some (.builtin "object.__new__"),some (.bool true)],FZ,F4,su 246,ii 246]++(fT P 251 494 "is_within" (tp 22) 93 3 ["thing","least","most"] m3++(fT P 258 503 "need_sizes" (tp 23) 95 1 ["sizes","dial","size"] m3++(fT P 265 512 "need_levers" (tp 24) 103 2 ["levers","dials","place","lever"] m3++(fT P 272 522 "prices_for" (tp 25) 109 2 ["levers","prices","place"] m3++(fB P 279 531 "rests" "rests" (tp 26) 118 2 .none m3++(fB P 284 537 "is_setting" "is_setting" (tp 27) 120 2 .none m3++(fT P 289 543 "is_pulls" (tp 28) 125 2 ["vault","thing"] m3++(fT P 296 551 "need_setting" (tp 29) 127 2 ["vault","thing"] m3++(fT P 303 559 "need_pulls" (tp 30) 130 2 ["vault","thing"] m3++(fT P 310 567 "kept" (tp 31) 133 2 ["vault","numbers","sizes"] m3++(fB P 317 576 "added" "added" (tp 32) 138 4 .none m3++(fT P 322 582 "turned" (tp 33) 141 3 ["vault","setting","pulls","reached","lever","times"] m3++([tu [.int 1 594]]++(fA P 330 595 "pulled" "pulled" (tp 34) 148 4 ["vault","setting","lever","times","levers"] (.ref 329) m3++(fT P 337 606 "between" (tp 35) 156 3 ["vault","one","other"] m3++(fT P 344 617 "_law_cell" (tp 37) 161 2 ["_law_script","_law_k","_law_number_here"] m4))))))))))))))))))))))))))))))))
def L2 P:=pt (L1 P) [(3,di 60 (en P "__name__" 165 m4::gl P)),(12,fi [1,0,20,5,0,27,9,0,47,16,0,73,23,0,99,30,0,125,34,0,144,38,0,163,43,0,182,45,0,187,49,0,194,60,0,201,72,0,208,93,0,256,95,0,263,103,0,270,109,0,277,118,0,282,120,0,287,125,0,294,127,0,301,130,0,308,133,0,315,138,0,320,141,0,327,148,0,335,156,0,342,161,0,349,168,0,356,172,0,363,187,0,370,195,0,377,201,0,382,206,0,387,210,0,394,215,0,399,219,0,404,223,0,409,225,0,416,240,0,423,256,0,430,260,0,435,281,0,440,288,0,447,299,0,452])] (fT P 351 626 "_law_mix" (tp 38) 168 2 ["_law_cell_here","_law_k","_law_number_here"] m4++(fT P 358 635 "_law_same" (tp 39) 172 2 ["_law_found","_law_due","_law_one","_law_other"] m4++(fT P 365 645 "_law_number" (tp 40) 187 2 ["_law_cell_here","_law_k","_law_number_here","_law_far"] m4++(fT P 372 655 "_law_sizes" (tp 41) 195 1 ["_law_cell_here","_law_sizes_here","_law_k","_law_number_here"] m4++(fB P 379 665 "_law_levers" "_law_levers" (tp 42) 201 4 .none m4++(fB P 384 671 "_law_row" "_law_row" (tp 43) 206 3 .none m4++(fT P 389 677 "_law_spoiled" (tp 44) 210 3 ["_law_thing","_law_cell_here","_law_sizes_here","_law_some"] m4++(fB P 396 687 "_law_are_wholes" "_law_are_wholes" (tp 45) 215 2 .none m4++(fB P 401 693 "_law_is_setting" "_law_is_setting" (tp 46) 219 2 .none m4++(fB P 406 699 "_law_rests" "_law_rests" (tp 47) 223 2 .none m4++(fT P 411 705 "_law_outcome" (tp 48) 225 1 ["_law_ask","_law_found","_law_caught","e","_law_flags"] m4++([b7 P,b8 P,tu [st "_law_vault" 719,st "_law_sizes_here" 720,st "_law_levers_here" 721,st "_law_cell_here" 722,st "_law_handed" 723,st "_law_found" 724,st "_law_total" 725,st "_law_j" 726,st "_law_k" 727],tu [st "_law_vault" 728,st "_law_one" 729,st "_law_pulls" 730],ft "_law_turned" "_law_turned" (tp 49),co "_law_turned" "_law_turned" 716 240 4 418 419 420 421 422 731,fo "_law_turned" "_law_turned" (tp 49) .none m4 423]++(fT P 425 734 "_law_copy" (tp 50) 256 1 ["_law_thing"] m4++(fB P 432 741 "_law_pulled" "_law_pulled" (tp 51) 260 4 .none m4++(fB P 437 747 "_law_between" "_law_between" (tp 52) 281 3 .none m4++([b7 P,b8 P,tu [st "_law_vault" 756,st "_law_sizes_here" 757,st "_law_cell_here" 758,st "_law_handed" 759,st "_law_found" 760],tu [st "_law_vault" 761,st "_law_numbers" 762],ft "_law_kept" "_law_kept" (tp 53),co "_law_kept" "_law_kept" 753 288 3 442 443 444 445 446 763,fo "_law_kept" "_law_kept" (tp 53) .none m4 447]++(fB P 449 766 "law" "law" (tp 54) 299 1 .none m4)))))))))))))))))
def LF(P:Params):=L2 P
def bE:List Stmt:=behindTheImports pw
def env:Env:={ scope:=pw.main.scope,locals:=mainNs,globals:=mainNs,cells:=[],code:=.ref 13,frame:=some 14 }
def cE:Code:=.body bE env
abbrev B:List Frame:=[topFrame ⟨0,0,0,0⟩]
abbrev ann:Option Value:=(some (.ref 6))
def Dk:List Stmt:=(bE.drop 0).take 7
def B4:List Stmt:=(bE.drop 7).take 31
def Cm:List Stmt:=(bE.drop 38).take 17
end
def vO:∀w:World,(λos=>topGo treeTable pw w 11 ann 12 ⟨boot_heap w.params,⟨[]⟩,boot_drawn,boot_toks,os⟩ (topStub pw))=λos=>some (F LA 187 w os,⟨denote treeTable cE,cE,⟨0,0,0,0⟩,B⟩):=λw=>by
 rw[PySem.W.Fast.te15667345088766844465,Mu,PySem.W.Fast.te11892475500146522536]
 kernel_rfl
def GP:∀w:World,(λos=>segRun treeTable pw w 11 ann 1 1 (F LA 187 w os) (blockOf bE env cE ⟨0,0,0,0⟩ B))=λos=>some (RA,(S LA 15 187 w os).abs,cE,⟨0,0,0,0⟩):=λw=>by
 rw[PySem.W.Fast.te14374325043358763698,Mu]
 kernel_rfl
def Hz:∀w:World,(λos=>segRunT treeTable pw w 11 ann 1 1326 (S LA 15 187 w os) (piecesOf Dk env cE ⟨0,0,0,0⟩ B))=λos=>some (RA,S L0 139 340 w os,cE,⟨30,0,33,16⟩):=λw=>by
 rw[Nm,Mu]
 kernel_rfl
def HB:∀w:World,(λos=>segRunT treeTable pw w 11 ann 1 1489 (S L0 139 340 w os) (piecesOf B4 env cE ⟨30,0,33,16⟩ B))=λos=>some (RA,S L1 351 626 w os,cE,⟨161,0,167,59⟩):=λw=>by
 rw[Nm,Mu]
 kernel_rfl
def Fj:∀w:World,(λos=>segRunT treeTable pw w 11 ann 1 505 (S L1 351 626 w os) (piecesOf Cm env cE ⟨161,0,167,59⟩ B))=λos=>some (RA,S L2 454 772 w os,cE,⟨299,0,314,126⟩):=λw=>by
 rw[Nm,Mu]
 kernel_rfl
def Cc:∀w:World,(λos=>topRun treeTable pw w 11 ann 2 (S L2 454 772 w os).abs ⟨doneF .next,cE,⟨299,0,314,126⟩,B⟩)=λos=>some (F LF 772 w os):=λw=>by
 rw[PySem.W.Fast.te14082659384304107361,Mu]
 kernel_rfl
def Hy:bE=(Dk++(B4++(Cm++[]))):=by kernel_rfl
def yH(w:World)(os:OsState):topRun treeTable pw w 11 ann (1326+(1489+(505+2))) (S LA 15 187 w os).abs (restOf bE env cE ⟨0,0,0,0⟩ B)=some (F LF 772 w os):=by
 rw[show restOf bE env cE ⟨0,0,0,0⟩ B=restOf (Dk++(B4++(Cm++[]))) env cE ⟨0,0,0,0⟩ B from congrArg (λb=>restOf b env cE ⟨0,0,0,0⟩ B) Hy];exact piece_app (segRun_of (congrFun (Hz w) os)) (piece_app (segRun_of (congrFun (HB w) os)) (piece_app (segRun_of (congrFun (Fj w) os)) (piece_nil (congrFun (Cc w) os))))
def Fx(w:World)(os:OsState):topRun treeTable pw w 11 ann (12+(1+(1326+(1489+(505+2))))) ⟨boot_heap w.params,⟨[]⟩,boot_drawn,boot_toks,os⟩ (topStub pw)=some (F LF 772 w os) :=
 go_top (congrFun (vO w) os) (piece_block (congrFun (GP w) os) (yH w os))
end HD
end
section
namespace HD
open PySem PySem.W L2
noncomputable section
def vw:Program:=PySem.W.view pw [0,2,3,4,5,6,7,8,10,11,12,13,15,16,17,18,19,20,21,22,23,24,25,26,27,28,29,30,31,32,33,35,37,38,39,40,41,42,43,44,45,46,47,48,49,50,51,52,53,54]
def loose:List Str:=[MC "pulled"]
noncomputable def as:List Addr:=[2,3,15,17,18,20,21,22,29,31,32,34,35,36,37,38,39,42,49,51,52,54,55,56,58,59,61,62,63,64,65,68,75,77,78,80,81,82,84,85,87,88,89,90,91,94,101,103,104,106,107,108,110,111,113,114,115,116,117,120,127,129,130,132,133,134,135,136,139,146,148,149,151,152,153,154,155,158,165,167,168,170,171,172,173,174,177,179,180,182,183,184,187,188,189,191,192,194,195,196,198,199,201,202,210,211,214,215,216,218,219,221,222,223,225,226,228,229,230,232,233,235,236,237,239,240,242,243,244,245,246,247,248,251,253,254,256,257,258,260,261,263,264,265,267,268,270,271,272,274,275,277,278,279,282,283,284,287,288,289,291,292,294,295,296,298,299,301,302,303,305,306,308,309,310,312,313,315,316,317,320,321,322,324,325,327,328,329,330,332,333,335,336,337,339,340,342,343,344,346,347,349,350,351,353,354,356,357,358,360,361,363,364,365,367,368,370,371,372,374,375,377,378,379,382,383,384,387,388,389,391,392,394,395,396,399,400,401,404,405,406,409,410,411,413,414,416,417,418,420,421,423,424,425,427,428,430,431,432,435,436,437,440,441,442,444,445,447,448,449,452,453]
def K(P:Params):Frag:=as.map λa=>(a,(LF P).getD a (su 0))
def hook:Hook:=kHook K as (λ_=>by kernel_rfl)
abbrev rr:RowW:=(PySem.Challenge.rw_dialvault_k13_kept_and_turned.row).toRowW
def Xt:Shared->Bool:=λs=>xlAt vw [] s&&recOk (RowW.records rr) s
def H1(P:Params):Heap:=⟨⟨LF P⟩,{}⟩
end
def EH:∀w:World,((boot_heap w.params).isNs mainGlobals&&(Array.mk []:Array GenState).size==0,(boot_heap w.params).objs.size,(boot_heap w.params).nsMap mainGlobals "__annotations__")=(true,11,ann):=λw=>by
 rw[PySem.W.Fast.te8920871248978507458]
 kernel_rfl
def Hu(w:World):staticsOk (importedModules pw.main.body) (boot_heap w.params) (H1 w.params)=true:=by
 first|(rw[LX,LY];kernel_rfl)|(rw[LX];kernel_rfl)|(rw[LY];kernel_rfl)|(kernel_rfl)
def HF(w:World):namesBound pw (H1 w.params)=true:=by
 first|(rw[LX,LY];kernel_rfl)|(rw[LX];kernel_rfl)|(rw[LY];kernel_rfl)|(kernel_rfl)
def Hr(w:World)(os:_):gensDone ⟨H1 w.params,⟨[]⟩,⟨0,0,0,0⟩,772,os⟩=true:=by
 first|(rw[LX,LY];kernel_rfl)|(rw[LX];kernel_rfl)|(rw[LY];kernel_rfl)|(kernel_rfl)
def Hl(w:World):laidKept (boot_heap w.params) (H1 w.params)=true:=by
 first|(rw[LX,LY];kernel_rfl)|(rw[LX];kernel_rfl)|(rw[LY];kernel_rfl)|(kernel_rfl)
def Hv(w:World)(os:_):openSeen vw loose (importedModules pw.main.body) Xt true ⟨H1 w.params,⟨[]⟩,⟨0,0,0,0⟩,772,os⟩=openGood vw loose:=by
 first|(rw[LX,LY];kernel_rfl)|(rw[LX];kernel_rfl)|(rw[LY];kernel_rfl)|(kernel_rfl)
def HN(w:World)(os:_):Hook.obs hook ⟨H1 w.params,⟨[]⟩,⟨0,0,0,0⟩,772,os⟩=Hook.val hook w:=by
 first|(rw[LX,LY];kernel_rfl)|(rw[LX];kernel_rfl)|(rw[LY];kernel_rfl)|(kernel_rfl)
def Du:∀w:World,(λos=>((staticsOk (importedModules pw.main.body) (boot_heap w.params) (H1 w.params)&&namesBound pw (H1 w.params)&&gensDone ⟨H1 w.params,⟨[]⟩,⟨0,0,0,0⟩,772,os⟩&&laidKept (boot_heap w.params) (H1 w.params)),openSeen vw loose (importedModules pw.main.body) Xt true ⟨H1 w.params,⟨[]⟩,⟨0,0,0,0⟩,772,os⟩,Hook.obs hook ⟨H1 w.params,⟨[]⟩,⟨0,0,0,0⟩,772,os⟩))=λ_=>(true,openGood vw loose,Hook.val hook w):=λw=>funext λos=>by
 rw[Hu,HF,Hr,Hl,Hv,HN];rfl
def D8:LeftO pw vw loose Xt (Hook.obs hook) (Hook.val hook) 6760 :=
 LeftO.of_pieces (H₀:=boot_heap) (H₁:=H1) (gs₀:=⟨[]⟩) (gs₁:=⟨[]⟩) (d₀:=boot_drawn) (d₁:=⟨0,0,0,0⟩) (k₀:=boot_toks) (k₁:=772) (m₀:=11) (ann:=ann) (M:=(12+(1+(1326+(1489+(505+2))))))
  (boot_open ↑10 ↑10 (λs=>by kernel_rfl)) EH Fx ↑10 Du
end HD
end
section
open PySem PySem.W
def HD.said:PySem.Challenge.rw_dialvault_k13_kept_and_turned.wellSaid=true:=by
 decide +kernel
end
namespace L2
open PySem PySem.Spec PyProof.Rows
variable{X:Cx}
variable{n:Nat}
def yp(_ j:Int):Prop:=j≠0/\j.natAbs.log2<9000
def za:gc X (binaryOp .FloorDiv) (rI yp λi j=>.int (i.fdiv j)):=Ft λ_ _ _ _ _ _ _ hc q=>floordiv_int hc.1 q (.inl (PyProof.noPylong_of_log2 hc.2))
def A0:gc X (binaryOp .Mult) (rI (λi j=>IntMulOk i j) λi j=>.int (i*j)):=Ft λ_ _ _ _ _ _ _ hc q=>mul_int q hc
def yi{a b:Int}{m:Nat}(ha:a.natAbs<2^m)(hb:b.natAbs<2^n)(h:m+n<=134217728):IntMulOk a b:=IntMulOk.of_le (intBits_le_iff.mpr ha) (intBits_le_iff.mpr hb) h
def uu:bootBuiltins "isinstance"=some (.builtin "isinstance"):=by decide +kernel
def sO:bootBuiltins "int"=some (.type "int"):=by decide +kernel
def ke:bootBuiltins "bool"=some (.type "bool"):=by decide +kernel
def dN:bootBuiltins "tuple"=some (.type "tuple"):=by decide +kernel
def fZ:bootBuiltins "list"=some (.type "list"):=by decide +kernel
def xf:bootBuiltins "str"=some (.type "str"):=by decide +kernel
def GD(K:LI):List V->Hp->VK->Prop:=λxs H Q=>∃x T t b,xs=[x,.ty T]/\iP K H x t/\L6 K t (.type T)=some b/\Q (.bl b) H
def Gp(K:LI):List V->Hp->VK->Prop:=λxs H Q=>∃x C t b,xs=[x,.ref C]/\iP K H x t/\L6 K t (.ref C)=some b/\Q (.bl b) H
def xv:dn X (.builtin "isinstance") (GD X.K):=by
 intro HQ s σ H xs us Q I r h;obtain⟨x,T,t,b,rfl,ty,e,q⟩:=h;cases r with
 | cons r1 r2 =>
  cases r2 with
  | cons r3 r4 =>
   cases r4;cases (show _=M0 T from r3);exact oX I r1 ty e λtk=>⟨.bl b,H,I.tok tk,rfl,q⟩
def xB:dn X (.builtin "isinstance") (Gp X.K):=by
 intro HQ s σ H xs us Q I r h;obtain⟨x,C,t,b,rfl,ty,e,q⟩:=h;cases r with
 | cons r1 r2 =>
  cases r2 with
  | cons r3 r4 =>
   cases r4;cases (show _=LS C from r3);exact oX I r1 ty e λtk=>⟨.bl b,H,I.tok tk,rfl,q⟩
section
variable(K:LI)
end
variable{o:HO}{a:Addr}{ch:List Addr}{t':Nat}{h':Heap}{s:Shared}{H:Hp}{σ:St}{HQ:List (Addr×Obj)}
variable{x1:Nat}{elts:List Expr}{w:World}{P:Program}
def Inv.kI(I:Inv X HQ σ H s)(k:∀b u,b ∉ ch->s.heap.get? b=some u->h'.get? b=some u)(JK:∀b∈ch,lh X HQ H b)(hp:s.heap.objs.size<=a)(hl:∀b∈ch,∃u,s.heap.get? b=some u)(new:bN X.prog X.w (upd H a o) h' a o):Inv X HQ σ (upd H a o) { s with heap:=h',toks:=t' }:=by
 have ne:∀b u,s.heap.get? b=some u->b≠a:=λb u e=>L7 (LU (LN e) hp);have Kl:H a=none:=I.bf.fresh hp;have Kq:∀b u,H b=some u->b ∉ ch:=λb u e z=>by rw[(JK b z).1] at e;cases e
 have J9:∀b u,H b=some u->b≠a:=λb u e z=>by rw[z,Kl] at e;cases e
 refine I.step (g':=s.gens) (d':=s.drawn) (ch:=ch) (λb hb=>?_) (λb u _ _ hc e _=>k b u hc e) (λb u _ _ hc e _=>⟨u.slots,k b u hc e⟩)
  (λb u _ e n=>by rwa[aq (ne b u e)]) (λb u hc e=>⟨u,k b u hc e⟩)
  (λb xs e=>by rwa[aq (J9 b _ e)]) (λb ob u e=>by rwa[aq (J9 b _ e)]) (λb ps e=>by rwa[aq (J9 b _ e)]) (λm hm=>?_) (λb u e=>?_) I.bare
 .obtain⟨_,f1,_,f3,f4,f5⟩:=JK b hb;exact⟨f3,f1,f4,f5⟩
 .obtain⟨ob,es,ep,ho,r⟩:=hm;exact⟨ob,es,ep,k _ ob (λz=>(JK _ z).2.1 rfl) ho,r⟩
 .by_cases z:b=a
  .subst z;rw[aw] at e;cases e;exact new
  .rw[aq z] at e;refine(I.bf b u e).jR (λc v hc q=>k c v ?_ q) (λc q=>?_) (λc ys q=>?_) λc t q=>by rwa[aq (J9 c _ q)]
   .rcases hc with z'|z'
    .rw[z'];exact Kq b u e
    .exact Kq c _ z'
   .rw[aq (J9 c _ q)];exact q
   .rw[aq (J9 c _ q)];exact q
def CS (K : LI)(a : Addr) : It :=
  ⟨λi H => ∃xs x,gR K H a xs /\ xs[i]? = some x,
   λi H y H' => ∃p x,H p=none /\ y=.ref p /\ H'=upd H p (.tup [.int i,x]) /\ ∀xs,gR K H a xs -> xs[i]? = some x,
   λi H => ∃xs,gR K H a xs /\ xs.length <= i⟩
theorem wA{K:LI}{tp:Pos}(a e it:Addr)(Kd:e≠it):Turn P w K (.Tuple elts x1 tp) (CS K a) [e,it] e (λi h=>(∃old,IsEnum h e it i old)/\h.IsListIter it a i) where
 mem:=by simp
 obj:=λi h st b hb=>by
  obtain⟨⟨old,he⟩,⟨o,e1,c,d⟩⟩:=st;rcases L5.mp hb with z|z
  .subst z;exact⟨_,he,λv z=>by cases z⟩
  .have z':b=it:=by simpa using z
   subst z';exact⟨o,e1,λv z=>by rw[d] at z;cases z⟩
 keep:=λi h h' st k=>by
  obtain⟨⟨old,he⟩,hit⟩:=st;exact⟨⟨old,k e ↑13 _ he⟩,hit.at λo x=>k it ↑13 o x⟩
 item:=by
  intro X hP hw hK hc i HQ s σ H E I hf st hg;subst hP hw hK;obtain⟨xs,x,hq,hx⟩:=hg;obtain⟨HW,rv,p,hz⟩:=I.list hq;obtain⟨u,hu,ru⟩:=rv.get hx;obtain⟨⟨old,he⟩,hit⟩:=st;have Kj:e<s.heap.objs.size:=LN he;have KN:it<s.heap.objs.size:=by obtain⟨_,z,_⟩:=hit;exact LN z
  refine wpAny_pyNext_enum_item he hit p.isList (x:=u) (by simpa using hu) Kd λh' ho KP hT JD hk=>⟨_,rfl,?_⟩
  refine Ph (s:={ s with heap:=h',toks:=s.toks+1 }) ho λh2 he2 JH=>?_;have Ko:∀b o,b ∉ [e,it]->s.heap.get? b=some o->h2.get? b=some o:=λb o hb q=>by
   have n1:b≠e:=λz=>hb (by simp[z]);have n2:b≠it:=λz=>hb (by simp[z]);exact(JH.2 b n1).trans (hk b o n1 n2 q)
  have Ku:h2.get? s.heap.objs.size=some { cls:=.type "tuple",data:=.seq #[.int i s.toks,u] }:=(JH.2 _ (NP Kj)).trans hT;have I2:Inv X HQ σ (upd H s.heap.objs.size (.tup [.int i,x])) { s with heap:=h2,toks:=s.toks+1 } :=
   I.kI (ch:=[e,it]) Ko hf (LR _) (λb hb=>by
    rcases L5.mp hb with z|z
    .subst z;exact⟨_,he⟩
    .have z':b=it:=by simpa using z
     subst z';obtain⟨o,z,_⟩:=hit;exact⟨o,z⟩)
    ⟨by show 2<=sizeLine;decide,[.int i s.toks,u],.cons ⟨_,rfl⟩ (.cons ru .nil),⟨_,Ku,rfl,_,rfl⟩⟩
  have Jx:H s.heap.objs.size=none:=I.bf.fresh (LR _);refine⟨.ref s.heap.objs.size,_,I2,rfl,⟨_,x,Jx,rfl,rfl,λys hy=>by rwa[I.m7 hy hq]⟩,⟨⟨u,by simpa using he2⟩,KP.at λo z=>(JH.2 it (Nk Kd)).trans z⟩,λb hb=>?_⟩;have nb:b≠s.heap.objs.size:=by
   rcases L5.mp hb with z|z
   .rw[z];exact L7 Kj
   .have z':b=it:=by simpa using z
    rw[z'];exact L7 KN
  rw[aq nb];exact(hf b hb).1
 done:=by
  intro X hP hw hK hc i HQ s σ H E I hf st hg;subst hP hw hK;obtain⟨xs,hq,hx⟩:=hg;obtain⟨HW,rv,p,hz⟩:=I.list hq;have hl:=rv.length;obtain⟨⟨old,he⟩,hit⟩:=st;obtain⟨f0,f1,f2,f3,f4,f5⟩:=hf it ↑13;exact wpAny_pyNext_enum_end (I.ok.hd hc) he hit p.isList (by simp;lia) λh' eb=>⟨rfl,I.turned (t':=s.toks) (λb o hb e=>eb b o hb e) f0 f1 f3 f4 f5⟩
 self:=λ_ _ _ _ _ st h=>by
  obtain⟨⟨old,he⟩,_⟩:=st;exact OA he h
variable{A:Around}{prog:Program}
variable{pos:Pos}{scope:Scope}{ifs:List Expr}{elt iter:Expr}
section
variable{R:Result->Shared->Prop}
def v_{target:Expr}{it acc:Value}{env:Env}(I:Nat->Shared->Prop)
  (turn:∀n s,I n s->wpAny ↑11 A (pyNext it) (λr s₁=>match r with
   | none=>R (.ok .next) s₁
   | some v=>wpAny ↑11 A (letOwnedTupleGo target it v) (λ_ s₂=>wpAny ↑11 A (assign target env v) (λ_ s₃ =>
     wpAny ↑11 A (forIn ifs true λc r=>if r=true then do let ok <- isTrue c env (eval c env);pure (RS ok) else pure (RS r)) (λok s₄ =>
      if ok=true then wpAny ↑11 A (eval elt env) (λx s₅ =>
       wpAny ↑11 A (call (.builtin "list.append") [acc,x]) (λ_ s₆=>∃m,m<n/\I m s₆) (λ_ _=>False) s₅) (λ_ _=>False) s₄
      else ∃m,m<n/\I m s₄) (λ_ _=>False) s₃) (λ_ _=>False) s₂) (λ_ _=>False) s₁) (λ_ _=>False) s)
  (n:Nat) (h:I n s) :
  codeAny ↑11 A (.compLoop (.ListComp elt [⟨target,iter,ifs,0⟩] scope pos) 0 it acc env) R s:=by
 refine codeAny_loop rfl I (λn s hI=>?_) n h;show wpAny _ A ((compTurn (.ListComp elt [⟨target,iter,ifs,0⟩] scope pos) 0 it acc env).onRaise (λx=>do noteFrame x env;theTreesLotGoes x)) _ _ s;refine wpAny_noted ?_;rw[compTurn_list];refine LH (OM (LH (MS (turn n s hI) (λr s₁ h₁=>?_) λ_ _ h'=>h'.elim)));cases r with
 | none=>exact LM h₁
 | some v =>
  refine LH (MS h₁ (λ_ s₂ h₂=>LH (MS h₂ (λ_ s₃ h₃=>LH (MS h₃ (λok s₄ h₄=>?_) λ_ _ h'=>h'.elim)) λ_ _ h'=>h'.elim)) λ_ _ h'=>h'.elim);cases ok with
  | false=>exact LM ⟨rfl,h₄⟩
  | true =>
   exact LH (LH (MS h₄ (λx s₅ h₅=>LH (MS h₅ (λ_ s₆ h₆=>LM (LM ⟨rfl,h₆⟩)) λ_ _ h'=>h'.elim)) λ_ _ h'=>h'.elim))
end
def n9(X:Cx)(scope:Scope)(cl:List (Str×Addr))(N:List Str)(C:Addr)(s₀:Shared)(H₀:Hp)(ex:List Addr)(HQ:List (Addr×Obj)):Cx :=
 { X with N:=N,s₀:=s₀,H₀:=H₀,env:=compEnvC scope cl C X.env,outer:=X.stack,stack:=X.stack,ex:=ex,fn:=λ_=>false,pn:=X.pn++HQ,xe:=λ_ _=>False }
inductive hO (X:Cx) (sc:Scope) (cl:List (Str×Addr)):List Str->List Nat->Prop where
 | nil:hO X sc cl [] []
 |cons {x:Str} {j:Nat} {c:Addr} {fs:List Str} {js:List Nat} (hN:X.N[j]?=some x) (hf:sc.names.lookup x=some .free) (hv:X.env.kindOf x=some .cell\/X.env.kindOf x=some .free) (hc:X.env.cells.lookup x=some c) (hl:cl.lookup x=some c) (r:hO X sc cl fs js):hO X sc cl (x::fs) (j::js)
inductive eK (X:Cx):List (Str×Addr)->Prop where
 | nil:eK X []
 |cons {x:Str} {c:Addr} {r:List (Str×Addr)} (h:X.env.cells.lookup x=some c) (t:eK X r):eK X ((x,c)::r)
theorem eK.at{X:Cx}:∀{cl:List (Str×Addr)},eK X cl->∀x c,cl.lookup x=some c->X.env.cells.lookup x=some c
 | _,.nil,_,_,e=>by simp at e
 | _,.cons (x:=y) (c:=d) h t,x,c,e=>by
  rw[MG] at e;cases q:x==y with
  | true =>
   rw[q] at e;have e':d=c:=L8 e;have q':x=y:=by simpa using q
   rwa[q',<- e']
  | false =>
   rw[q] at e;exact eK.at t x c e
def gH(cl:List (Str×Addr))(names:List (Str×NameKind)):Bool:=names.all λy=>y.2 != .free||(cl.lookup y.1).isSome
def fL(names:List (Str×NameKind)):Bool:=names.all λy=>y.2 != .cell
def gF(names:List (Str×NameKind)):Bool:=names.all λy=>y.2 != .local||(names.lookup y.1==some .local)
def fe(ts:List Str)(js:List Nat)(σ:St):St:=ts.map (λ_=>none)++js.map λj=>(σ[j]?).join
def yk(wi:TI)(g:TG)(tt:Option TT)(te:TE)(ts:List Str)(js:List Nat):TE:=fun σ H Q=>wi σ H λJ H1=>∀D,H1 D=none ->
 ∃ W:Nat->Nat->St->Hp->Prop,(∃m,W 0 m (fe ts js σ) (upd H1 D (.lst [])))/\∀i m σ' H',W i m σ' H' ->
  (J.stop i H'/\Q (.ref D) H')\/(J.go i H'/\∃N:St->Hp->Prop,(∀σ'' H'',N σ'' H''->∃m',m'<m/\W (i+1) m' σ'' H'') ∧
   ∀ x H2,J.tw i H' x H2->g x σ' H2 fun σ2 H3=>match tt with
    | none=>te σ2 H3 λy H4=>∃ys,H4 D=some (.lst ys)/\ys.length<sizeLine/\N σ2 (upd H4 D (.lst (ys++[y])))
    |some t=>t σ2 H3 λb K9=>if b=true then te σ2 K9 λy H4=>∃ys,H4 D=some (.lst ys)/\ys.length<sizeLine/\N σ2 (upd H4 D (.lst (ys++[y]))) else N σ2 K9)
variable{x:Str}{C:Addr}
def nJ {cl : List (Str × Addr)}{env : Env}(h : (compEnvC scope cl C env).kindOf x=some .cell \/ (compEnvC scope cl C env).kindOf x=some .free)(nc : fL scope.names=true) : scope.names.lookup x=some .free := by
  have key : ∀(names : List (Str × NameKind)),fL names=true ->
      ((names.map λ(n,k) => if (k == Mh && env.scope.kind == .function && env.kindOf n == some .cell) then (n,QE) else (n,k)).lookup x=some .cell ∨
       (names.map λ(n,k) => if (k == Mh && env.scope.kind == .function && env.kindOf n == some .cell) then (n,QE) else (n,k)).lookup x=some .free) -> names.lookup x=some .free := by
    intro names
    induction names with
    | nil => intro _ h; simp at h
    | cons p r ih =>
      obtain ⟨n,k⟩ := p;intro nc h;have nc' : (k != .cell)=true /\ fL r=true := by
        unfold fL at nc;rw [QF,My] at nc;exact nc
      rw [Mg] at h;dsimp only at h
      by_cases hc : (k == Mh && env.scope.kind == .function && env.kindOf n == some .cell)=true
      . rw [if_pos hc] at h;rw [MG] at h ⊢;cases q : x == n with
        | true =>
          have : k=.free := by
            rw [My,My] at hc;simpa using hc.1.1
          rw [this]
        | false =>
          rw [q] at h;exact ih nc'.2 h
      . rw [if_neg hc] at h;rw [MG] at h ⊢;cases q : x == n with
        | true =>
          rw [q] at h;have nk : k ≠ .cell := by simpa using nc'.1
          rcases h with h|h
          . exact absurd (L8 h) nk
          . exact h
        | false =>
          rw [q] at h;exact ih nc'.2 h
  exact key scope.names nc h
variable{js:List Nat}{te:TE}{tt:Option TT}{Ik:Pos}{tg:Expr}
theorem qP{cl:List (Str×Addr)}{wi:TI}{g:TG}{ts fs:List Str}(Ih:X.calm=true)(Iw:closureFor scope X.env=pure cl)(hk:scope.kind=.function)(nc:fL scope.names=true)(lo:gF scope.names=true)(fh:gH cl scope.names=true)(ag:eK X cl)(fr:hO X scope cl fs js)(hi:PI X tg iter wi)(hg:∀C s₀ H₀ ex HQ,PG (n9 X scope cl (ts++fs) C s₀ H₀ ex HQ) tg g)(ht:∀C s₀ H₀ ex HQ,match ifs,tt with|[],none=>True|[c],some t=>PT (n9 X scope cl (ts++fs) C s₀ H₀ ex HQ) c t|_,_=>False)(he:∀C s₀ H₀ ex HQ,PE (n9 X scope cl (ts++fs) C s₀ H₀ ex HQ) elt te)(hs:∀x,foldedSetIterable iter X.env x=pure x){Q:VK}(I:Inv X HQ σ H s)(h:yk wi g tt te ts js σ H Q)(use:Option (Value->Sem Unit))(Qv:Value->Shared->Prop)(Cc:∀(D:Addr)(H':Hp)(s':Shared)(C:Addr),Inv X HQ σ H' s'->Q (.ref D) H'->(∃m,s'.heap.Ns C m)->lh X HQ H' C->compPost ↑8 X.A X.xe use Qv (.ref D) C (.ok .next) s'):wpAny ↑8 X.A (comprehension (.ListComp elt [⟨tg,iter,ifs,0⟩] scope pos) scope X.env Ik (newList []) false (eval iter X.env) use) Qv X.xe s:=by
 have J1:∀y∈scope.names,y.2≠.cell:=λy hy=>by
  have:=Me.mp nc y hy;simpa using this
 have KR:∀y∈scope.names,y.2=.local->scope.names.lookup y.1=some .local:=λy hy hl=>by
  have:=Me.mp lo y hy;rw[hl] at this;simpa using this
 refine wpAny_comprehension_free (use:=use) rfl hs Iw hk KR (cH (hi HQ s σ H _ I h) λv s1 h1=>cH h1 λitv s2 h2=>?_);obtain⟨it,fp,tn,J,H1,e,I2,T,Ks,f2,hJ⟩:=h2;subst e;refine M3 (Qp J1 (by intro y hy;simp at hy) (λh₁ hns1 hsb1=>?_) hk);dsimp only at hns1 hsb1 ⊢;generalize hH2:s2.heap.push { cls:=.type "list",dict:=none,data:=.seq ([]:List Value).toArray }=G at hns1 hsb1 ⊢;have hC:G.objs.size=s2.heap.objs.size+1:=by rw[<- hH2,MJ]
 have old:∀b o,s2.heap.get? b=some o->h₁.get? b=some o:=λb o e=>by
  have hb:=LN e;refine hsb1.extBut b o (L7 (LU hb (Ol (by rw[hC];exact M_ _)))) (LJ _ ?_);rw[<- hH2];exact LJ _ e
 have hacc:h₁.get? s2.heap.objs.size=some { cls:=.type "list",dict:=none,data:=.seq #[] }:=by
  refine hsb1.extBut _ _ (L7 (by rw[hC];exact M_ _)) (LJ _ ?_);rw[<- hH2];exact LV _ rfl
 have nD:H1 s2.heap.objs.size=none:=I2.bf.fresh (LR _);have nC:H1 G.objs.size=none:=I2.bf.fresh ⋯;obtain⟨W,⟨m0,w0⟩,turn⟩:=hJ _ nD;have Ll:∀b∈fp,b<s2.heap.objs.size:=λb hb=>by
  obtain⟨o,e,_⟩:=T.obj _ _ Ks b hb;exact LN e
 have ltk:∀(x:Str)(c:Addr),cl.lookup x=some c->c<s2.heap.objs.size/\H1 c=none/\(∃v,s2.heap.IsCell c v):=λx c e=>by
  have e':=ag.at x c e;obtain⟨v,q⟩:=I2.cell x c e';exact⟨q.lt,I2.eW x c e',v,q⟩
 let X':=n9 X scope cl (ts++fs) G.objs.size s2 H1 fp HQ
 have okX:X'.Ok:=by
  refine⟨I2.ok.mod,hk,I2.ok.glob,I2.ok.blt,by show s2.heap.objs.size<=G.objs.size;lia,λx y c e1 e2=>I2.ok.inj x y c (ag.at x c e1) (ag.at y c e2),λx hx=>?_,λx c hf _=>(nomatch (show (false:Bool)=true from hf)),I2.ok.hd,I2.ok.frames,.inl rfl,λb hb=>⟨?_,λx c e z=>?_⟩,λb o e=>I2.bs b o e,MB I2.ok.wU I2.sz,λb o e hb=>?_,λb hb hz=>?_,I2.stack,λb hb=>I2.pR b hb⟩
  .have J2:=nJ (env:=X.env) hx nc;have hm:∃y∈scope.names,y.1=x/\y.2=.free:=by
    have:∀(l:List (Str×NameKind)),l.lookup x=some .free->∃y∈l,y.1=x/\y.2=.free:=by
     intro l
     induction l with
     | nil=>intro h;simp at h
     | cons p r ih =>
      intro h;rw[MG] at h;cases q:x==p.1 with
      | true =>
       rw[q] at h;exact⟨p,L4,(by simpa using q:x=p.1).symm,L8 h⟩
      | false =>
       rw[q] at h;obtain⟨y,hy,r1,r2⟩:=ih h;exact⟨y,LQ _ hy,r1,r2⟩
    exact this _ J2
   obtain⟨y,hy,r1,r2⟩:=hm;have:=Me.mp fh y hy;rw[r2] at this;have h':(cl.lookup y.1).isSome=true:=by simpa using this
   rw[r1] at h';exact NF.mp h'
  .exact L7 (LU (Ll b hb) (by show s2.heap.objs.size<=G.objs.size;lia))
  .exact(f2 b hb).2.2.2.2.1 x c (ag.at x c e) z
  .obtain⟨_,_,_,f3,_,_⟩:=f2 b hb;rcases f3 with z|z
   .exact I2.ok.qm b o e z
   .exact absurd (LU (LN (I2.ok.bs b o e).1) z) (Nl _)
  .rcases L5.mp (I2.mK b hz) with z|z
   .exact(f2 b hb).2.1 z
   .exact(f2 b hb).2.2.1 z
 have keepB:∀b o,s2.heap.get? b=some o->h₁.get? b=some o:=old;have I3:Inv X' [] (fe ts js σ) (upd H1 s2.heap.objs.size (.lst [])) { s2 with heap:=h₁,toks:=s2.toks+([]:List (Str×Value)).length }:=by
  have neD:∀b o,s2.heap.get? b=some o->b≠s2.heap.objs.size:=λb o e=>L7 (LN e);refine⟨okX,rfl,I2.bare,⟨λb o e n hb hx=>old b o e,λb o e n hb hx=>⟨o.slots,old b o e⟩,λb o e n hx=>by rwa[aq (neD b o e)],λb o e hx=>⟨o,old b o e⟩,λb xs e=>?_,λb o u e=>?_,λb ps e=>?_⟩,⟨_,hns1,λi x v e1 e2 e3=>?_⟩,λx c e=>?_,?_,λx c e=>?_,λp hp=>?_,?_,?_⟩
  .rw[aq (bC e nD)];exact e
  .rw[aq (bC e nD)];exact e
  .exact(by rwa[aq (bC e nD)])
  .
   have hlen:(ts.map (λ_=>(none:Option V))).length=ts.length:=LK _;unfold fe at e2
   by_cases I_:i<ts.length
   .rw[Mr (by rwa[hlen]),L_] at e2;cases q:ts[i]?<;>rw[q] at e2<;>cases e2
   .rw[Mj (by rw[hlen];lia),hlen] at e2;have e1':fs[i-ts.length]?=some x:=by
     have e1':(ts++fs)[i]?=some x:=e1;rw[Mj ⋯] at e1';exact e1'
    have all:∀{fs:List Str}{js:List Nat},hO X scope cl fs js->∀k:Nat,fs[k]?=some x->(js.map λj=>(σ[j]?).join)[k]?=some (some v) ->
      ∃(j:Nat)(c:Addr),X.N[j]?=some x/\σ[j]?=some (some v)/\(X.env.kindOf x=some .cell\/X.env.kindOf x=some .free)/\X.env.cells.lookup x=some c/\cl.lookup x=some c/\scope.names.lookup x=some .free:=by
     intro fs js r
     induction r with
     | nil=>intro k e;simp at e
     | @cons y j c fs js hN hf hv hc hl r ih =>
      intro k e e';cases k with
      | zero =>
       have e0:y=x:=by simpa using e
       subst e0;have Lb:(σ[j]?).join=some v:=by simpa using e'
       refine⟨j,c,hN,?_,hv,hc,hl,hf⟩;cases q:σ[j]? with
       | none=>rw[q] at Lb;cases Lb
       | some z=>rw[q] at Lb;cases z with
        | none=>cases Lb
        | some z =>
         have:z=v:=by simpa using Lb
         rw[this]
      | succ k=>exact ih k (by simpa using e) (by simpa using e')
    obtain⟨j,c,q1,q2,q3,q4,q5,q6⟩:=all fr (i-ts.length) e1' e2;obtain⟨m,hn,hl⟩:=I2.loc;have vis:p4 X.env.scope x:=by
     rcases q3 with z|z
     .exact .inr (.inl z)
     .exact .inr (.inr z)
    obtain⟨u,ru,lk⟩:=hl j x v q1 q2 vis;refine⟨u,ru,.inr ⟨?_,c,q5,?_⟩⟩
    .rcases e3 with z|z|z
     .exfalso;have key:∀(l:List (Str×NameKind)),(l.map λ(n,k)=>if (k==Mh&&X.env.scope.kind==.function&&X.env.kindOf n==some .cell) then (n,QE) else (n,k)).lookup x=some .local->l.lookup x=some .local:=by
       intro l
       induction l with
       | nil=>intro h;simp at h
       | cons p r ih =>
        obtain⟨n,k⟩:=p;intro h;rw[Mg] at h;dsimp only at h
        by_cases hc:(k==Mh&&X.env.scope.kind==.function&&X.env.kindOf n==some .cell)=true
        .rw[if_pos hc] at h;rw[MG] at h ⊢;cases q:x==n with
         | true=>rw[q] at h;cases h
         | false=>rw[q] at h;exact ih h
        .rw[if_neg hc] at h;rw[MG] at h ⊢;cases q:x==n with
         | true=>rwa[q] at h
         | false=>rw[q] at h;exact ih h
      have:=key _ z;rw[q6] at this;cases this
     .exact .inl z
     .exact .inr z
    .rcases lk with ⟨k,_⟩|⟨_,c',e4,z⟩
     .rcases q3 with z|z<;>rw[z] at k<;>cases k
     .rw[q4] at e4;cases e4;obtain⟨o,ho,hd⟩:=z;exact⟨o,old c o ho,hd⟩
  .obtain⟨_,_,v,o,ho,hd⟩:=ltk x c e;exact⟨v,o,old c o ho,hd⟩
  .show upd H1 s2.heap.objs.size (.lst []) G.objs.size=none;rwa[aq (NP (by rw[hC];exact M_ _))]
  .obtain⟨q1,q2,_⟩:=ltk x c e;rwa[aq (L7 q1)]
  .have KD:p∈X.pn++HQ:=by
    have:p∈(X.pn++HQ)++[]:=hp
    rwa [MK] at this
   obtain⟨e,n,ne,nf,d⟩:=I2.pin p KD;have I_:=LN e;refine⟨old _ _ e,by rwa[aq (L7 I_)],?_,λhz=>?_,d⟩
   .show p.1≠G.objs.size;exact L7 (Nat.lt_trans I_ (by rw[hC];exact M_ _))
   .rcases L5.mp (I2.mK _ hz) with z|z
    .exact ne z
    .exact nf z
  .exact I2.bf.laid old (LR _) ⟨MP _,[],0,.nil,hacc⟩
  .show (fe ts js σ).length=(ts++fs).length;have frl:∀{fs:List Str}{js:List Nat},hO X scope cl fs js->fs.length=js.length:=by
    intro fs js r
    induction r with
    | nil=>rfl
    | cons _ _ _ _ _ _ ih=>rw[M9,M9,ih]
   unfold fe;rw[Mp,Mp,LK,LK,frl fr]
 have J0:∀{H':Hp},(∀b∈fp,H' b=none)->∀b∈fp,lh X' [] H' b:=λ{H'} hn b hb=>by
  obtain⟨_,f1,f3,_,f4,f5⟩:=f2 b hb;refine⟨hn b hb,okX.DH b hb |>.1,okX.sE b hb,.inl hb,λx c e=>f4 x c (ag.at x c e),λp hp=>f5 p ?_⟩;have:p∈(X.pn++HQ)++[]:=hp
  rwa [MK] at this
 have fin:∀{σ':St}{H':Hp}{s':Shared},Inv X' [] σ' H' s'->Q (.ref s2.heap.objs.size) H' ->
   compPost ↑8 X.A X.xe use Qv (.ref s2.heap.objs.size) G.objs.size (.ok .next) s':=by
  intro σ' H' s' I4 q;obtain⟨m,hn,_⟩:=I4.loc;have fC:H' G.objs.size=none:=I4.free;have Io:Inv X HQ σ H' s':=by
   refine I2.jY (s':=s') (ch:=fp) I4.os ⟨λb o e n hb hx=>?_,λb o e n hb hx=>?_,λb o e n hx=>I4.base.free b o e n hx,λb o e hx=>?_,I4.base.mq,I4.base.jP,I4.base.jq⟩ I4.bf I4.bare λb hb=>?_
   .exact I4.base.keep b o e n hb hx
   .exact I4.base.slot b o e n hb hx
   .exact I4.base.there b o e hx
   .obtain⟨_,f1,_,f3,f4,f5⟩:=f2 b hb;exact⟨f3,f1,f4,f5⟩
  have hCl:s2.heap.objs.size<=G.objs.size:=by rw[hC];exact OU _
  exact Cc _ H' s' _ Io q ⟨m,hn⟩ (I2.t5 hCl fC)
 have loop:∀s3:Shared,s3={ s2 with heap:=h₁,toks:=s2.toks+([]:List (Str×Value)).length } ->
   codeAny ↑8 X.A (.compLoop (.ListComp elt [⟨tg,iter,ifs,0⟩] scope pos) 0 (.ref it) (.ref s2.heap.objs.size) (compEnvC scope cl G.objs.size X.env))
    (compPost ↑8 X.A X.xe use Qv (.ref s2.heap.objs.size) G.objs.size) s3:=by
  rintro s3 rfl;refine v_ (λn s'=>∃i σ' H',Inv X' [] σ' H' s'/\tn i s'.heap/\(∀b∈fp,H' b=none)/\W i n σ' H') ?_ m0 ⟨0,_,_,I3,T.keep _ _ _ Ks λb _ o e=>old b o e,λb hb=>?_,w0⟩
  .rintro n s3 ⟨i,σ3,H3,I3,K8,fr3,w3⟩;rcases turn i n σ3 H3 w3 with ⟨stop,qn⟩|⟨go,N,hN,step⟩
   .refine cH (T.done X' rfl rfl rfl Ih i [] s3 σ3 H3 _ I3 (J0 fr3) K8 stop) λr s4 ⟨hr,I4⟩=>?_;subst hr;exact fin I4 qn
   .refine cH (T.item X' rfl rfl rfl Ih i [] s3 σ3 H3 _ I3 (J0 fr3) K8 go) λr s4 ⟨u,hr,h4⟩=>?_;subst hr;refine cH h4 λ_ s5 ⟨x,H5,I5,r5,y5,st5,fr5⟩=>?_;have I5':=I5.pinned (J0 fr5) (T.obj _ _ st5);refine cH (hg _ _ _ _ _ _ s5 σ3 H5 x u _ I5' r5 (step x H5 y5)) λ_ s6 ⟨σ6,H6,I6,q6⟩=>?_;have again:∀{σ7:St}{H7:Hp}{s7:Shared},Inv X' ([]++kN fp s5.heap) σ7 H7 s7->N σ7 H7->∃m,m<n/\∃i σ' H',Inv X' [] σ' H' s7/\tn i s7.heap/\(∀b∈fp,H' b=none)/\W i m σ' H':=λ{σ7 H7 s7} I7 n7=>by
     obtain⟨m',hm,w7⟩:=hN σ7 H7 n7;refine⟨m',hm,i+1,σ7,H7,I7.j_,T.keep _ _ _ st5 λb hb o e=>(I7.pin (b,o) (Mv _ (Mv _ (iy hb e)))).1,λb hb=>?_,w7⟩;obtain⟨o,e,d⟩:=T.obj _ _ st5 b hb;exact(I7.pin (b,o) (Mv _ (Mv _ (iy hb e)))).2.1
    have tail:∀{H7:Hp}{s7:Shared},Inv X' ([]++kN fp s5.heap) σ6 H7 s7->(te σ6 H7 λy H4=>∃ys,H4 s2.heap.objs.size=some (.lst ys)/\ys.length<sizeLine/\N σ6 (upd H4 s2.heap.objs.size (.lst (ys++[y])))) ->
      wpAny ↑8 X.A (eval elt (compEnvC scope cl G.objs.size X.env)) (λx s₅=>wpAny ↑8 X.A (call (.builtin "list.append") [.ref s2.heap.objs.size,x])
       (λ_ s₆=>∃m,m<n/\∃i σ' H',Inv X' [] σ' H' s₆/\tn i s₆.heap/\(∀b∈fp,H' b=none)/\W i m σ' H') (λ_ _=>False) s₅) (λ_ _=>False) s7:=by
     intro H7 s7 I7 q7;refine cH (he _ _ _ _ _ _ s7 σ6 H7 _ I7 q7) λuy s8 ⟨y,H8,I8,ry,ys,hy,hl,q8⟩=>?_;refine cH (ph (X:=X') _ s8 σ6 H8 (.ref s2.heap.objs.size) [y] (.ref s2.heap.objs.size) [uy] (λ_ H9=>N σ6 H9) I8 rfl (.cons ry .nil) ⟨_,ys,y,rfl,rfl,hy,hl,q8⟩) λ_ s9 ⟨_,H9,I9,_,q9⟩=>?_;exact again I9 q9
    cases ifs with
    | nil =>
     cases tt with
     | none=>exact wpAny_tests_nil (tail I6 q6)
     | some t=>exact(ht 0 s2 H1 [] []).elim
    | cons c r =>
     cases r with
     | nil =>
      cases tt with
      | none=>exact(ht 0 s2 H1 [] []).elim
      | some t =>
       refine wpAny_tests_one (cH (ht G.objs.size s2 H1 fp HQ _ s6 σ6 H6 _ I6 q6) λb s7 ⟨H7,I7,q7⟩=>?_);cases b with
       | true =>
        rw[if_pos rfl] at q7 ⊢;exact tail I7 q7
       | false =>
        rw[if_neg MO] at q7 ⊢;exact again I7 q7
     | cons _ _=>cases tt<;>exact(ht 0 s2 H1 [] []).elim
  .rw[aq (L7 (Ll b hb))];exact(f2 b hb).1
 exact codeAny_compStart_list (loop _ rfl) (T.self _ 0 _ _ _ (T.keep _ _ _ Ks λb _ o e=>old b o e) (loop _ rfl))
def Inv.other(I:Inv X HQ σ H s)(f:lh X HQ H C)(hs:Om C s.heap h'):Inv X HQ σ H { s with heap:=h' }:=by
 obtain⟨f0,f1,_,f3,f4,f5⟩:=f;refine I.jY (s':={ s with heap:=h' }) (ch:=[C]) rfl ⟨λb o e n hb hx=>?_,λb o e n hb hx=>?_,λb o e n hx=>n,λb o e hx=>?_,λ_ _ q=>q,λ_ _ _ q=>q,λb ps q=>q⟩ (λb u e=>?_) I.bare λb hb=>?_
 .exact(hs.2 b (λz=>hx (by rw[z];exact Na.mpr rfl))).trans e
 .exact⟨o.slots,(hs.2 b (λz=>hx (by rw[z];exact Na.mpr rfl))).trans e⟩
 .exact⟨o,(hs.2 b (λz=>hx (by rw[z];exact Na.mpr rfl))).trans e⟩
 .refine(I.bf b u e).jR (λc v hc q=>(hs.2 c ?_).trans q) (λ_ q=>q) λ_ _ q=>q;rcases hc with z|z
  .rw[z];exact bC e f0
  .exact bC z f0
 .rw[Na.mp hb];exact⟨f3,f1,f4,f5⟩
def uB{cl:List (Str×Addr)}{wi:TI}{g:TG}{ts fs:List Str}(Ih:X.calm=true)(Iw:closureFor scope X.env=pure cl)(hk:scope.kind=.function)(nc:fL scope.names=true)(lo:gF scope.names=true)(fh:gH cl scope.names=true)(ag:eK X cl)(fr:hO X scope cl fs js)(hi:PI X tg iter wi)(hg:∀C s₀ H₀ ex HQ,PG (n9 X scope cl (ts++fs) C s₀ H₀ ex HQ) tg g)(ht:∀C s₀ H₀ ex HQ,match ifs,tt with|[],none=>True|[c],some t=>PT (n9 X scope cl (ts++fs) C s₀ H₀ ex HQ) c t|_,_=>False)(he:∀C s₀ H₀ ex HQ,PE (n9 X scope cl (ts++fs) C s₀ H₀ ex HQ) elt te)(hs:autoParam ↑5 aI._auto_1):PE X (.ListComp elt [⟨tg,iter,ifs,0⟩] scope pos) (yk wi g tt te ts js):=by
 intro HQ s σ H Q I h;rw[eval_ListComp];refine qP Ih Iw hk nc lo fh ag fr hi hg ht he hs I h none _ λD H' s' C Io q hm f=>?_;obtain⟨m,hn⟩:=hm;exact⟨m,hn,λh' K5=>⟨.ref D,H',Io.other f K5,rfl,q⟩⟩
def sU(wi:TI)(g:TG)(te:TE)(ts:List Str)(js:List Nat):TE:=fun σ H Q=>wi σ H λJ H1=>∀D,H1 D=none ->
 ∃ W:Nat->Nat->St->Hp->Prop,(∃m,W 0 m (fe ts js σ) (upd H1 D (.lst [])))/\∀i m σ' H',W i m σ' H' ->
  (J.stop i H'/\Q (.ref D) H')\/(J.go i H'/\∃N:St->Hp->Prop,(∀σ'' H'',N σ'' H''->∃m',m'<m/\W (i+1) m' σ'' H'') ∧
   ∀x H2,J.tw i H' x H2->g x σ' H2 fun σ2 H3=>te σ2 H3 λy H4=>∃ys,H4 D=some (.lst ys)/\ys.length<sizeLine/\N σ2 (upd H4 D (.lst (ys++[y]))))
def w4(wi:TI)(g:TG)(t:TT)(te:TE)(ts:List Str)(js:List Nat):TE:=fun σ H Q=>wi σ H λJ H1=>∀D,H1 D=none ->
 ∃ W:Nat->Nat->St->Hp->Prop,(∃m,W 0 m (fe ts js σ) (upd H1 D (.lst [])))/\∀i m σ' H',W i m σ' H' ->
  (J.stop i H'/\Q (.ref D) H')\/(J.go i H'/\∃N:St->Hp->Prop,(∀σ'' H'',N σ'' H''->∃m',m'<m/\W (i+1) m' σ'' H'') ∧
   ∀x H2,J.tw i H' x H2->g x σ' H2 fun σ2 H3=>t σ2 H3 λb K9=>if b=true then te σ2 K9 λy H4=>∃ys,H4 D=some (.lst ys)/\ys.length<sizeLine/\N σ2 (upd H4 D (.lst (ys++[y]))) else N σ2 K9)
def yl{cl:List (Str×Addr)}{wi:TI}{g:TG}{ts fs:List Str}(Ih:X.calm=true)(Iw:closureFor scope X.env=pure cl)(hk:scope.kind=.function)(nc:fL scope.names=true)(lo:gF scope.names=true)(fh:gH cl scope.names=true)(ag:eK X cl)(fr:hO X scope cl fs js)(hi:PI X tg iter wi)(hg:∀C s₀ H₀ ex HQ,PG (n9 X scope cl (ts++fs) C s₀ H₀ ex HQ) tg g)(he:∀C s₀ H₀ ex HQ,PE (n9 X scope cl (ts++fs) C s₀ H₀ ex HQ) elt te)(hs:autoParam ↑5 aI._auto_1):PE X (.ListComp elt [⟨tg,iter,[],0⟩] scope pos) (sU wi g te ts js) :=
 uB (tt:=none) Ih Iw hk nc lo fh ag fr hi hg (λ_ _ _ _ _=>trivial) he hs
variable{c:Expr}
def xq{cl:List (Str×Addr)}{wi:TI}{g:TG}{t:TT}{ts fs:List Str}(Ih:X.calm=true)(Iw:closureFor scope X.env=pure cl)(hk:scope.kind=.function)(nc:fL scope.names=true)(lo:gF scope.names=true)(fh:gH cl scope.names=true)(ag:eK X cl)(fr:hO X scope cl fs js)(hi:PI X tg iter wi)(hg:∀C s₀ H₀ ex HQ,PG (n9 X scope cl (ts++fs) C s₀ H₀ ex HQ) tg g)(ht:∀C s₀ H₀ ex HQ,PT (n9 X scope cl (ts++fs) C s₀ H₀ ex HQ) c t)(he:∀C s₀ H₀ ex HQ,PE (n9 X scope cl (ts++fs) C s₀ H₀ ex HQ) elt te)(hs:autoParam ↑5 aI._auto_1):PE X (.ListComp elt [⟨tg,iter,[c],0⟩] scope pos) (w4 wi g t te ts js) :=
 uB (tt:=some t) Ih Iw hk nc lo fh ag fr hi hg ht he hs
def kE(h:Heap)(b:Bool)(l:Addr)(xs:Array Value):Prop:=match b with
 | true=>h.IsList l xs
 |false=>h.IsTuple l xs
def jW(h:Heap)(b:Bool)(it l:Addr)(i:Nat):Prop:=match b with
 | true=>h.IsListIter it l i
 |false=>h.IsTupleIter it l i
variable{l:Addr}{b:Bool}{h:Heap}
def kE.at{xs:Array Value}(x:kE h b l xs)(k:∀o,h.get? l=some o->h'.get? l=some o):kE h' b l xs:=by
 cases b with
 | true=>obtain⟨o,ho,r⟩:=(show h.IsList l xs from x);exact(show h'.IsList l xs from ⟨o,k o ho,r⟩)
 |false=>obtain⟨o,ho,r⟩:=(show h.IsTuple l xs from x);exact(show h'.IsTuple l xs from ⟨o,k o ho,r⟩)
variable{i:Nat}{it:Addr}
def jW.at(x:jW h b it l i)(k:∀o,h.get? it=some o->h'.get? it=some o):jW h' b it l i:=by
 cases b with
 | true=>obtain⟨o,ho,r⟩:=(show h.IsListIter it l i from x);exact(show h'.IsListIter it l i from ⟨o,k o ho,r⟩)
 |false=>obtain⟨o,ho,r⟩:=(show h.IsTupleIter it l i from x);exact(show h'.IsTupleIter it l i from ⟨o,k o ho,r⟩)
def jW.obj(x:jW h b it l i):∃o vs,h.get? it=some o/\o.data=.fields vs:=by
 cases b with
 | true=>obtain⟨o,ho,_,hd⟩:=(show h.IsListIter it l i from x);exact⟨o,_,ho,hd⟩
 |false=>obtain⟨o,ho,_,hd⟩:=(show h.IsTupleIter it l i from x);exact⟨o,_,ho,hd⟩
def kE.obj{xs:Array Value}(x:kE h b l xs):∃o n,h.get? l=some o/\o.data=.seq xs n:=by
 cases b with
 | true=>obtain⟨o,ho,_,n,hd⟩:=(show h.IsList l xs from x);exact⟨o,n,ho,hd⟩
 |false=>obtain⟨o,ho,_,n,hd⟩:=(show h.IsTuple l xs from x);exact⟨o,n,ho,hd⟩
variable{Q:Value->Shared->Prop}{HR:Array Value}
variable{ys:Array Value}{k1 k2:Nat}
section
variable{E:Value->Shared->Prop}
def gG{t:Addr}{x:Value}(hit:s.heap.IsTupleIter it t i)(ht:s.heap.IsTuple t HR)(hx:HR[i]?=some x)(hQ:∀h',h'.IsTupleIter it t (i+1)->Om it s.heap h'->Q x { s with heap:=h' }):wpAny ↑11 A (Mf (.ref it)) Q E s:=by
 obtain⟨o,ho,hc,hd⟩:=id hit;obtain⟨ol,hol,_,nl,hdl⟩:=ht;unfold Mf;refine LH (MN (name:=MC "__next__") hit.typeIs F.slot_tuple_iterator_next
  (Np F.slot_tuple_iterator_next hit.typeIs F.entry_tuple_iterator_next ?_ (F.args_tuple_iterator_next_1 _)))
 show wpAny _ _ (field (.ref it) 0 >>= _) _ _ s;refine LH (Ml ho hd (x:=.ref t) rfl ?_);show wpAny _ _ (if (LS t==Mt)=true then _ else _) _ _ s;rw[if_neg (show ¬ ((LS t==Mt)=true) from MO)];show wpAny _ _ (field (.ref it) 1 >>= _) _ _ s;refine LH (Ml ho hd (x:=.int i 0) rfl ?_);show wpAny _ _ (seqItems? (.ref t) >>= _) _ _ s;refine LH (Nt hol hdl ?_);simp only[NC,hx];refine LH (OB ho hd ↑13 (LM ⟨x,rfl,LM (hQ _ ?_ (QA ..))⟩));exact⟨_,M8 _ ho (NU (Nu hd _)),(Obj.cls_mapFields ..).trans hc,by
  rw[Nu hd];simp[rawInt]⟩
def eX{t:Addr}(hh:A.handled=none)(hit:s.heap.IsTupleIter it t i)(ht:s.heap.IsTuple t HR)(hx:HR[i]?=none)(hE:∀h' e,Heap.ExtBut it s.heap h'->(∃o,h'.get? e=some o/\o.cls=.type "StopIteration")->E (.ref e) { s with heap:=h' }):wpAny ↑11 A (Mf (.ref it)) Q E s:=by
 obtain⟨o,ho,hc,hd⟩:=id hit;obtain⟨ol,hol,_,nl,hdl⟩:=ht;unfold Mf;refine LH (MN (name:=MC "__next__") hit.typeIs F.slot_tuple_iterator_next
  (Np F.slot_tuple_iterator_next hit.typeIs F.entry_tuple_iterator_next ?_ (F.args_tuple_iterator_next_1 _)))
 show wpAny _ _ (field (.ref it) 0 >>= _) _ _ s;refine LH (Ml ho hd (x:=.ref t) rfl ?_);show wpAny _ _ (if (LS t==Mt)=true then _ else _) _ _ s;rw[if_neg (show ¬ ((LS t==Mt)=true) from MO)];show wpAny _ _ (field (.ref it) 1 >>= _) _ _ s;refine LH (Ml ho hd (x:=.int i 0) rfl ?_);show wpAny _ _ (seqItems? (.ref t) >>= _) _ _ s;refine LH (Nt hol hdl ?_);simp only[NC,hx];refine LH (QU (LH (OB ho hd ↑13 ?_)));show wpAny _ _ (newExc (.type "StopIteration") [] >>= _) _ _ _;refine LH ?_;simp only[newExc,newTuple];refine LH (M3 ?_ (by size_fits));refine LH (m:=firstArgMember _ _) (wpAny_of_eq (a:=Mt) (by first|rfl|(simp only[firstArgMember];rfl)) ?_);refine M3 ?_ (by size_fits);simp only[raiseNew];refine LH (wpAny_handled ?_)
 first|rw[show A.in1.handled=none from hh]|rw[hh]
 refine LH (LM (wpAny_throw ?_));exact hE _ _ (((QA ..).extBut.push _).push _) ⟨_,LV _ rfl,rfl⟩
def iW{x:Value}(hit:jW s.heap b it l i)(hl:kE s.heap b l HR)(hx:HR[i]?=some x)(hQ:∀h',jW h' b it l (i+1)->Om it s.heap h'->Q x { s with heap:=h' }):wpAny ↑11 A (Mf (.ref it)) Q E s:=by
 cases b with
 | true=>exact wpAny_nextOf_list_item hit hl hx hQ
 |false=>exact gG hit hl hx hQ
def m8(hh:A.handled=none)(hit:jW s.heap b it l i)(hl:kE s.heap b l HR)(hx:HR[i]?=none)(hE:∀h' e,Heap.ExtBut it s.heap h'->(∃o,h'.get? e=some o/\o.cls=.type "StopIteration")->E (.ref e) { s with heap:=h' }):wpAny ↑11 A (Mf (.ref it)) Q E s:=by
 cases b with
 | true=>exact wpAny_nextOf_list_end hh hit hl hx hE
 |false=>exact eX hh hit hl hx hE
def wx{b1 b2:Bool}{z TI TO i1 i2 l1 l2:Addr}{xs:Array Value}{x y a b:Value}(D:ZipApart z TI TO i1 i2 l1 l2)(hz:IsZip s.heap z TI TO .none)(JJ:IsPair s.heap TI (.ref i1) (.ref i2))(JM:IsPair s.heap TO a b)(h1:jW s.heap b1 i1 l1 k1)(h2:jW s.heap b2 i2 l2 k2)(Kb:kE s.heap b1 l1 xs)(Kc:kE s.heap b2 l2 ys)(hx:xs[k1]?=some x)(hy:ys[k2]?=some y)(hQ:∀h',IsZip h' z TI TO (rawInt s.heap.objs.size)->IsPair h' TO x y->jW h' b1 i1 l1 (k1+1)->jW h' b2 i2 l2 (k2+1)->IsPair h' s.heap.objs.size x y->h'.objs.size=s.heap.objs.size+1 ->(∀c o,c≠z->c≠TO->c≠i1->c≠i2->s.heap.get? c=some o->h'.get? c=some o)->Q (.ref s.heap.objs.size) { s with heap:=h' }):wpAny ↑11 A (Builtin.«zip.__next__» ⟨[.ref z],[]⟩) (λfin s'=>∃v,fin=.done (.ret v)/\Q v s') E s:=by
 show wpAny _ _ (field (.ref z) 2 >>= _) _ _ _;refine LH (Ml hz rfl (x:=.bool false) rfl ?_);show wpAny _ _ (field (.ref z) 3 >>= _) _ _ _;refine LH (Ml hz rfl (x:=.ref TI) rfl ?_);refine LH (Nt JJ rfl ?_);show wpAny _ _ (MU (.ref z) >>= _) _ _ _;refine LH ?_;unfold MU;refine LH (Ml hz rfl (x:=.none) rfl (LM ?_));simp only[if_true];refine LH (QU ?_);refine LH (Ml hz rfl (x:=.ref TO) rfl ?_);refine LH (Nv hz ↑13 λh₁ hz₁ hs1=>?_)
 replace hz₁:IsZip h₁ z TI TO .ellipsis:=hz₁
 refine LH ?_;simp only[RB,RT,RU,RZ];refine LH (LH (PC ?_));show wpAny _ _ (Mf (.ref i1) >>= _) _ _ _;refine LH (iW (h1.at λo e=>hs1.extBut _ _ D.i1z e) (Kb.at λo e=>hs1.extBut _ _ D.l1z e) hx λh₂ h1₂ hs2=>LM ?_);have hTO2:IsPair h₂ TO a b:=hs2.extBut _ _ D.TOi1 (hs1.extBut _ _ D.TOz JM);refine LH (Nt hTO2 rfl ?_);refine LH (OV hTO2 λh₃ hTO3 hs3=>?_)
 replace hTO3:IsPair h₃ TO x b:=hTO3
 refine LH (RK (LM ?_));refine LH (LH (PC ?_));show wpAny _ _ (Mf (.ref i2) >>= _) _ _ _;refine LH (iW (h2.at λo e=>hs3.extBut _ _ D.TOi2.symm (hs2.extBut _ _ D.i12.symm (hs1.extBut _ _ D.i2z e)))
  (Kc.at λo e=>hs3.extBut _ _ D.l2TO (hs2.extBut _ _ D.l2i1 (hs1.extBut _ _ D.l2z e))) hy λh₄ h2₄ hs4=>LM ?_)
 have hTO4:IsPair h₄ TO x b:=hs4.extBut _ _ D.TOi2 hTO3;refine LH (Nt hTO4 rfl ?_);refine LH (OV hTO4 λh₅ hTO5 hs5=>?_)
 replace hTO5:IsPair h₅ TO x y:=hTO5
 refine LH (RK (LM (LM ?_)));refine LH (Nt hTO5 rfl ?_);refine LH (wpAny_newTuple ?_);have JD:h₅.objs.size=s.heap.objs.size:=by rw[hs5.1,hs4.1,hs3.1,hs2.1,hs1.1]
 have hz5:IsZip h₅ z TI TO .ellipsis:=hs5.extBut _ _ D.TOz.symm (hs4.extBut _ _ D.i2z.symm (hs3.extBut _ _ D.TOz.symm (hs2.extBut _ _ D.i1z.symm hz₁)));have hk5:∀c o,c≠z->c≠TO->c≠i1->c≠i2->s.heap.get? c=some o->h₅.get? c=some o:=λc o c1 c2 c3 c4 e =>
  hs5.extBut _ _ c2 (hs4.extBut _ _ c4 (hs3.extBut _ _ c2 (hs2.extBut _ _ c3 (hs1.extBut _ _ c1 e))))
 have h1₅:jW h₅ b1 i1 l1 (k1+1):=h1₂.at λo e=>hs5.extBut _ _ D.TOi1.symm (hs4.extBut _ _ D.i12 (hs3.extBut _ _ D.TOi1.symm e));have h2₅:jW h₅ b2 i2 l2 (k2+1):=h2₄.at λo e=>hs5.extBut _ _ D.TOi2.symm e;have Lx:z<h₅.objs.size:=LN hz5;show wpAny _ _ (N8 (.ref z) (.ref h₅.objs.size) >>= _) _ _ _;refine LH ?_;unfold N8;have hz6:IsZip (h₅.push { cls:=.type "tuple",data:=.seq #[x,y] }) z TI TO .ellipsis:=LJ _ hz5;refine LH (Nv hz6 ↑13 λh₇ hz7 hs7=>?_)
 replace hz7:IsZip h₇ z TI TO (rawInt h₅.objs.size):=hz7
 refine Nv hz7 ↑13 λh₈ hz₈ hs8=>?_
 replace hz₈:IsZip h₈ z TI TO (rawInt h₅.objs.size):=hz₈
 have up:∀c o,c≠z->h₅.get? c=some o->h₈.get? c=some o:=λc o c1 e=>hs8.extBut _ _ c1 (hs7.extBut _ _ c1 (LJ _ e));have hT8:IsPair h₈ h₅.objs.size x y:=hs8.extBut _ _ (NP Lx) (hs7.extBut _ _ (NP Lx) (LV _ rfl));have hz8:h₈.objs.size=h₅.objs.size+1:=by rw[hs8.1,hs7.1,MJ]
 rw[JD] at hz₈ hT8 hz8;refine LM ⟨_,rfl,?_⟩;show Q (.ref h₅.objs.size) _;rw[JD];exact hQ h₈ hz₈ (up _ _ D.TOz hTO5) (h1₅.at λo e=>up _ o D.i1z e) (h2₅.at λo e=>up _ o D.i2z e) hT8 hz8 λc o c1 c2 c3 c4 e=>up c o c1 (hk5 c o c1 c2 c3 c4 e)
def y7{b1 b2:Bool}{z TI TO i1 i2 l1 l2:Addr}{xs:Array Value}{a b:Value}{Q:Fin->Shared->Prop}(hh:A.handled=none)(D:ZipApart z TI TO i1 i2 l1 l2)(hz:IsZip s.heap z TI TO .none)(JJ:IsPair s.heap TI (.ref i1) (.ref i2))(JM:IsPair s.heap TO a b)(h1:jW s.heap b1 i1 l1 k1)(h2:jW s.heap b2 i2 l2 k2)(Kb:kE s.heap b1 l1 xs)(Kc:kE s.heap b2 l2 ys)(Kk:xs[k1]?=none\/ys[k2]?=none)(hE:∀h' e,(∀c o,c≠z->c≠TO->c≠i1->c≠i2->s.heap.get? c=some o->h'.get? c=some o)->(∃o,h'.get? e=some o/\o.cls=.type "StopIteration")->E (.ref e) { s with heap:=h' }):wpAny ↑11 A (Builtin.«zip.__next__» ⟨[.ref z],[]⟩) Q E s:=by
 show wpAny _ _ (field (.ref z) 2 >>= _) _ _ _;refine LH (Ml hz rfl (x:=.bool false) rfl ?_);show wpAny _ _ (field (.ref z) 3 >>= _) _ _ _;refine LH (Ml hz rfl (x:=.ref TI) rfl ?_);refine LH (Nt JJ rfl ?_);show wpAny _ _ (MU (.ref z) >>= _) _ _ _;refine LH ?_;unfold MU;refine LH (Ml hz rfl (x:=.none) rfl (LM ?_));simp only[if_true];refine LH (QU ?_);refine LH (Ml hz rfl (x:=.ref TO) rfl ?_);refine LH (Nv hz ↑13 λh₁ hz₁ hs1=>?_)
 replace hz₁:IsZip h₁ z TI TO .ellipsis:=hz₁
 refine LH ?_;simp only[RB,RT,RU,RZ];refine LH (LH (PC ?_));show wpAny _ _ (Mf (.ref i1) >>= _) _ _ _;cases hx:xs[k1]? with
 | none =>
  refine LH (m8 hh (h1.at λo e=>hs1.extBut _ _ D.i1z e) (Kb.at λo e=>hs1.extBut _ _ D.l1z e) hx λh₂ e hs2 he=>?_);obtain⟨oe,J8,Lh⟩:=he;have hz₂:IsZip h₂ z TI TO .ellipsis:=hs2 _ _ D.i1z.symm hz₁;have hez:e≠z:=λx=>by subst x;rw[hz₂] at J8;cases J8;simp at Lh
  refine Nv hz₂ ↑13 λh₃ _ hs3=>hE h₃ e (λc o c1 _ c3 _ x=>hs3.extBut _ _ c1 (hs2 _ _ c3 (hs1.extBut _ _ c1 x))) ⟨oe,hs3.extBut _ _ hez J8,Lh⟩
 | some x =>
  have hy:ys[k2]?=none:=by rcases Kk with h|h;rw[hx] at h;cases h;exact h
  refine LH (iW (h1.at λo e=>hs1.extBut _ _ D.i1z e) (Kb.at λo e=>hs1.extBut _ _ D.l1z e) hx λh₂ h1₂ hs2=>LM ?_);have hTO2:IsPair h₂ TO a b:=hs2.extBut _ _ D.TOi1 (hs1.extBut _ _ D.TOz JM);refine LH (Nt hTO2 rfl ?_);refine LH (OV hTO2 λh₃ hTO3 hs3=>?_);refine LH (RK (LM ?_));refine LH (LH (PC ?_));show wpAny _ _ (Mf (.ref i2) >>= _) _ _ _;refine LH (m8 hh (h2.at λo e=>hs3.extBut _ _ D.TOi2.symm (hs2.extBut _ _ D.i12.symm (hs1.extBut _ _ D.i2z e)))
   (Kc.at λo e=>hs3.extBut _ _ D.l2TO (hs2.extBut _ _ D.l2i1 (hs1.extBut _ _ D.l2z e))) hy λh₄ e hs4 he=>?_)
  obtain⟨oe,J8,Lh⟩:=he;have hz4:IsZip h₄ z TI TO .ellipsis:=hs4 _ _ D.i2z.symm (hs3.extBut _ _ D.TOz.symm (hs2.extBut _ _ D.i1z.symm hz₁));have hez:e≠z:=λx=>by subst x;rw[hz4] at J8;cases J8;simp at Lh
  refine Nv hz4 ↑13 λh₅ _ hs5=>hE h₅ e (λc o c1 c2 c3 c4 x=>hs5.extBut _ _ c1 (hs4 _ _ c4 (hs3.extBut _ _ c2 (hs2.extBut _ _ c3 (hs1.extBut _ _ c1 x))))) ⟨oe,hs5.extBut _ _ hez J8,Lh⟩
def qM(hl:kE s.heap b l HR)(h:∀o,o=({ cls:=.type (if b then "list_iterator" else "tuple_iterator"),data:=.fields #[.ref l,.int 0 0] }:Obj)->Q (.ref s.heap.objs.size) { s with heap:=s.heap.push o }):wpAny ↑11 A (pyIter (.ref l)) Q E s:=by
 cases b with
 | true=>exact Py hl (h _ rfl)
 |false=>exact NQ hl (h _ rfl)
def kJ{b1 b2:Bool}{z TI TO i1 i2 l1 l2:Addr}{xs:Array Value}{x y a b:Value}{Q:Option Value->Shared->Prop}(D:ZipApart z TI TO i1 i2 l1 l2)(hz:IsZip s.heap z TI TO .none)(JJ:IsPair s.heap TI (.ref i1) (.ref i2))(JM:IsPair s.heap TO a b)(h1:jW s.heap b1 i1 l1 k1)(h2:jW s.heap b2 i2 l2 k2)(Kb:kE s.heap b1 l1 xs)(Kc:kE s.heap b2 l2 ys)(hx:xs[k1]?=some x)(hy:ys[k2]?=some y)(hQ:∀h',IsZip h' z TI TO (rawInt s.heap.objs.size)->IsPair h' TO x y->jW h' b1 i1 l1 (k1+1)->jW h' b2 i2 l2 (k2+1)->IsPair h' s.heap.objs.size x y->h'.objs.size=s.heap.objs.size+1 ->(∀c o,c≠z->c≠TO->c≠i1->c≠i2->s.heap.get? c=some o->h'.get? c=some o)->Q (some (.ref s.heap.objs.size)) { s with heap:=h' }):wpAny ↑11 A (pyNext (.ref z)) Q E s:=by
 have hT:s.TypeIs (.ref z) "zip" := ⟨_,hz,rfl⟩
 unfold pyNext;exact LH (ON (MN (name:=MC "__next__") hT F.slot_zip_next
  (Np F.slot_zip_next hT F.entry_zip_next
   (wx D hz JJ JM h1 h2 Kb Kc hx hy λh' a1 a2 a3 a4 a5 a6 a7=>LM (hQ h' a1 a2 a3 a4 a5 a6 a7)) (F.args_zip_next_1 _))))
def lS{b1 b2:Bool}{z TI TO i1 i2 l1 l2:Addr}{xs:Array Value}{a b:Value}{Q:Option Value->Shared->Prop}(hh:A.handled=none)(D:ZipApart z TI TO i1 i2 l1 l2)(hz:IsZip s.heap z TI TO .none)(JJ:IsPair s.heap TI (.ref i1) (.ref i2))(JM:IsPair s.heap TO a b)(h1:jW s.heap b1 i1 l1 k1)(h2:jW s.heap b2 i2 l2 k2)(Kb:kE s.heap b1 l1 xs)(Kc:kE s.heap b2 l2 ys)(Kk:xs[k1]?=none\/ys[k2]?=none)(hQ:∀h',(∀c o,c≠z->c≠TO->c≠i1->c≠i2->s.heap.get? c=some o->h'.get? c=some o)->Q none { s with heap:=h' }):wpAny ↑11 A (pyNext (.ref z)) Q E s:=by
 have hT:s.TypeIs (.ref z) "zip" := ⟨_,hz,rfl⟩
 unfold pyNext;refine LH (ON (MN (name:=MC "__next__") hT F.slot_zip_next
  (Np F.slot_zip_next hT F.entry_zip_next (y7 hh D hz JJ JM h1 h2 Kb Kc Kk λh' e hk he=>?_) (F.args_zip_next_1 _))))
 obtain⟨o,ho,hc⟩:=he;refine LH (wpAny_isInstance (T := "StopIteration") (b:=true) ⟨o,ho,hc⟩ isSubtype_stop ?_);exact LM (hQ _ hk)
abbrev Ej(b:Bool)(l:Addr):Obj:={ cls:=.type (if b then "list_iterator" else "tuple_iterator"),data:=.fields #[.ref l,.int 0 0] }
abbrev Fm(h:Heap)(b1:Bool)(l1:Addr):Heap:=h.push (Ej b1 l1)
abbrev Fs(h:Heap)(b1 b2:Bool)(l1 l2:Addr):Heap:=(Fm h b1 l1).push (Ej b2 l2)
abbrev Fi(h:Heap)(b1 b2:Bool)(l1 l2:Addr):Heap:=(Fs h b1 b2 l1 l2).push { cls:=.type "tuple",data:=.seq #[.ref h.objs.size,.ref (Fm h b1 l1).objs.size] }
abbrev Fe(h:Heap)(b1 b2:Bool)(l1 l2:Addr):Heap:=(Fi h b1 b2 l1 l2).push { cls:=.type "tuple",data:=.seq #[.none,.none] }
abbrev BQ(h:Heap)(b1 b2:Bool)(l1 l2:Addr):Heap:=(Fe h b1 b2 l1 l2).push { cls:=.type "zip",data:=.fields #[.none,.bool false,.bool false,.ref (Fs h b1 b2 l1 l2).objs.size,.ref (Fi h b1 b2 l1 l2).objs.size] }
end
def lG{E:Value->Shared->Prop}(hl:kE s.heap b l HR)(h:Q (.ref s.heap.objs.size) { s with heap:=s.heap.push (Ej b l) }):wpAny ↑11 A (pyIter (.ref l)) Q E s:=qM hl λo e=>by subst e;exact h
theorem kE.push{h:Heap}{b:Bool}{l:Addr}{xs:Array Value}(x:kE h b l xs)(o:Obj):kE (h.push o) b l xs:=x.at λ_ e=>LJ _ e
def mV(b1 b2:Bool)(l1 l2:Addr)(xs ys:Array Value):Meets (Builtin.«zip.__new__» ⟨[.type "zip",.ref l1,.ref l2],[]⟩) (λ_ R s=>kE s.heap b1 l1 xs/\kE s.heap b2 l2 ys ∧R (.ok (.ret (.ref (Fe s.heap b1 b2 l1 l2).objs.size))) { s with heap:=BQ s.heap b1 b2 l1 l2 }) :=
 .of_wp λprog w A R s h=>by
  obtain⟨hp,g,d,tk,os⟩:=s;obtain⟨Kb,Kc,h⟩:=h;have Ji:=sub_zip;have hL1:kE (RL ⟨hp,g,d,tk,os⟩) b1 l1 xs:=Kb;have hL2:kE (RL ⟨hp.push (Ej b1 l1),g,d,tk,os⟩) b2 l2 ys:=kE.push Kc _
  wp_walk using lG hL1,lG hL2
  exact⟨_,rfl,h⟩
section
variable{E:Value->Shared->Prop}
def jW.new(h:Heap)(b:Bool)(it l:Addr)(e:h.get? it=some (Ej b l)):jW h b it l 0:=by
 cases b with
 | true=>exact⟨_,e,rfl,rfl⟩
 |false=>exact⟨_,e,rfl,rfl⟩
def wj{b1 b2:Bool}{l1 l2:Addr}{xs:Array Value}(Kb:kE s.heap b1 l1 xs)(Kc:kE s.heap b2 l2 ys)(h:∀h',IsZip h' (s.heap.objs.size+4) (s.heap.objs.size+2) (s.heap.objs.size+3) .none->IsPair h' (s.heap.objs.size+2) (.ref s.heap.objs.size) (.ref (s.heap.objs.size+1)) ->IsPair h' (s.heap.objs.size+3) .none .none->jW h' b1 s.heap.objs.size l1 0->jW h' b2 (s.heap.objs.size+1) l2 0->h'.objs.size=s.heap.objs.size+5 ->(∀c o,s.heap.get? c=some o->h'.get? c=some o)->Q (.ref (s.heap.objs.size+4)) { s with heap:=h' }):wpAny ↑11 A (call (.type "zip") [.ref l1,.ref l2]) Q E s:=by
 refine callType_new F.called_zip ↑12 (F.typeCall_zip_2 _ _) (F.newCall_zip_2 _ _) (λobj=>F.args_object_init_3 obj _ _) F.entry_zip_new
  (mV b1 b2 l1 l2 xs ys) ⟨Kb,Kc,?_⟩
 have z1:(Fm s.heap b1 l1).objs.size=s.heap.objs.size+1:=MJ ..;have z2:(Fs s.heap b1 b2 l1 l2).objs.size=s.heap.objs.size+2:=by rw[MJ,z1]
 have z3:(Fi s.heap b1 b2 l1 l2).objs.size=s.heap.objs.size+3:=by rw[MJ,z2]
 have z4:(Fe s.heap b1 b2 l1 l2).objs.size=s.heap.objs.size+4:=by rw[MJ,z3]
 have z5:(BQ s.heap b1 b2 l1 l2).objs.size=s.heap.objs.size+5:=by rw[MJ,z4]
 have g5:(BQ s.heap b1 b2 l1 l2).get? (Fe s.heap b1 b2 l1 l2).objs.size=some _:=LV _ rfl;have g4:(BQ s.heap b1 b2 l1 l2).get? (Fi s.heap b1 b2 l1 l2).objs.size=some _:=LJ _ (LV _ rfl);have g3:(BQ s.heap b1 b2 l1 l2).get? (Fs s.heap b1 b2 l1 l2).objs.size=some _:=LJ _ (LJ _ (LV _ rfl));have g2:(BQ s.heap b1 b2 l1 l2).get? (Fm s.heap b1 l1).objs.size=some _:=LJ _ (LJ _ (LJ _ (LV _ rfl)));have g1:(BQ s.heap b1 b2 l1 l2).get? s.heap.objs.size=some _:=LJ _ (LJ _ (LJ _ (LJ _ (LV _ rfl))));show _/\_;rw[z2,z3,z4] at g5;rw[z1,z2] at g3;rw[z3] at g4;rw[z1] at g2;rw[z4];exact⟨⟨_,g5,rfl⟩,h _ g5 g3 g4 (jW.new _ b1 _ _ g1) (jW.new _ b2 _ _ g2) z5 λc o x =>
  LJ _ (LJ _ (LJ _ (LJ _ (LJ _ x))))⟩
end
def qR(K:LI)(H:Hp)(b:Bool)(a:Addr)(xs:List V):Prop:=match b with
 | true=>gR K H a xs
 |false=>gB K H a xs
variable{tl:TA}
def Inv.row{xs:List V}(I:Inv X HQ σ H s)(h:qR X.K H b a xs):∃HW:List Value,Vals xs HW/\kE s.heap b a HW.toArray/\xs.length<=sizeLine:=by
 cases b with
 | true =>
  obtain⟨HW,r,p,z⟩:=I.list h;exact⟨HW,r,p.isList,z⟩
 | false =>
  obtain⟨HW,r,p,z⟩:=I.tuple h;exact⟨HW,r,p,z⟩
def Inv.uG{xs ys:List V}(I:Inv X HQ σ H s)(h:qR X.K H b a xs)(h':qR X.K H b a ys):xs=ys:=by
 cases b with
 | true=>exact I.m7 h h'
 |false=>exact I.kK h h'
def Inv.A3(I:Inv X HQ σ H s)(k:∀b u,b ∉ ch->s.heap.get? b=some u->h'.get? b=some u)(JK:∀b∈ch,lh X HQ H b):Inv X HQ σ H { s with heap:=h',toks:=t' }:=by
 have Kq:∀b u,H b=some u->b ∉ ch:=λb u e z=>by rw[(JK b z).1] at e;cases e
 refine I.step (g':=s.gens) (d':=s.drawn) (ch:=ch) (λb hb=>?_) (λb u _ _ hc e _=>k b u hc e) (λb u _ _ hc e _=>⟨u.slots,k b u hc e⟩)
  (λb u _ e n=>n) (λb u hc e=>⟨u,k b u hc e⟩) (λb xs e=>e) (λb ob u e=>e) (λb ps e=>e) (λm hm=>?_) (λb u e=>?_) I.bare
 .obtain⟨_,f1,_,f3,f4,f5⟩:=JK b hb;exact⟨f3,f1,f4,f5⟩
 .obtain⟨ob,es,ep,ho,r⟩:=hm;exact⟨ob,es,ep,k _ ob (λz=>(JK _ z).2.1 rfl) ho,r⟩
 .refine(I.bf b u e).jR (λc v hc q=>k c v ?_ q) (λc q=>q) λc ys q=>q;rcases hc with z'|z'
  .rw[z'];exact Kq b u e
  .exact Kq c _ z'
def dI{c:Addr}{xs:List V}(I:Inv X HQ σ H s)(h:qR X.K H b a xs)(f:lh X HQ H c):a≠c:=by
 have rd:∀{u:HO},Rd H a u->a≠c:=λ{u} r=>by
  rcases r with r|⟨o,r⟩
  .exact bC r f.1
  .exact bC r f.1
 have mk:∀{o:Obj},X.K.lookup a=some o->a≠c:=λ{o} e z=>by
  subst z;have e':=I.ok.mod.zq _ _ e;rcases f.2.2.2.1 with q|q
  .exact I.ok.qm _ _ e' q
  .exact absurd (LU (LN (I.ok.bs _ _ e').1) q) (Nl _)
 cases b with
 | true =>
  rcases(show gR X.K H a xs from h) with r|⟨o,HW,n,e,_⟩
  .exact rd r
  .exact mk e
 | false =>
  rcases(show gB X.K H a xs from h) with r|⟨o,HW,n,e,_⟩
  .exact rd r
  .exact mk e
def FN (K : LI)(b1 b2 : Bool)(a1 a2 : Addr) : It :=
  ⟨λi H => ∃xs ys x y,qR K H b1 a1 xs /\ qR K H b2 a2 ys /\ xs[i]? = some x /\ ys[i]? = some y,
   λi H v H' => ∃p x y,H p=none /\ v=.ref p /\ H'=upd H p (.tup [x,y]) /\ (∀xs,qR K H b1 a1 xs -> xs[i]? = some x) /\ (∀ys,qR K H b2 a2 ys -> ys[i]? = some y),
   λi H => ∃xs ys,qR K H b1 a1 xs /\ qR K H b2 a2 ys /\ (xs.length <= i \/ ys.length <= i)⟩
theorem yj{K:LI}{tp:Pos}(b1 b2:Bool)(a1 a2 z TI TO i1 i2:Addr)(D:TI≠z/\TO≠z/\i1≠z/\i2≠z/\TI≠TO/\TI≠i1/\TI≠i2/\TO≠i1/\TO≠i2/\i1≠i2):Turn P w K (.Tuple elts x1 tp) (FN K b1 b2 a1 a2) [z,TO,i1,i2,TI] z (λi h=>IsZip h z TI TO .none/\IsPair h TI (.ref i1) (.ref i2)/\(∃a b,IsPair h TO a b)/\jW h b1 i1 a1 i/\jW h b2 i2 a2 i) where
 mem:=by simp
 obj:=λi h st b hb=>by
  obtain⟨hz,JJ,⟨a,c,JM⟩,h1,h2⟩:=st;simp only[L5,NL,or_false] at hb;rcases hb with q|q|q|q|q<;>subst q
  .exact⟨_,hz,λv z=>by cases z⟩
  .exact⟨_,JM,λv z=>by cases z⟩
  .obtain⟨o,vs,e,d⟩:=h1.obj;exact⟨o,e,λv z=>by rw[d] at z;cases z⟩
  .obtain⟨o,vs,e,d⟩:=h2.obj;exact⟨o,e,λv z=>by rw[d] at z;cases z⟩
  .exact⟨_,JJ,λv z=>by cases z⟩
 keep:=λi h h' st k=>by
  obtain⟨hz,JJ,⟨a,c,JM⟩,h1,h2⟩:=st;exact⟨k z ↑13 _ hz,k TI ↑13 _ JJ,⟨a,c,k TO ↑13 _ JM⟩,h1.at λo e=>k i1 ↑13 o e,h2.at λo e=>k i2 ↑13 o e⟩
 item:=by
  intro X hP hw hK hc i HQ s σ H E I hf st hg;subst hP hw hK;obtain⟨xs,ys,x,y,Jy,Jo,hx,hy⟩:=hg;obtain⟨Ly,rv1,p1,hz1⟩:=I.row Jy;obtain⟨JU,rv2,p2,hz2⟩:=I.row Jo;obtain⟨u1,hu1,ru1⟩:=rv1.get hx;obtain⟨u2,hu2,ru2⟩:=rv2.get hy;obtain⟨hz,JJ,⟨a,c,JM⟩,h1,h2⟩:=st;obtain⟨d1,d2,d3,d4,d5,d6,d7,d8,d9,d10⟩:=D;obtain⟨o1,n1,e1,dd1⟩:=p1.obj;obtain⟨o2,n2,e2,La⟩:=p2.obj;obtain⟨oi1,vs1,ei1,di1⟩:=h1.obj;obtain⟨oi2,vs2,ei2,di2⟩:=h2.obj;have D:ZipApart z TI TO i1 i2 a1 a2:=⟨d1,d2,d3,d4,d5,d6,d7,d8,d9,d10,dI I Jy (hf z ↑13),dI I Jy (hf TO ↑13),dI I Jy (hf i1 ↑13),dI I Jy (hf i2 ↑13),
   dI I Jo (hf z ↑13),dI I Jo (hf TO ↑13),dI I Jo (hf i1 ↑13),dI I Jo (hf i2 ↑13)⟩
  refine kJ D hz JJ JM h1 h2 p1 p2 (x:=u1) (y:=u2) (by simpa using hu1) (by simpa using hu2) λh' g1 g2 g3 g4 g5 g6 g7=>⟨_,rfl,?_⟩
  refine wpAny_letOwnedTupleGo_zip (s:={ s with heap:=h' }) g1 λh3 hz3 K6=>?_;have Jx:H s.heap.objs.size=none:=I.bf.fresh (LR _);have lt:∀{c:Addr}{o:Obj},s.heap.get? c=some o->c≠s.heap.objs.size:=λe=>L7 (LN e);have Lz:∀b o,b ∉ [z,TO,i1,i2,TI]->s.heap.get? b=some o->h3.get? b=some o:=λb o hb q=>by
   simp only[L5,NL,or_false,not_or] at hb;exact(K6.2 b hb.1).trans (g7 b o hb.1 hb.2.1 hb.2.2.1 hb.2.2.2.1 q)
  have hT3:h3.get? s.heap.objs.size=some { cls:=.type "tuple",data:=.seq #[u1,u2] }:=(K6.2 _ (lt hz).symm).trans g5;have I3:Inv X HQ σ (upd H s.heap.objs.size (.tup [x,y])) { s with heap:=h3,toks:=s.toks } :=
   I.kI (ch:=[z,TO,i1,i2,TI]) Lz hf (LR _) (λb hb=>by
    simp only[L5,NL,or_false] at hb;rcases hb with q|q|q|q|q<;>subst q
    .exact⟨_,hz⟩
    .exact⟨_,JM⟩
    .exact⟨_,ei1⟩
    .exact⟨_,ei2⟩
    .exact⟨_,JJ⟩)
    ⟨by show 2<=sizeLine;decide,[u1,u2],.cons ru1 (.cons ru2 .nil),⟨_,hT3,rfl,_,rfl⟩⟩
  refine⟨.ref s.heap.objs.size,_,I3,rfl,⟨_,x,y,Jx,rfl,rfl,λzs hzs=>by rwa[I.uG hzs Jy],λzs hzs=>by rwa[I.uG hzs Jo]⟩,
   ⟨hz3,(K6.2 TI d1).trans (g7 TI _ d1 d5 d6 d7 JJ),⟨_,_,(K6.2 TO d2).trans g2⟩,g3.at λo e=>(K6.2 i1 d3).trans e,g4.at λo e=>(K6.2 i2 d4).trans e⟩,λb hb=>?_⟩
  have nb:b≠s.heap.objs.size:=by
   simp only[L5,NL,or_false] at hb;rcases hb with q|q|q|q|q<;>subst q
   .exact lt hz
   .exact lt JM
   .exact lt ei1
   .exact lt ei2
   .exact lt JJ
  rw[aq nb];exact(hf b hb).1
 done:=by
  intro X hP hw hK hc i HQ s σ H E I hf st hg;subst hP hw hK;obtain⟨xs,ys,Jy,Jo,Kk⟩:=hg;obtain⟨Ly,rv1,p1,hz1⟩:=I.row Jy;obtain⟨JU,rv2,p2,hz2⟩:=I.row Jo;obtain⟨hz,JJ,⟨a,c,JM⟩,h1,h2⟩:=st;obtain⟨d1,d2,d3,d4,d5,d6,d7,d8,d9,d10⟩:=D;have D:ZipApart z TI TO i1 i2 a1 a2:=⟨d1,d2,d3,d4,d5,d6,d7,d8,d9,d10,dI I Jy (hf z ↑13),dI I Jy (hf TO ↑13),dI I Jy (hf i1 ↑13),dI I Jy (hf i2 ↑13),
   dI I Jo (hf z ↑13),dI I Jo (hf TO ↑13),dI I Jo (hf i1 ↑13),dI I Jo (hf i2 ↑13)⟩
  have l1:=rv1.length;have l2:=rv2.length;refine lS (I.ok.hd hc) D hz JJ JM h1 h2 p1 p2 ?_ λh' k=>⟨rfl,?_⟩
  .rcases Kk with q|q
   .exact .inl (by simp;lia)
   .exact .inr (by simp;lia)
  .exact I.A3 (t':=s.toks) (ch:=[z,TO,i1,i2,TI]) (λb u hb e=>by
    simp only[L5,NL,or_false,not_or] at hb;exact k b u hb.1 hb.2.1 hb.2.2.1 hb.2.2.2.1 e) hf
 self:=λ_ _ _ _ _ st h=>by
  obtain⟨hz,_⟩:=st;exact wpAny_pyIter_zip hz h
theorem Dq(n:Nat):n+2≠n+4/\n+3≠n+4/\n≠n+4/\n+1≠n+4/\n+2≠n+3/\n+2≠n/\n+2≠n+1/\n+3≠n/\n+3≠n+1/\n≠n+1:=by
 refine⟨?_,?_,?_,?_,?_,?_,?_,?_,?_,?_⟩<;>lia
def EO(K:LI)(tl:TA):TI:=fun σ H R=>tl σ H λvs H1=>∃b1 b2 a1 a2,vs=[.ref a1,.ref a2]/\(∃xs,qR K H1 b1 a1 xs)/\(∃ys,qR K H1 b2 a2 ys)/\R (FN K b1 b2 a1 a2) H1
def nz{tp:Pos}{l1 l2:Expr}{p:Pos}(hg:Gl X "zip")(hm:X.mg "zip"=none)(hl:PA X [l1,l2] tl)(hs:autoParam (starEach [l1,l2] X.env=[(false,eval l1 X.env),(false,eval l2 X.env)]) aR._auto_1)(JH:autoParam (starEach [l2] X.env=[(false,eval l2 X.env)]) aR._auto_1):PI X (.Tuple elts x1 tp) (.Call (.Name "zip" p) [l1,l2] [] pos) (EO X.K tl):=by
 intro HQ s σ H R I h;refine Call_ (jO I hg hm PyProof.Rows.boot_zip (MZ (cH (hl pos HQ s σ H _ I h) λus s1 ⟨vs,H1,I1,r1,q1⟩=>?_) (by rw[hs,JH]) (by rw[JH];rfl)));obtain⟨b1,b2,a1,a2,e,⟨xs,Jy⟩,⟨ys,Jo⟩,q⟩:=q1;subst e;cases r1 with
 | cons r rr =>
  cases rr with
  | cons r' rr =>
   cases rr;cases (show _=LS a1 from r);cases (show _=LS a2 from r');obtain⟨Ly,rv1,p1,hz1⟩:=I1.row Jy;obtain⟨JU,rv2,p2,hz2⟩:=I1.row Jo;refine wj p1 p2 λh' g1 g2 g3 g4 g5 g6 g7=>?_;have I2:Inv X HQ σ H1 { s1 with heap:=h' }:=I1.kept (t':=s1.toks) g7;refine wpAny_pyIter_zip (s:={ s1 with heap:=h' }) g1 ?_;refine⟨s1.heap.objs.size+4,[s1.heap.objs.size+4,s1.heap.objs.size+3,s1.heap.objs.size,s1.heap.objs.size+1,s1.heap.objs.size+2],_,_,H1,rfl,I2,
    yj b1 b2 a1 a2 _ _ _ _ _ (Dq s1.heap.objs.size),⟨g1,g2,⟨_,_,g3⟩,g4,g5⟩,λb hb=>?_,q⟩
   have hle:s1.heap.objs.size<=b:=by
    simp only[L5,NL,or_false] at hb;rcases hb with q|q|q|q|q
    .rw[q];exact OJ _ 4
    .rw[q];exact OJ _ 3
    .rw[q];exact LR _
    .rw[q];exact OJ _ 1
    .rw[q];exact OJ _ 2
   exact I1.t5 hle (I1.bf.fresh hle)
def Fw(K:LI)(b:Bool)(a:Addr):It:=match b with
 | true=>Hh K a
 |false=>G_ K a
def Ed(K:LI)(tl:TE):TI:=fun σ H R=>tl σ H λx H1=>∃b a,x=.ref a/\(∃xs,qR K H1 b a xs)/\R (Fw K b a) H1
def mR{l:Expr}{tl:TE}(hl:PE X l tl):PI X tg l (Ed X.K tl):=by
 intro HQ s σ H R I h;refine cH (hl HQ s σ H _ I h) λv s1 ⟨x,H1,I1,r1,q1⟩=>?_;obtain⟨b,a,e,⟨xs,hq⟩,q⟩:=q1;subst e;cases r1;cases b with
 | true =>
  obtain⟨HW,rv,p,hz⟩:=I1.list hq;refine Py p.isList ?_;refine⟨s1.heap.objs.size,[s1.heap.objs.size],_,_,H1,rfl,I1.kept (t':=s1.toks) λb o e=>LJ _ e,wu a _,⟨_,LV _ rfl,rfl,rfl⟩,λb hb=>?_,q⟩;have e:b=s1.heap.objs.size:=by simpa using hb
  subst e;exact I1.t5 (LR _) (I1.bf.fresh (LR _))
 | false =>
  obtain⟨HW,rv,p,hz⟩:=I1.tuple hq;refine NQ (show s1.heap.IsTuple a HW.toArray from p) ?_;refine⟨s1.heap.objs.size,[s1.heap.objs.size],_,_,H1,rfl,I1.kept (t':=s1.toks) λb o e=>LJ _ e,sL a _,⟨_,LV _ rfl,rfl,rfl⟩,λb hb=>?_,q⟩;have e:b=s1.heap.objs.size:=by simpa using hb
  subst e;exact I1.t5 (LR _) (I1.bf.fresh (LR _))
structure eU (K:LI) (C:Addr):Prop where
 ga:Ms K (.ref C) "__getattribute__"=some (some (.builtin "BaseException.__getattribute__"))
 gn:Ms K (.ref C) "__getattr__"=some none
 hd:Oq K C=true
 sa:Ms K (.ref C) "__setattr__"=some (some (.builtin "object.__setattr__"))
 mb:PB K C (.type "BaseException")=some true
 mo:PB K C (.type "object")=some true
 ca:Ms K (.ref C) "__class__"=some (some (.builtin "object.__class__"))
 cg:Ou K (.builtin "object.__class__") "__get__"=some (some (.builtin "getset_descriptor.__get__"))
 ct:OY K (.builtin "object.__class__")=some true
variable{name:Str}{ox:Obj}
variable{tk:Tok}
section
variable{E:Value->Shared->Prop}{K:LI}{x:Addr}{od:Option Obj}
def w_:builtinKind "BaseException.__getattribute__"=some .slot:=by decide +kernel
def vY:splitId "BaseException.__getattribute__"=some ("BaseException","__getattribute__"):=by decide +kernel
def xF{fill expr:Bool}(c:eU K C)(X:K.In s.heap)(I:Nr s.heap x ox C od)(h:wpAny ↑11 A.in1 (Builtin.«object.__getattribute__» ⟨[.ref x,.str name tk],[]⟩) (λfin s'=>match fin with|.done (.ret v)=>wpAny ↑11 A (handedOut v) Q E s'|_=>False) (λ_ _=>False) s):wpAny ↑11 A (getAttrBy (.ref x) (.str name tk) fill expr) Q E s:=by
 have Jp:(OO "BaseException.__getattribute__" == OO "object.__getattribute__")=false:=by decide +kernel
 have K7:(onTheHeap (LS C)&&OO "BaseException.__getattribute__" == OO "object.__getattribute__")=false:=by rw[Jp];rfl
 have hx0:(expr&&onTheHeap (OO "BaseException.__getattribute__"))=false:=by cases expr<;>rfl
 have sub:Ob ↑11 s.heap (isInstance (.ref x) (.type "BaseException")) true:=I.type.andThen (O8 X c.mb);unfold getAttrBy;refine Nb (LH (I.type.here (LH ((NW X c.ga).here ?_))));dsimp only;rw[K7,if_neg MO];unfold getAttrByItsOwn hookBefore;refine LH ?_;show wpAny _ _ (typeLookup (.ref C) "__getattr__") _ _ _;refine(NW X c.gn).here ?_;refine LH (ON (Nb ?_));unfold callGetattribute;rw[hx0,if_neg MO];unfold boundAndCalled;refine LH (wpAny_of_eq (PL.ga.bind _) ?_);refine Oh (Qq PL.ga.plain PySem.F.entry_bexc_ga (@QV ↑11 _ _ s "BaseException.__getattribute__" "BaseException" "__getattribute__" (.ref x) [.str name tk] [] _ w_ vY sub (PySem.F.args_bexc_ga _ _) ?_));refine MS h (λfin s' z=>?_) (λ_ _ z=>z.elim);rcases fin with (v|_|_|_)|_<;>first|exact z|exact z.elim
def wg{v:Value}(c:eU K C)(X:K.In s.heap)(I:Nr s.heap x ox C od)(hf:O0 K C od name=some (.value v))(hh:handedOut v=pure v)(h:Q v { s with toks:=s.toks+1 }):wpAny ↑11 A (getAttr (.ref x) name b) Q E s:=by
 unfold getAttr;refine LH (wpAny_mkText (xF (s:={ s with toks:=s.toks+1 }) c X I ?_));unfold Builtin.«object.__getattribute__»;refine LH (LM ?_);dsimp only;refine LH (LM ?_);refine LH (I.type.here (s:={ s with toks:=s.toks+1 }) (LH ((QW X I hf).here (s:={ s with toks:=s.toks+1 }) ?_)));refine LM ?_;show wpAny _ _ (handedOut v) _ _ _;rw[hh];exact LM h
end
variable{newId:String}{dd:Option Addr}
variable{f:Addr}
section
open PySem.Builtin.ObjectAttr (storeInOwnDict storeTaker? setByDescriptor)
abbrev eY:List Value:=[.type "ValueError",.type "Exception",.type "BaseException",.type "object"]
def f7:List Value->Bool
 | .ref _::r=>f7 r
 |l=>l==eY
def mJ(self:Value):refuseLoop self "__setattr__" eY=pure ():=by kernel_rfl
theorem lF(self:Value):∀{l:List Value},f7 l=true->refuseLoop self "__setattr__" l=pure ()
 | .ref c::r,e=>by rw[PySem.refuseLoop_ref];exact lF self e
 | [],e=>by cases (show false=true from e)
 | .type n::r,e=>by rw[show M0 n::r=eY from beq_iff_eq.mp e];exact mJ self
 |.none::r,e=>by rw[show Mt::r=eY from beq_iff_eq.mp e];exact mJ self
section
variable{E:Value->Shared->Prop}{K:LI}{x:Addr}{od:Option Obj}
def oN{a g:Value}(hc:(NH K C).isSome=true)(ha:Ms K (.ref C) name=some (some a))(hg:Ou K a "__get__"=some (some g))(ht:OY K a=some true):O0 K C od name=some (.bind g a):=by
 obtain⟨cd,hc⟩:=NF.mp hc;unfold O0;rw[hc,RC,ha,RC];simp[hg,ht]
def vL{Q:Option Value->Shared->Prop}(c:eU K C)(X:K.In s.heap)(I:Nr s.heap x ox C od)(h:Q (some (.ref C)) { s with toks:=s.toks+1 }):wpAny ↑11 A (getAttr? (.ref x) "__class__") Q E s:=by
 have hc:(NH K C).isSome=true:=by obtain⟨cd,hc,_⟩:=NK c.hd;rw[hc];rfl
 have hf:O0 K C od "__class__"=some (.bind (.builtin "getset_descriptor.__get__") (.builtin "object.__class__")):=oN hc c.ca c.cg c.ct;unfold getAttr? getAttrBy?;refine LH (wpAny_mkText (LH (ON ?_)));refine xF (s:={ s with toks:=s.toks+1 }) c X I ?_;unfold Builtin.«object.__getattribute__»;refine LH (LM ?_);dsimp only;refine LH (LM ?_);refine LH (I.type.here (s:={ s with toks:=s.toks+1 }) (LH ((QW X I hf).here (s:={ s with toks:=s.toks+1 }) ?_)));show wpAny _ _ (holding [.builtin "object.__class__"] (call (.builtin "getset_descriptor.__get__") [.builtin "object.__class__",.ref x,.ref C]) >>= ret) _ _ _;refine LH (Nb (Oh (PySem.W.class_get (s:={ s with toks:=s.toks+1 }) (ox:=ox) (od:=od) X I c.mo ?_)));refine LM ?_;exact PySem.W.handed_on rfl (LM h)
def rf(c:eU K C):Sf K (.ref x) (.ref C) (λh=>Nr h x ox C od) where
 ty:=λ_ _ _ I=>I.type
 it:=λ_ _ X _=>by
  obtain⟨cdD,Kh,_⟩:=NK c.hd;unfold NH at Kh
  split at Kh
  .rename_i c' d' cd' sl' ho;intro A' Q' E' s' k q;unfold isType loadHead;exact LH (Ot (k _ _ (X _ _ ho)) (LM q))
  .cases Kh
 ne:=λh tp dd HW n sl X htp=>by
  obtain⟨cdD,Kh,_⟩:=NK c.hd;refine Bool.eq_false_iff.mpr λq=>?_;have e:C=tp:=Value.ref.inj (beq_iff_eq.mp q);subst e;unfold NH at Kh
  split at Kh
  .rename_i c' d' cd' sl' ho;have z:=(X _ _ ho).symm.trans htp;cases z
  .cases Kh
 ca:=λX I k=>vL c X I k
def zw{v:Value}{R:Result->Shared->Prop}(po:((NH K C).any λcd=>f7 cd.mro)=true)(c:eU K C)(X:K.In s.heap)(I:Nr s.heap x ox C od)(ht:Oe K C name=some none)(h:∀b,wpAny ↑11 A.in1 (storeInOwnDict (.ref x) (.ref C) (.str name tk) name v b) (λfin s'=>match fin with|.done f=>R (.ok f) s'|.again c'=>c'.quiet=true/\codeAny ↑11 A c' R s') (λe s'=>R (.error e) s') s):codeAny ↑11 A (.call (.builtin "object.__setattr__") ⟨[.ref x,.str name tk,v],[]⟩) R s:=by
 have SF:=PySem.F.store_object;obtain⟨cd,hc,ho⟩:=NK po;have sub:Ob ↑11 s.heap (isInstance (.ref x) (.type "object")) true:=I.type.andThen (O8 X c.mo);refine Qq SF.slot.plain SF.entry (@QV ↑11 _ _ s "object.__setattr__" "object" "__setattr__" (.ref x) [.str name tk,v] [] _ SF.kind SF.split sub (SF.args (.ref x) (.str name tk) v) ?_);obtain⟨attr,ha,hr⟩:=Ng.mp ht;have hm:Ob ↑11 s.heap (mroOf (.ref C)) cd.mro:=(O7 X hc).andThen .now;have L3:Ob ↑11 s.heap (storeTaker? attr) none:=by
  cases attr with
  | none=>cases hr;exact .now
  | some a =>
   obtain⟨b,hb,e⟩:=LP.mp hr;refine(PySem.W.looks_takesIn X hb).andThen ?_;cases b with
   | true=>cases e
   | false=>exact .now
 rw[PySem.W.osa_eq,PySem.refuse_eq];refine LH (LH (I.type.here (LH (hm.here ?_))));rw[lF _ ho];refine LM (LH (I.type.here (LH ((NW X ha).here (LH (L3.here ?_))))));exact h _
def xk{vs:Array Value}{v:Value}{Q:Unit->Shared->Prop}(po:((NH K C).any λcd=>f7 cd.mro)=true)(c:eU K C)(X:K.In s.heap)(hx:s.heap.get? x=some ⟨.ref C,none,.fields vs,#[]⟩)(ht:Oe K C name=some none)(h:∀h' tk d,h'.get? x=some ⟨.ref C,some d,.fields vs,#[]⟩->s.heap.get? d=none->h'.Ns1 d (λy=>if y=name then some v else none)->(∀b o,b≠x->s.heap.get? b=some o->h'.get? b=some o)->Q () { s with heap:=h',toks:=tk }):wpAny ↑11 A (setAttr (.ref x) name v) Q E s:=by
 have I:Nr s.heap x ⟨.ref C,none,.fields vs,#[]⟩ C none:=⟨hx,rfl,rfl,trivial⟩
 refine Q7 X I c.sa (zw (s:={ s with toks:=s.toks+1 }) po c X I ht λb=>?_);obtain⟨cd,hc,Li⟩:=NK c.hd;have I_:=LN hx;refine LH (LM (LH (LH (Ot hx (LH (QM (s:={ s with toks:=s.toks+1 }) (O7 X hc) ?_))))));rw[Li];refine LH (wpAny_alloc ?_);have K7:(s.heap.push { cls:=.type "dict",data:=.dict #[] }).get? x=some ⟨.ref C,none,.fields vs,#[]⟩:=LJ _ hx;refine LH (wpAny_update K7 ?_);refine LM (a:=some s.heap.objs.size) (LH (LM (LH ?_)));have Jp:((s.heap.push { cls:=.type "dict",data:=.dict #[] }).update x λo=>{ o with dict:=some s.heap.objs.size }).get? x=some ⟨.ref C,some s.heap.objs.size,.fields vs,#[]⟩:=M8 _ K7 rfl;have e1:(s.heap.push { cls:=.type "dict",data:=.dict #[] }).get? s.heap.objs.size=some { cls:=.type "dict",data:=.dict #[] }:=LV s.heap rfl;have nxd:s.heap.objs.size≠x:=NP I_;have e2:((s.heap.push { cls:=.type "dict",data:=.dict #[] }).update x λo=>{ o with dict:=some s.heap.objs.size }).get? s.heap.objs.size=some { cls:=.type "dict",data:=.dict #[] }:=by
  rwa[MI _ _ (Nk nxd)]
 have e3:((s.heap.push { cls:=.type "dict",data:=.dict #[] }).update x λo=>{ o with dict:=some s.heap.objs.size }).Ns s.heap.objs.size (λ_=>none):=⟨_,#[],_,e2,rfl,(λe he=>absurd he ↑13),λ_=>rfl⟩
 refine wpAny_nsSet1 (s:={ s with heap:=(s.heap.push { cls:=.type "dict",data:=.dict #[] }).update x λo=>{ o with dict:=some s.heap.objs.size },toks:=s.toks+1 }) (Q_ e3) λh' Kx JH=>?_;obtain⟨oD,esD,epD,hoD,hdD,Kh⟩:=Kx.count (Q8 (ns:=[]) name v (λy hy=>absurd rfl hy));refine LH (wpAny_lookBehind hoD (by rw[hdD];exact pastItsLine_dict (MB Kh (by show 1<=sizeLine+1;exact Nat.le_add_left _ _))) ?_);refine LM (h h' _ s.heap.objs.size ((JH.2 x (Nk nxd)).trans Jp) (Nd (LR _)) Kx λb o hb e=>?_);refine(JH.2 b (L7 (LN e))).trans ?_;rw[MI _ _ (Nk hb)];exact LJ _ e
end
def nQ(K:LI)(C:Addr)(newId:String)(f:Addr):Bool:=match K.lookup C with
 | some ⟨.type "type",_,.cls cd,sl⟩=>(match cd.mro,sl.toList with
  | .ref C'::bm,[_,_,_,_,some (.builtin n),_]=>C'==C&&n==newId&&!cd.hasDel&&PySem.W.tailIn K eY bm&&PySem.W.nsOkIn K cd.ns&&P6 K cd.ns "__init__" == some (some (.ref f))
  | _,_=>false)
 |_=>false
section
variable{E:Value->Shared->Prop}{g:Array GenState}{d:Drawn}{t:Nat}{os:OsState}
variable{nm q:Str}{N:Addr}{bs bm:List Value}{JS:Bool}{sn:List Str}{sub:List Value}{ab:Bool}{col:Option Bool}{k0 k1 k2 k3 k5:Option Value}{KZ:String}
def mM(F:ExcBaseFacts "ValueError" newId KZ eY)(T:OwnTail h eY bm){mN:Str->Option Value}{rest:List Value}{Q:Fin->Shared->Prop}(hC:h.get? C=some (excClassObj nm q C N bs bm JS sn sub ab col dd k0 k1 k2 k3 k5 newId))(hn:h.Ns N mN)(J6:mN "__init__"=some (.ref f))(hb:∀h':Heap,(∀b o,h.get? b=some o->h'.get? b=some o)->∀self,Ob ↑11 h' (bindSpecial (.ref f) self) (.ref f,[self]))(hq:∀h':Heap,(∀b o,h.get? b=some o->h'.get? b=some o)->h'.get? h.objs.size=some { cls:=.type "tuple",data:=.seq rest.toArray } ->h'.get? (h.objs.size+1)=some { cls:=.ref C,data:=.fields #[.ref h.objs.size,.none,.none,.none,.bool false,.none] }->h'.objs.size=h.objs.size+2 ->wpAny ↑11 A (call (.ref f) (.ref (h.objs.size+1)::rest)) (λv s'=>v=.none/\Q (.done (.ret (.ref (h.objs.size+1)))) s') E ⟨h',g,d,t,os⟩)(yH:rest.length<=sizeLine:=by size_fits):wpAny ↑11 A (Builtin.«type.__call__» ⟨.ref C::rest,[]⟩) Q E ⟨h,g,d,t,os⟩:=by
 repeat (first|with_reducible refine Pz hC ?_|with_reducible refine wpAny_madeBy_exc hC ?_|wp_step)
 refine codeAny_call_builtin_code (QX _ F.quiet) (wpAny_check_new_subT F T hC ?_);refine codeAny_exc_new_subT F T hC ?_ yH;show wpAny _ _ _ _ _ _;have kp:∀b o,h.get? b=some o->((h.push { cls:=.type "tuple",data:=.seq rest.toArray }).push { cls:=.ref C,data:=.fields #[.ref h.objs.size,.none,.none,.none,.bool false,.none] }).get? b=some o:=λb o e=>LJ _ (LJ _ e);have hC1:=kp _ _ hC;have hn1:((h.push { cls:=.type "tuple",data:=.seq rest.toArray }).push { cls:=.ref C,data:=.fields #[.ref h.objs.size,.none,.none,.none,.bool false,.none] }).Ns N mN:=hn.keeps kp;have Lm:((h.push { cls:=.type "tuple",data:=.seq rest.toArray }).push
   { cls:=.ref C,data:=.fields #[.ref h.objs.size,.none,.none,.none,.bool false,.none] }).get? (h.objs.size+1)=some
   { cls:=.ref C,data:=.fields #[.ref h.objs.size,.none,.none,.none,.bool false,.none] }:=by heap_get
 have htup:((h.push { cls:=.type "tuple",data:=.seq rest.toArray }).push
   { cls:=.ref C,data:=.fields #[.ref h.objs.size,.none,.none,.none,.bool false,.none] }).get? h.objs.size=some { cls:=.type "tuple",data:=.seq rest.toArray }:=LJ _ (LV _ rfl)
 have JD:((h.push { cls:=.type "tuple",data:=.seq rest.toArray }).push { cls:=.ref C,data:=.fields #[.ref h.objs.size,.none,.none,.none,.bool false,.none] }).objs.size=h.objs.size+2:=by rw[MJ,MJ]
 have hcC:(LS C::bm).contains (.ref C)=true:=by simp
 have T1:=T.keeps kp;have hb₁:=hb _ kp (.ref (h.objs.size+1));have fin:=hq _ kp htup Lm JD;generalize ((h.push { cls:=.type "tuple",data:=.seq rest.toArray }).push { cls:=.ref C,data:=.fields #[.ref h.objs.size,.none,.none,.none,.bool false,.none] })=h1 at *;unfold isInstance
 repeat (first|with_reducible refine Pz Lm ?_|(with_reducible refine wpAny_isSubtype_exc hC1 ?_;rw[hcC])|wp_step)
 show wpAny _ _ (typeLookup (.ref C) _) _ _ _;refine wpAny_typeLookup_tail hC1 hn1 T1 F.mroIs F.init.lookup ?_;rw[J6];refine Nb (LH (hb₁.here ?_));refine LH (MS fin (λv s' z=>?_) λ_ _ z=>z);obtain⟨rfl,z⟩:=z
 wp_walk
 exact z
end
end
def gC(C:Addr)(dd:Option Addr)(e:Addr):HO:=.ext λh=>∃vs,h.get? e=some ⟨.ref C,dd,.fields vs,#[]⟩
def As{e:Addr}{vs:Array Value}(he:h.get? e=some ⟨.ref C,dd,.fields vs,#[]⟩):bN P w H h e (gC C dd e) :=
 ⟨⟨vs,he⟩,⟨_,he⟩,λ_ _ ⟨vs,q⟩ k=>⟨vs,k _ q⟩⟩
def ExcAt(H:Hp)(e C:Addr)(fo:Option (List (Str×V))):Prop:=match fo with
 | none=>H e=some (gC C none e)
 |some fs=>∃d,H e=some (gC C (some d) e)/\H d=some (.xd fs)
def Inv.nR(I:Inv X HQ σ H s){e:Addr}(he:H e=some (gC C dd e)):∃vs,s.heap.get? e=some ⟨.ref C,dd,.fields vs,#[]⟩:=(I.bf e _ he).1
def Inv.vc(I:Inv X HQ σ H s){e:Addr}{fo:Option (List (Str×V))}(h:ExcAt H e C fo):∃ox od,Nr s.heap e ox C od/\(fo=none->od=none) ∧∀fs,fo=some fs->∃(o:Obj)(mA:Str->Option Value),od=some o/\(∀n,Oo n o=some (mA n))/\∀f,kx (fs.lookup f) (mA f):=by
 cases fo with
 | none =>
  obtain⟨vs,q⟩:=I.nR h;exact⟨_,none,⟨q,rfl,rfl,trivial⟩,λ_=>rfl,λfs z=>(by cases z)⟩
 | some fs =>
  obtain⟨d,h1,h2⟩:=h;obtain⟨vs,q⟩:=I.nR h1;obtain⟨mA,n,r⟩:=(show ∃mA,s.heap.Ns1 d mA/\∀f,kx (fs.lookup f) (mA f) from I.bf d _ h2)
  obtain⟨o,ho,hl⟩:=ly n;refine⟨_,some o,⟨q,rfl,rfl,ho⟩,λz=>(by cases z),λfs' z=>?_⟩;cases z;exact⟨o,mA,rfl,hl,r⟩
def Inv.lg(I:Inv X HQ σ H s)(hn:s.heap.get? a=none):H a=none:=by
 cases q:H a with
 | none=>rfl
 | some u =>
  exfalso;have:∀(u:HO),bN X.prog X.w H s.heap a u->∃ob,s.heap.get? a=some ob:=by
   intro u
   induction u with
   | lst xs=>intro ⟨_,_,_,_,e⟩;exact⟨_,e⟩
   | tup xs=>intro ⟨_,_,_,p⟩;obtain⟨ob,e,_⟩:=p;exact⟨ob,e⟩
   | dK IE=>intro ⟨_,_,_,_,p⟩;obtain⟨ob,_,_,e,_⟩:=p;exact⟨ob,e⟩
   | dT IE=>intro ⟨_,_,_,_,ob,_,_,e,_⟩;exact⟨ob,e⟩
   | set S n=>intro p;obtain⟨es,ob,xs,ep,e,_⟩:=p;exact⟨_,e⟩
   | ins C dx fs=>intro ⟨_,_,_,e,_⟩;exact⟨_,e⟩
   | own x=>intro ⟨ob,e⟩;exact⟨ob,e⟩
   | xd fs=>intro ⟨mA,n,_⟩;obtain⟨ob,e,_⟩:=ly n;exact⟨ob,e⟩
   | met f x=>intro e;exact⟨_,e⟩
   | wX lo hi=>intro ⟨_,_,_,e⟩;exact⟨_,e⟩
   | lA o u _=>intro ⟨e,_⟩;exact⟨_,e⟩
   | gT t =>
    cases t with
    | inl q=>intro ⟨_,e,_⟩;exact⟨_,e⟩
    | inr o=>intro e;exact⟨_,e⟩
   | ext φ=>intro ⟨_,⟨ob,e⟩,_⟩;exact⟨ob,e⟩
  obtain⟨ob,e⟩:=this u (I.bf a u q);rw[hn] at e;cases e
def Inv.vb(I:Inv X HQ σ H s)(k:∀b u,s.heap.get? b=some u->h'.get? b=some u)(hn:s.heap.get? a=none)(new:bN X.prog X.w (upd H a o) h' a o):Inv X HQ σ (upd H a o) { s with heap:=h',toks:=t' }:=by
 have ne:∀b u,s.heap.get? b=some u->b≠a:=λb u e z=>by rw[z,hn] at e;cases e
 have Kl:H a=none:=I.lg hn;have J9:∀b u,H b=some u->b≠a:=λb u e z=>by rw[z,Kl] at e;cases e
 refine I.un ⟨λb u e _ _ _=>k b u e,λb u e _ _ _=>⟨u.slots,k b u e⟩,λb u e n _=>by rwa[aq (ne b u e)],λb u e _=>⟨u,k b u e⟩,
  λb xs e=>by rwa[aq (J9 b _ e)],λb ob u e=>by rwa[aq (J9 b _ e)],λb ps e=>by rwa[aq (J9 b _ e)]⟩ λb u e=>?_
 by_cases z:b=a
 .subst z;rw[aw] at e;cases e;exact new
 .rw[aq z] at e;refine(I.bf b u e).jR (λc v _ q=>k c v q) (λc q=>?_) (λc ys q=>?_) λc t q=>by rwa[aq (J9 c _ q)]
  .rw[aq (J9 c _ q)];exact q
  .rw[aq (J9 c _ q)];exact q
variable{apos:Pos}{m:Str}{ta:TE}
section
variable{o:Expr}{f:Str}
def FV(K:LI):List V->Hp->VK->Prop:=λxs H Q=>∃e C fo b,eU K C/\ExcAt H e C fo ∧
 ((∃T,xs=[.ref e,.ty T]/\L6 K (.ref C) (.type T)=some b)\/(∃D,xs=[.ref e,.ref D]/\L6 K (.ref C) (.ref D)=some b))/\Q (.bl b) H
def sj:dn X (.builtin "isinstance") (FV X.K):=by
 intro HQ s σ H xs us Q I r h;obtain⟨e,C,fo,b,c,ha,hc,q⟩:=h;obtain⟨ox,od,J,_⟩:=I.vc ha;rcases hc with ⟨T,rfl,hk⟩|⟨D,rfl,hk⟩
 .cases r with
  | cons r1 r2 =>
   cases r2 with
   | cons r3 r4 =>
    cases r4;cases (show _=LS e from r1);cases (show _=M0 T from r3);exact MF (rf c) I.h9 J hk (λz=>nomatch z) λtk=>⟨.bl b,H,I.tok tk,rfl,q⟩
 .cases r with
  | cons r1 r2 =>
   cases r2 with
   | cons r3 r4 =>
    cases r4;cases (show _=LS e from r1);cases (show _=LS D from r3);exact MF (rf c) I.h9 J hk (λz=>nomatch z) λtk=>⟨.bl b,H,I.tok tk,rfl,q⟩
def DW(K:LI)(ta:TE)(f:Str):TE:=fun σ H Q=>ta σ H λx H1=>∃e C fs v,x=.ref e/\ExcAt H1 e C (some fs)/\eU K C/\cF K C f/\fs.lookup f=some v/\Q v H1
def Af(he:PE X o ta)(hb:attributeBase o f X.env (eval o X.env)=eval o X.env):PE X (.Attribute o f pos) (DW X.K ta f):=by
 intro HQ s σ H Q I h;refine uA hb (cH (he HQ s σ H _ I h) λu s1 ⟨x,H1,I1,rx,e,C,fs,v,ex,ha,c,n,l,q⟩=>?_);subst ex;obtain rfl:u=LS e:=rx;obtain⟨ox,od,J,_,hfo⟩:=I1.vc ha;obtain⟨o',mA,rfl,hl,hr⟩:=hfo fs rfl;obtain⟨u',hu,ru⟩:=kx.some_of (v:=v) (o:=mA f) (by rw[<- l];exact hr f);exact wg c I1.h9 J (Qy c.hd n rfl (by rw[hl,hu])) (PySem.W.handedOut_of (pH ru)) ⟨v,H1,I1.tok _,ru,q⟩
end
variable{mg:Str->Option Value}
def tZ{K:LI}{N:Addr}{n:Str}{v:Value}(X:K.In h)(G:h.Ns N mg)(e:P6 K N n=some (some v)):mg n=some v:=by
 obtain⟨o,es,ep,ho,hd,_,hf⟩:=G;unfold P6 at e
 split at e
 .rename_i c d es' n' sl q;have:=X _ _ q;rw[ho] at this;cases this;cases hd
  split at e
  .rename_i en he;cases e;rw[<- hf];unfold nsFind findBy;rw[<- QL,he];rfl
  .split at e<;>cases e
 .cases e
def AI{K:LI}(X:K.In h)(q:OP K C eY newId=true):∃bm N nm qn bs JS sn sub ab col dd k0 k1 k2 k3 k5 mN,h.get? C=some (excClassObj nm qn C N bs bm JS sn sub ab col dd k0 k1 k2 k3 k5 newId)/\h.Ns N mN/\mN "__init__"=none/\OwnTail h eY bm:=by
 unfold OP at q
 split at q
 .rename_i dd cd sl ho
  split at q
  .rename_i C' bm k0 k1 k2 k3 n k5 hm hs;simp only[My,beq_iff_eq,Rn] at q;obtain⟨⟨⟨⟨⟨rfl,rfl⟩,Ki⟩,ht⟩,bf⟩,J6⟩:=q;obtain⟨nm,bs,mro,ns,qn,hd,sn,sub,ab,col,del⟩:=cd;dsimp only at hm Ki bf J6;subst hm Ki;have hsl:sl=#[k0,k1,k2,k3,some (.builtin n),k5]:=by
    obtain⟨l⟩:=sl;simp only at hs;rw[hs]
   subst hsl;exact⟨bm,ns,nm,qn,bs,hd,sn,sub,ab,col,dd,k0,k1,k2,k3,k5,_,X _ _ ho,.of_isNs (QY X bf),PySem.W.nsMap_none_of_in X bf J6,QZ X ht⟩
  .cases q
 .cases q
def yU{K:LI}(X:K.In h)(q:nQ K C newId f=true):∃bm N nm qn bs JS sn sub ab col dd k0 k1 k2 k3 k5 mN,h.get? C=some (excClassObj nm qn C N bs bm JS sn sub ab col dd k0 k1 k2 k3 k5 newId)/\h.Ns N mN/\mN "__init__"=some (.ref f)/\OwnTail h eY bm:=by
 unfold nQ at q
 split at q
 .rename_i dd cd sl ho
  split at q
  .rename_i C' bm k0 k1 k2 k3 n k5 hm hs;simp only[My,beq_iff_eq,Rn] at q;obtain⟨⟨⟨⟨⟨rfl,rfl⟩,Ki⟩,ht⟩,bf⟩,J6⟩:=q;obtain⟨nm,bs,mro,ns,qn,hd,sn,sub,ab,col,del⟩:=cd;dsimp only at hm Ki bf J6;subst hm Ki;have hsl:sl=#[k0,k1,k2,k3,some (.builtin n),k5]:=by
    obtain⟨l⟩:=sl;simp only at hs;rw[hs]
   subst hsl;have hN:=Heap.Ns.of_isNs (QY X bf);exact⟨bm,ns,nm,qn,bs,hd,sn,sub,ab,col,dd,k0,k1,k2,k3,k5,_,X _ _ ho,hN,tZ X hN J6,QZ X ht⟩
  .cases q
 .cases q
variable{k:Nat}{t:TA}{es:List Expr}{e:Expr}{sp:Sp}{ps:List Str}{fd:FuncData}
section
variable{p:Pos}
end
section
open PySem.SeqAt (shaped noMix noMixAll)
end
section
open PySem.SeqAt (shaped noMix noMixAll)
def Ac{x:V}{u t:Value}(I:Inv X HQ σ H s)(rx:RelV x u)(ty:iP X.K H x t):∃HH:Heap->Prop,Sf X.K u t HH/\HH s.heap/\u≠.builtin "__main__.__loader__#opaque" := by
 cases ty with
 | bz=>cases (show u=Mt from rx);exact⟨_,Ra,Nj,λz=>nomatch z⟩
 | bl y=>cases (show u=Mw y from rx);exact⟨_,Rb,Nj,λz=>nomatch z⟩
 | int i=>obtain⟨t,q⟩:=(show ∃t,u=PD i t from rx);cases q;exact⟨_,Ru,Nj,λz=>nomatch z⟩
 | str y=>obtain⟨t,q⟩:=(show ∃t,u=PF y t from rx);cases q;exact⟨_,Rv,Nj,λz=>nomatch z⟩
 | Bu y=>obtain⟨t,q⟩:=(show ∃t,u=Qm y t from rx);cases q;exact⟨_,QN,Nj,λz=>nomatch z⟩
 | @lst a xs ea =>
  cases (show u=LS a from rx);obtain⟨_,_,n,_,h1⟩:=(show bN X.prog X.w H s.heap a (.lst xs) from I.bf a _ ea)
  exact⟨_,Ov,⟨_,h1,rfl⟩,λz=>nomatch z⟩
 | @lA a ob xs ea =>
  cases (show u=LS a from rx);obtain⟨_,_,_,n,_,h1⟩:=(show bN X.prog X.w H s.heap a (.lA ob (.lst xs)) from I.bf a _ ea)
  exact⟨_,Ov,⟨_,h1,rfl⟩,λz=>nomatch z⟩
 | @tup a xs ea =>
  cases (show u=LS a from rx);obtain⟨_,_,_,o,h1,h2,_⟩:=(show bN X.prog X.w H s.heap a (.tup xs) from I.bf a _ ea)
  exact⟨_,QO,⟨o,h1,h2⟩,λz=>nomatch z⟩
 | @dK a IE ea =>
  cases (show u=LS a from rx);obtain⟨_,_,vs,_,o,es,ep,h1,h2,_⟩:=(show bN X.prog X.w H s.heap a (.dK IE) from I.bf a _ ea)
  exact⟨_,Ow,⟨o,h1,h2.1⟩,λz=>nomatch z⟩
 | @dT a IE ea =>
  cases (show u=LS a from rx);obtain⟨_,_,xs,_,o,es,ep,h1,h2,_⟩:=(show bN X.prog X.w H s.heap a (.dT IE) from I.bf a _ ea)
  exact⟨_,Ow,⟨o,h1,h2.1⟩,λz=>nomatch z⟩
 | @ins a C dx fs ea cl ha hn DM hm =>
  cases (show u=LS a from rx);obtain⟨mA,O,_⟩:=ku I.bf ea;obtain⟨od,J,_⟩:=O.look;exact⟨_,Rw (cl.get _) cl.hd ha hn DM hm,J,λz=>nomatch z⟩
def DN(K:LI):List V->Hp->VK->Prop:=λxs H Q=>∃(x:V)(tp:Addr)(Ts:List String)(t:Value)(b:Bool),xs=[x,.ref tp]/\H tp=some (.tup (Ts.map V.ty))/\iP K H x t/\Pj K t (Ts.map M0)=some b/\Q (.bl b) H
theorem vh:∀{Ts:List String}{us:List Value},Vals (Ts.map V.ty) us->us=Ts.map M0
 | [],us,r=>by rw[Pb] at r;cases r;rfl
 | T::Ts,us,r=>by
  rw[Mg] at r;cases r with
  | cons r1 r2 =>
   cases (show _=M0 T from r1);rw[vh r2];rfl
def vm:dn X (.builtin "isinstance") (DN X.K):=by
 intro HQ s σ H xs us Q I r h;obtain⟨x,tp,Ts,t,b,rfl,htp,ty,e,q⟩:=h;cases r with
 | cons r1 r2 =>
  cases r2 with
  | cons r3 r4 =>
   cases r4;cases (show _=LS tp from r3);obtain⟨HH,Z,p,ne⟩:=Ac I r1 ty;obtain⟨_,HW,rv,o,h1,h2,n,h3⟩:=(show bN X.prog X.w H s.heap tp (.tup (Ts.map V.ty)) from I.bf tp _ htp)
   have ei:=vh rv;subst ei;obtain⟨cls,dd,data,sl⟩:=o;dsimp only at h2 h3;subst h2 h3;exact PySem.W.kia_tup Z I.h9 p h1 e ne λtk=>⟨.bl b,H,I.tok tk,rfl,q⟩
theorem uF:∀{bs:List Bool}{us:List Value},Vals (bs.map V.bl) us->us=bs.map Mw
 | [],us,r=>by rw[Pb] at r;cases r;rfl
 | b::bs,us,r=>by
  rw[Mg] at r;cases r with
  | cons r1 r2 =>
   cases (show _=Mw b from r1);rw[uF r2];rfl
def CW:bootBuiltins "all"=some (.builtin "all"):=by decide +kernel
def vy(hc:X.calm=true):dn X (.builtin "all") (λxs H Q=>∃(a:Addr)(bs:List Bool),xs=[.ref a]/\gR X.K H a (bs.map V.bl)/\Q (.bl (bs.all id)) H):=by
 intro HQ s σ H xs us Q I r h;obtain⟨a,bs,rfl,hq,q⟩:=h;cases r with
 | cons r1 r2 =>
  cases r2;cases (show _=LS a from r1);obtain⟨HW,rv,p,hz⟩:=I.list hq;have ei:=uF rv;subst ei;have hl:=p.isList;have I_:a<s.heap.objs.size:=by obtain⟨_,e,_⟩:=hl;exact LN e
  refine call_all_walk (Py hl ?_);refine⟨s.heap.objs.size,[s.heap.objs.size,a],[s.heap.objs.size],(bs.map Mw).toArray.size,_,_,λi=>(bs[i]?).getD true,rfl,Walks.list (A:=X.A.in1) (I.ok.hd hc) _ a (L7 I_) (bs.map Mw).toArray,
   ⟨⟨_,LV _ rfl,rfl,rfl⟩,hl.push _⟩,λi v s' Q' E' hP hQ=>?_,λh' tk hk=>?_⟩
  .have hP':(bs.map Mw)[i]?=some v:=by simpa using hP
   rw[L_] at hP';obtain⟨b,e1,e2⟩:=LP.mp hP';subst e2;simp only[e1,PM] at hQ;exact M1 hQ
  .have e:((LZ (bs.map Mw).toArray.size).all λi=>(bs[i]?).getD true)=bs.all id:=by
    rw[LW,LK];rw[Qe,Me,Me];constructor
    .intro h b hb;obtain⟨i,hi,e⟩:=List.getElem_of_mem hb;have:=h i (MA.mpr hi);simp only[LL hi,PM,e] at this;exact this
    .intro h i hi;have J_:=MA.mp hi;simp only[LL J_,PM];exact h _ (Mz J_)
   rw[e];refine⟨.bl _,H,I.kept (t':=tk) (λb x e=>?_),rfl,q⟩;exact hk b x (λhm=>by rw[Na.mp hm] at e;exact Nl _ (LN e)) (LJ _ e)
end
section
open PySem.MeetsSeq PySem.MeetsSeq2 PySem.MeetsSeq3
def kR:fillsNumberSlot (.type "tuple") "mul"=pure false :=
 PySem.fillsNumberSlot_seq (id := "tuple.__mul__") (r:=some (.builtin "tuple.__rmul__")) F.slot_tuple_mul.lookup (by decide +kernel) F.slot_tuple_rmul.lookup (by decide +kernel)
def pT:seqRepeat? (.type "tuple")=pure (some (.builtin "tuple.__mul__")):=by
 unfold seqRepeat?;rw[RD (T := "tuple") (name := "__mul__") (id := "tuple.__mul__") F.slot_tuple_mul.lookup (by decide +kernel),RD (T := "tuple") (name := "__rmul__") (id := "tuple.__rmul__") F.slot_tuple_rmul.lookup (by decide +kernel)];rfl
def qp(a:Int)(t:Tok)(l:Addr)(HR:Array Value)(n:Nat)(dd:Option Addr)(sl:Array (Option Value)):Meets (Builtin.«int.__rmul__» ⟨[.int a t,.ref l],[]⟩) (λ_ R s=>s.heap.get? l=some ⟨.type "tuple",dd,.seq HR n,sl⟩/\R (.ok (.ret Value.notImplemented)) s) :=
 .of_wp λprog w A R s h=>by obtain⟨hp,g,d,tk,os⟩:=s;obtain⟨hl,h⟩:=h;wp_walk;exact⟨_,rfl,h⟩
def wK(l:Addr)(HR:Array Value)(n:Nat)(dd:Option Addr)(sl:Array (Option Value))(u:Tok):Meets (Builtin.«tuple.__mul__» ⟨[.ref l,.int 1 u],[]⟩) (λ_ R s=>s.heap.get? l=some ⟨.type "tuple",dd,.seq HR n,sl⟩/\R (.ok (.ret (.ref l))) s) :=
 .of_wp λprog w A R s h=>by
  obtain⟨hp,g,d,tk,os⟩:=s;obtain⟨hl,h⟩:=h;have f1:=PN;have f2:=Oc
  wp_walk using MV hl
  exact⟨_,rfl,h⟩
def wI(l:Addr)(HR:Array Value)(n:Nat)(dd:Option Addr)(sl:Array (Option Value))(x:Int)(u:Tok)(c0:¬ (decide (x < -2^63)||decide (x>=2^63))=true)(c1:¬ (HR.isEmpty||x==1)=true)(c2:¬ (decide (x<=0)||HR.isEmpty)=true)(c3:¬ (HR.size:Int)*x>(2^63-1)/8)(c4:¬ Pk ((HR.size:Int)*x)=true)(JD:(Pg (λx1 x2=>x1++x2) #[] (LO x.toNat HR)).size<=sizeLine):Meets (Builtin.«tuple.__mul__» ⟨[.ref l,.int x u],[]⟩) (λ_ R s=>s.heap.get? l=some ⟨.type "tuple",dd,.seq HR n,sl⟩/\R (.ok (.ret (.ref s.heap.objs.size))) { s with heap:=s.heap.push { cls:=.type "tuple",data:=.seq (Pg (λx1 x2=>x1++x2) #[] (LO x.toNat HR)) },toks:=s.toks }) :=
 .of_wp λprog w A R s h=>by
  obtain⟨hp,g,d,tk,os⟩:=s;obtain⟨hl,h⟩:=h;have f1:=PN;have f2:=Oc
  wp_walk using MV hl
  refine Qf (decide_eq_false c0) ?_;wp_walk using MV hl;refine Qf (decide_eq_false c3) ?_;wp_walk using MV hl;exact⟨_,rfl,h⟩
def vJ(l:Addr)(HR:Array Value)(n:Nat)(dd:Option Addr)(sl:Array (Option Value))(x:Int)(u:Tok)(c0:¬ (decide (x < -2^63)||decide (x>=2^63))=true)(c1:¬ (HR.isEmpty||x==1)=true)(c2:(decide (x<=0)||HR.isEmpty)=true):Meets (Builtin.«tuple.__mul__» ⟨[.ref l,.int x u],[]⟩) (λ_ R s=>s.heap.get? l=some ⟨.type "tuple",dd,.seq HR n,sl⟩/\R (.ok (.ret (.ref s.heap.objs.size))) { s with heap:=s.heap.push { cls:=.type "tuple",data:=.seq #[] },toks:=s.toks }) :=
 .of_wp λprog w A R s h=>by
  obtain⟨hp,g,d,tk,os⟩:=s;obtain⟨hl,h⟩:=h;have f1:=PN;have f2:=Oc
  wp_walk using MV hl
  refine Qf (decide_eq_false c0) ?_;wp_walk using MV hl;exact⟨_,rfl,h⟩
def A7(K:LI):R2:=λx y H Q=>∃a k xs,x=.ref a/\y=.int k/\gB K H a xs/\xs≠[]/\-(2^63)<=k/\k<2^63/\xs.length*k.toNat<=sizeLine/\(k=1->Q (.ref a) H)/\(k≠1->∀p,H p=none->Q (.ref p) (upd H p (.tup (LO k.toNat xs).flatten)))
theorem Ar:gc X (binaryOp .Mult) (A7 X.K):=by
 intro HQ s σ H x y v u Q I rx ry h;obtain⟨a,k,xs,rfl,rfl,hq,Kd,h1,h2,hz,q1,q2⟩:=h;cases rx;obtain⟨t,rfl⟩:=ry;obtain⟨HW,r,⟨o,e,hc,n,hd⟩,_⟩:=I.tuple hq;obtain⟨cls,dd,data,sl⟩:=o;dsimp only at hc hd;subst hc hd;have hl:=r.length;refine Pu (T := "tuple") (U := "int") ↑12 ⟨_,e,rfl⟩ (λs'=>P5 s' k t) kR F.fills_int_mul F.slot_int_rmul pT F.slot_int_index.lookup
  (NY F.slot_int_rmul (P5 s k t) F.entry_int_rmul (F.args_int_rmul_2 _ _) (qp k t a HW.toArray n dd sl) ⟨e,rfl,⟨_,e,rfl⟩,?_⟩)
 by_cases hk1:k=1
 .subst hk1;exact NY F.slot_tuple_mul ⟨_,e,rfl⟩ F.entry_tuple_mul (F.args_tuple_mul_2 _ _) (wK a HW.toArray n dd sl t) ⟨e,⟨.ref a,H,I,rfl,q1 rfl⟩⟩
 .have hb1:(k==1)=false:=by simpa using hk1
  have J6:HW≠[]:=λz=>Kd (r.j7.mp z);have hie:HW.toArray.isEmpty=false:=by cases HW with|nil=>exact absurd rfl J6|cons _ _=>rfl
  have c0:¬ (decide (k < -2^63)||decide (k>=2^63))=true:=by simp;lia
  have c1:¬ (HW.toArray.isEmpty||k==1)=true:=by rw[hie,hb1];simp
  have fin:∀ys,ys=(LO k.toNat HW).flatten.toArray->EP X HQ σ Q (.ref s.heap.objs.size) { s with heap:=s.heap.push { cls:=.type "tuple",data:=.seq ys },toks:=s.toks }:=λys ey=>by
   subst ey;refine⟨.ref s.heap.objs.size,_,I.laid (t':=s.toks) (o:=.tup (LO k.toNat xs).flatten) (λb ob q=>LJ _ q) (LR _) ?_,rfl,q2 hk1 _ (I.bf.fresh (LR _))⟩;exact⟨by rwa[len_rep,Pa],_,r.rep k.toNat,Rx _ _⟩
  have Jx:Pg (λx1 x2=>x1++x2) #[] (LO k.toNat HW.toArray)=(LO k.toNat HW).flatten.toArray:=by
   have:=foldl_rep HW k.toNat [];rwa[RQ] at this
  by_cases hk0:k<=0
  .have c2:(decide (k<=0)||HW.toArray.isEmpty)=true:=by rw[decide_eq_true hk0];rfl
   refine NY F.slot_tuple_mul ⟨_,e,rfl⟩ F.entry_tuple_mul (F.args_tuple_mul_2 _ _) (vJ a HW.toArray n dd sl k t c0 c1 c2) ⟨e,fin _ ?_⟩;rw[show k.toNat=0 by lia];rfl
  .have c2:¬ (decide (k<=0)||HW.toArray.isEmpty)=true:=by rw[decide_eq_false hk0,hie];simp
   have em:((HW.toArray.size:Nat):Int)*k=((xs.length*k.toNat:Nat):Int):=by
    rw[LW,<- hl,Int.natCast_mul,Int.toNat_of_nonneg ⋯]
   have hs:(sizeLine:Int)<=(2^63-1)/8:=by decide
   refine NY F.slot_tuple_mul ⟨_,e,rfl⟩ F.entry_tuple_mul (F.args_tuple_mul_2 _ _) (wI a HW.toArray n dd sl k t c0 c1 c2 ?_ ?_ ?_) ⟨e,fin _ Jx⟩
   .rw[em];lia
   .rw[em];unfold Pk;simp only[decide_eq_true_eq];lia
   .rw[Jx,LW,len_rep,Pa,<- hl];exact hz
end
structure ba (K:LI) (x qual:Str) (st:Stmt) (dv:Value) (f:Addr) (fd:FuncData):Prop where
 ex:∃(oc:Value)(od:Option Addr)(kV doc pm:Value)(an:Option Addr)(Ig ct:Value)(J4:Array (Option Value)),
  fd=MM x qual (f9 st) (cR st) (au st) dv kV doc pm an Ig ct/\K.lookup f=some ⟨oc,od,.func fd,J4⟩/\Nf K Ig qual=true
 kp:Mi K (.ref f)=true
variable{base:Heap}
variable{ds:List Value}{T:Addr}{qual:Str}
section
variable{K:LI}
def ba.binds{st:Stmt}{o:Obj}(F:ba K x qual st (.ref T) f fd)(ho:K.lookup T=some o)(hs:o.data=.seq HR n)(h:∀(kV doc pm:Value)(an:Option Addr)(Ig ct:Value)(us:List Value),(us++ds).length=ps.length->∃k,bindArgs (MM x qual (f9 st) (cR st) (au st) (.ref T) kV doc pm an Ig ct) ⟨us,[]⟩=seqItems? (.ref T) >>= k/\k (some HR)=pure (ps.zip (us++ds))):Binds K fd ps ds:=by
 obtain⟨oc,od,kV,doc,pm,an,Ig,ct,J4,rfl,lk,II⟩:=F.ex;intro s us X hl;obtain⟨k,h1,h2⟩:=h kV doc pm an Ig ct us hl;exact BindsTo.of_defaults rfl (X _ _ ho) hs h1 h2
end
variable{v:V}
def DQ(hg:Gl X x)(hm:∃u,X.mg x=some u/\RelV v u)(hd:autoParam ↑7 aD._auto_1):PE X (.Name x pos) (tC v):=by
 obtain⟨u,h1,h2⟩:=hm;exact uC hg h1 h2 hd
def x9:bootBuiltins "max"=some (.builtin "max"):=by decide +kernel
def BD:bootBuiltins "min"=some (.builtin "min"):=by decide +kernel
variable{y:Str}
def Aq{cl:List (Str×Addr)}{JY py:Pos}{wi:TI}{g:TG}{ts fs:List Str}(hN:X.N.Nodup)(hiy:X.N[i]?=some y)(hy:Loc X.env.scope y)(Ih:X.calm=true)(Iw:closureFor scope X.env=pure cl)(hk:scope.kind=.function)(nc:fL scope.names=true)(lo:gF scope.names=true)(fh:gH cl scope.names=true)(ag:eK X cl)(fr:hO X scope cl fs js)(hi:PI X tg iter wi)(hg:∀C s₀ H₀ ex HQ,PG (n9 X scope cl (ts++fs) C s₀ H₀ ex HQ) tg g)(he:∀C s₀ H₀ ex HQ,PE (n9 X scope cl (ts++fs) C s₀ H₀ ex HQ) elt te)(hs:autoParam ↑5 aI._auto_1)(Lw:autoParam (swapsWith (.ListComp elt [⟨tg,iter,[],0⟩] scope pos) (some (.Name y py)) JY.line X.env=pure true) aR._auto_1)(hf:autoParam (X.fn y=true\/X.env.scope.names.lookup y=some .local) aF._auto_1):PS X (.Assign [.Name y py] (.ListComp elt [⟨tg,iter,[],0⟩] scope pos) JY) (CB (sU wi g te ts js) (br i)):=by
 intro HQ s σ H D I h;rw[exec_Assign_Name_used _ _ _ _ Lw];refine LH (OM (LH ?_));show wpAny _ X.A (do let _ <- comprehension (.ListComp elt [⟨tg,iter,[],0⟩] scope pos) scope X.env _ (newList []) false (eval iter X.env) (some (assign (.Name y py) X.env))) _ _ s;refine LH (MS (qP (tt:=none) Ih Iw hk nc lo fh ag fr hi hg (λ_ _ _ _ _=>trivial) he hs I (show yk wi g none te ts js σ H (λx H1=>D.nx (σ.set i (some x)) H1) from h) (some (assign (.Name y py) X.env)) (λ_ s'=>SP X HQ D .next s') λDd H' s' C Io q hm f=>?_) (λ_ s' hq=>LM (LM hq)) λ_ _ e=>e);show wpAny _ X.A (assign (.Name y py) X.env (.ref Dd)) _ _ s';refine Q5 (oY Io hN hiy hy (v:=.ref Dd) rfl (λKJ I'' ⟨a,sb,ha⟩=>?_) hf);obtain⟨m,hn⟩:=hm;obtain⟨f0,f1,f2,f3,f4,f5⟩:=f;have naC:a≠C:=by
  rcases ha with z|z
  .rw[z];exact λw=>f1 w.symm
  .exact f4 y a z
 refine⟨m,hn.sameBut sb (Nk naC),λh' K5=>?_⟩;exact⟨_,H',I''.other ⟨f0,f1,f2,f3,f4,f5⟩ K5,q⟩
section
variable{E:Value->Shared->Prop}
variable{b1 b2 b3:Bool}{z TI TO i1 i2 i3 l1 l2 l3:Addr}{k3:Nat}{xs zs:Array Value}{x y v a b c:Value}
end
section
variable{E:Value->Shared->Prop}
variable{b1 b2 b3:Bool}{z TI TO i1 i2 i3 l1 l2 l3:Addr}{k3:Nat}{xs zs:Array Value}{x y v a b c:Value}
end
section
variable{E:Value->Shared->Prop}
end
variable{oe:Obj}{outer:List Env}
variable{to:Option Addr}
section
variable{M:Model}{E:Value->Shared->Prop}
def pG{env:Env}{L e:Addr}{vs:Array Value}{head:Value}{Kv:Bool}{Q:Unit->Shared->Prop}
  (Kl:A.frames=some (env::outer)) (hl:s.heap.FunFrames base (env::outer)) (hf:env.frame=some L)
  (he:s.heap.get? e=some oe) (hd:oe.data=.fields vs) (JD:1<vs.size)
  (h:∀h' T oT ts,h'.get? e=some (Nn (·.setIfInBounds 1 (.ref T)) oe)->s.heap.objs.size<=T->T≠e->h'.get? T=some oT->oT.data=.fields ts->ts[3]?=some (rawInt L) ->
   (∀b o,b≠e->b ∉ qI (env::outer)->s.heap.get? b=some o->h'.get? b=some o)->(∀b o,b≠e->s.heap.get? b=some o->∃sl,h'.get? b=some { o with slots:=sl })->Q () { s with heap:=h' }) :
  wpAny M A (do let a <- frameOf env;let pl <- entryPlaceOf L Kv;let b <- QB head a .none (rawInt L) .none pl;setField (.ref e) 1 b) Q E s:=by
 have hene:e ∉ (env::outer).filterMap (·.frame):=λhm=>by
  obtain⟨_,o,ho,Lp⟩:=hl.mem hm;rw[he] at ho;injection ho with ho;subst ho;exact Lp vs hd
 refine LH (wpAny_frameOf_fun Kl hl hf λh₁ hs1=>?_);refine LH (wpAny_entryPlaceOf λpl Iu=>?_);unfold QB newFields;refine LH (M3 ?_ (Iu.sizeOk5 _ _ _ _ _));have he1:h₁.get? e=some oe:=(hs1.2.1 e hene).trans he;have he₂:=LJ (h:=h₁) { cls:=.type "traceback",dict:=none,data:=.fields ([head,.ref L,.none,rawInt L,.none]++(if pl.isEmpty then LO 6 Mt else pl)).toArray } he1;have hTe:h₁.objs.size≠e:=NP (LN he1);have hd3:=Nu hd (·.setIfInBounds 1 (LS h₁.objs.size));have he3:=M8 (Nn (·.setIfInBounds 1 (LS h₁.objs.size))) he₂ (NU hd3);have hT₃:=(MI (h₁.push { cls:=.type "traceback",dict:=none,data:=.fields ([head,.ref L,.none,rawInt L,.none]++(if pl.isEmpty then LO 6 Mt else pl)).toArray })
  (Nn (·.setIfInBounds 1 (LS h₁.objs.size))) (Nk hTe)).trans (LV h₁ rfl)
 have keep:∀b o,b≠e->h₁.get? b=some o ->
   ((h₁.push { cls:=.type "traceback",dict:=none,data:=.fields ([head,.ref L,.none,rawInt L,.none]++(if pl.isEmpty then LO 6 Mt else pl)).toArray }).update e (Nn (·.setIfInBounds 1 (LS h₁.objs.size)))).get? b=some o:=λb o J5 hb=>by
  rw[MI _ _ (Nk J5)];exact LJ _ hb
 refine OB he₂ hd JD (h _ h₁.objs.size _ _ he3 ?_ hTe hT₃ rfl (by first|(simp;done)|(rcases Iu with rfl|⟨_,_,_,_,_,_,_,rfl⟩<;>simp)) ?_ ?_)
 .exact Q9 hs1.1.symm
 .intro b o J5 hbf hb;exact keep b o J5 ((hs1.2.1 b hbf).trans hb)
 .intro b o J5 hb;obtain⟨sl,hs⟩:=hs1.2.2 b o hb;exact⟨sl,keep b _ J5 hs⟩
def Lies(h:Heap)(e:Addr)(vs:Array Value)(to:Option Addr):Prop:=match to with
 | none=>vs[1]?=some .none
 |some T=>vs[1]?=some (.ref T)/\T≠e/\∃oT ts,h.get? T=some oT/\oT.data=.fields ts/\ts[3]?=some .none
def vB{env:Env}{L e:Addr}{vs:Array Value}{Q:Unit->Shared->Prop}(Kl:A.frames=some (env::outer))(hl:s.heap.FunFrames base (env::outer))(hf:env.frame=some L)(he:s.heap.get? e=some oe)(hd:oe.data=.fields vs)(hto:Lies s.heap e vs to)(h:∀h' T oT ts,h'.get? e=some (Nn (·.setIfInBounds 1 (.ref T)) oe)->s.heap.objs.size<=T->T≠e->h'.get? T=some oT->oT.data=.fields ts->ts[3]?=some (rawInt L) ->(∀b o,b≠e->(∀T,to=some T->b≠T)->b ∉ qI (env::outer)->s.heap.get? b=some o->h'.get? b=some o) ->(∀b o,b≠e->(∀T,to=some T->b≠T)->s.heap.get? b=some o->∃sl,h'.get? b=some { o with slots:=sl })->(∀b o,s.heap.get? b=some o->∃o',h'.get? b=some o')->Q () { s with heap:=h' }):wpAny M A (noteFrame (.ref e) env) Q E s:=by
 unfold noteFrame;simp only[hf];cases to with
 | none =>
  have h1:vs[1]?=some .none:=hto;refine LH (Ml he hd h1 ?_);rw[if_neg ↑12];refine pG Kl hl hf he hd (MR.mp h1).1 λh' T oT ts a1 a2 a3 a4 a5 a6 a7 a8=>?_;refine h h' T oT ts a1 a2 a3 a4 a5 a6 (λb o n1 _ n2 q=>a7 b o n1 n2 q) (λb o n1 _ q=>a8 b o n1 q) λb o q=>?_
  by_cases z:b=e
  .subst z;exact⟨_,a1⟩
  .obtain⟨sl,r⟩:=a8 b o z q;exact⟨_,r⟩
 | some T0 =>
  obtain⟨h1,hTe,oT,ts,hT,hdT,h3⟩:=hto;refine LH (Ml he hd h1 ?_);rw[if_pos (show (LS T0 != Mt)=true from by simp)];refine LH (Ml hT hdT h3 ?_);rw[if_neg (show ¬ ((Mt==rawInt L)=true) from by simp[rawInt])];refine LH (OB hT hdT (MR.mp h3).1 ?_);have other:∀b,b≠T0->(s.heap.update T0 (Nn (·.setIfInBounds 3 Mt))).get? b=s.heap.get? b:=λb hb=>MI _ _ (Nk hb);have Kr:∀b o,s.heap.get? b=some o->(∀vs,o.data≠.fields vs)->b≠T0:=λb o hb Lp q=>by
   rw[q,hT] at hb;injection hb with hb;subst hb;exact Lp ts hdT
  have Ku:=M8 (Nn (·.setIfInBounds 3 Mt)) hT (NU (Nu hdT _));refine pG Kl (hl.of_keeps λb o hb Lp=>⟨o,(other b (Kr b o hb Lp)).trans hb,rfl⟩) hf ((other e (Nk hTe)).trans he) hd (MR.mp h1).1 λh' T oT' ts' a1 a2 a3 a4 a5 a6 a7 a8=>?_;refine h h' T oT' ts' a1 (by simpa [Heap.update] using a2) a3 a4 a5 a6 (λb o n1 n2 n3 q=>a7 b o n1 n3 ((other b (n2 T0 rfl)).trans q)) (λb o n1 n2 q=>a8 b o n1 ((other b (n2 T0 rfl)).trans q)) λb o q=>?_
  by_cases z:b=e
  .subst z;exact⟨_,a1⟩
  .by_cases z2:b=T0
   .subst z2;obtain⟨sl,r⟩:=a8 b _ z Ku;exact⟨_,r⟩
   .obtain⟨sl,r⟩:=a8 b o z ((other b z2).trans q);exact⟨_,r⟩
end
def jo(C:Addr)(dd:Option Addr)(e:Addr):HO:=.ext λh=>∃t,h.get? e=some ⟨.ref C,dd,.fields #[.ref t,.none,.none,.none,.bool false,.none],#[]⟩
def Et(C:Addr)(dd:Option Addr)(e T:Addr):HO:=.ext λh=>∃vs,h.get? e=some ⟨.ref C,dd,.fields vs,#[]⟩/\vs[1]?=some (.ref T)
def Hi(fl:Value)(T:Addr):HO:=.ext λh=>∃oT ts,h.get? T=some oT/\oT.data=.fields ts/\ts[3]?=some fl
def kF(Hc:Hp)(e T C:Addr)(dd:Option Addr)(fl:Value):Hp:=upd (upd Hc T (Hi fl T)) e (Et C dd e T)
variable{fl:Value}{Hc:Hp}
def mI{e:Addr}:kF Hc e T C dd fl e=some (Et C dd e T):=aw
def nU{e:Addr}(n:T≠e):kF Hc e T C dd fl T=some (Hi fl T):=by unfold kF;rw[aq n,aw]
def iF{e b:Addr}(n:b≠e)(n2:b≠T):kF Hc e T C dd fl b=Hc b:=by unfold kF;rw[aq n,aq n2]
def Inv.note{e:Addr}{vs:Array Value}{φ:Heap->Prop}{Q:Unit->Shared->Prop}{E:Value->Shared->Prop}(I:Inv X HQ σ H s)(Ja:X.stack=X.env::X.outer)(hf:X.env.frame=some X.env.locals)(he:H e=some (.ext φ))(hx:s.heap.get? e=some ⟨.ref C,dd,.fields vs,#[]⟩)(lies:Lies s.heap e vs to)(hT:∀T,to=some T->(∃ψ,H T=some (.ext ψ))/\Hc T=none)(hc:∀b,b≠e->(∀T,to=some T->b≠T)->Hc b=H b)(h:∀h' T,Hc T=none->T≠e->Inv X HQ σ (kF Hc e T C dd (rawInt X.env.locals)) { s with heap:=h' }->Q () { s with heap:=h' }):wpAny ↑8 X.A (noteFrame (.ref e) X.env) Q E s:=by
 have hl:=I.stack;have Kl:=I.ok.frames;have sf:=I.pR;rw[Ja] at hl Kl sf;refine vB (base:=X.base) Kl hl hf hx rfl lies λh' T oT ts a1 a2 a3 a4 a5 a6 a7 a8 a9=>?_;have hTn:H T=none:=I.bf.fresh a2;have nT:∀b u,H b=some u->b≠T:=λb u q z=>by rw[z,hTn] at q;cases q
 have Kf:∀b u,H b=some u->(∀ψ,u≠.ext ψ)->b≠e/\∀T0,to=some T0->b≠T0:=by
  intro b u q hu;refine⟨λz=>?_,λT0 z w=>?_⟩
  .rw[z,he] at q;exact hu _ (L8 q).symm
  .obtain⟨⟨ψ,q2⟩,_⟩:=hT T0 z;rw[w,q2] at q;exact hu _ (L8 q).symm
 have old:∀b u,H b=some u->(∀ψ,u≠.ext ψ)->kF Hc e T C dd (rawInt X.env.locals) b=some u:=λb u q hu=>by
  obtain⟨n1,n2⟩:=Kf b u q hu;rwa[iF n1 (nT b u q),hc b n1 n2]
 have hcT:Hc T=none:=by
  by_cases z:∃T0,to=some T0/\T=T0
  .obtain⟨T0,z1,z2⟩:=z;rw[z2];exact(hT T0 z1).2
  .rw[hc T a3 λT0 z1 z2=>z ⟨T0,z1,z2⟩];exact hTn
 have un:∀b o,s.heap.get? b=some o->H b=none->b≠e/\(∀T0,to=some T0->b≠T0)/\b≠T:=by
  intro b o q n;refine⟨λz=>?_,λT0 z w=>?_,L7 (LU (LN q) a2)⟩
  .rw[z,he] at n;cases n
  .obtain⟨⟨ψ,q2⟩,_⟩:=hT T0 z;rw[w,q2] at n;cases n
 refine h h' T hcT a3 ?_;have U:Un (qI X.stack) [] H (kF Hc e T C dd (rawInt X.env.locals)) s.heap h':=by
  rw[Ja];refine⟨λb o q n nf _=>?_,λb o q n _ _=>?_,λb o q n _=>?_,λb o q _=>a9 b o q,λb xs q=>old b _ q (λ_ z=>nomatch z),λb ob u q=>old b _ q (λ_ z=>nomatch z),λb ps q=>?_⟩
  .obtain⟨n1,n2,_⟩:=un b o q n;exact a7 b o n1 n2 nf q
  .obtain⟨n1,n2,_⟩:=un b o q n;exact a8 b o n1 n2 q
  .obtain⟨n1,n2,n3⟩:=un b o q n;rwa[iF n1 n3,hc b n1 n2]
  .exact old b _ q (λ_ z=>nomatch z)
 have ok:kX X.prog X.w (kF Hc e T C dd (rawInt X.env.locals)) h':=λb u q=>by
  by_cases z:b=e
  .subst z;rw[mI] at q;cases q;refine⟨⟨_,a1,?_⟩,⟨_,a1⟩,λh1 h2 ⟨ws,q1,q2⟩ k=>⟨ws,k _ q1,q2⟩⟩;have JD:1<vs.size:=by
    cases to with
    | none=>exact(MR.mp (show vs[1]?=some .none from lies)).1
    | some T0=>exact(MR.mp lies.1).1
   simp[JD]
  .by_cases z2:b=T
   .subst z2;rw[nU a3] at q;cases q;exact⟨⟨oT,ts,a4,a5,a6⟩,⟨_,a4⟩,λh1 h2 ⟨o1,t1,q1,q2,q3⟩ k=>⟨o1,t1,k _ q1,q2,q3⟩⟩
   .rw[iF z z2] at q;have z3:∀T0,to=some T0->b≠T0:=λT0 w w2=>by rw[w2,(hT T0 w).2] at q;cases q
    rw[hc b z z3] at q;have nf:∀c u',H c=some u'->c ∉ qI (X.env::X.outer):=λc u' q' hm=>by have:=sf c hm;rw[q'] at this;cases this
    refine(I.bf b u q).jR (λc v Kw q'=>?_) (λc q'=>old c _ q' (λ_ z=>nomatch z)) (λc xs q'=>old c _ q' (λ_ z=>nomatch z)) λc t q'=>old c _ q' (λ_ z=>nomatch z);rcases Kw with rfl|Kw
    .exact a7 c v z z3 (nf c u q) q'
    .obtain⟨n1,n2⟩:=Kf c _ Kw (λ_ z=>nomatch z);exact a7 c v n1 n2 (nf c _ Kw) q'
 exact I.call (ch:=[]) U ok I.bare (λb z=>absurd z ↑13)
def Inv.wF{e:Addr}(I:Inv X HQ σ (kF Hc e T C dd fl) s)(n:T≠e):∃vs oT ts,s.heap.get? e=some ⟨.ref C,dd,.fields vs,#[]⟩/\vs[1]?=some (.ref T)/\s.heap.get? T=some oT/\oT.data=.fields ts/\ts[3]?=some fl:=by
 obtain⟨vs,h1,h2⟩:=(I.bf e _ mI).1;obtain⟨oT,ts,q⟩:=(I.bf T _ (nU n)).1;exact⟨vs,oT,ts,h1,h2,q⟩
def Inv.Fc{e:Addr}{Q:Unit->Shared->Prop}{E:Value->Shared->Prop}(I:Inv X HQ σ (kF Hc e T C dd fl) s)(hfl:fl=.none\/fl=rawInt X.env.locals)(n:T≠e)(hcT:Hc T=none)(Ja:X.stack=X.env::X.outer)(hf:X.env.frame=some X.env.locals)(h:∀h' T,Hc T=none->T≠e->Inv X HQ σ (kF Hc e T C dd (rawInt X.env.locals)) { s with heap:=h' }->Q () { s with heap:=h' }):wpAny ↑8 X.A (noteFrame (.ref e) X.env) Q E s:=by
 obtain⟨vs,oT,ts,hx,h1,hT,hd,h3⟩:=I.wF n;rcases hfl with rfl|rfl
 .refine I.note (Hc:=Hc) (to:=some T) Ja hf mI hx ⟨h1,n,oT,ts,hT,hd,h3⟩ (λT0 z=>?_) (λb n1 n2=>(iF n1 (n2 T rfl)).symm) h;cases z;exact⟨⟨_,nU n⟩,hcT⟩
 .unfold noteFrame;simp only[hf];refine LH (Ml hx rfl h1 ?_);rw[if_pos (show (LS T != Mt)=true from by simp)];refine LH (Ml hT hd h3 ?_);rw[if_pos (show (rawInt X.env.locals==rawInt X.env.locals)=true from by simp)];exact LM (h s.heap T hcT n I)
def Inv.EG{e:Addr}{Q:Unit->Shared->Prop}{E:Value->Shared->Prop}(I:Inv X HQ σ H s)(he:H e=some (jo C dd e))(Ja:X.stack=X.env::X.outer)(hf:X.env.frame=some X.env.locals)(h:∀h' T,upd H e (gC C dd e) T=none->T≠e->Inv X HQ σ (kF (upd H e (gC C dd e)) e T C dd (rawInt X.env.locals)) { s with heap:=h' }->Q () { s with heap:=h' }):wpAny ↑8 X.A (noteFrame (.ref e) X.env) Q E s:=by
 obtain⟨t,hx⟩:=(I.bf e _ he).1;exact I.note (Hc:=upd H e (gC C dd e)) (to:=none) Ja hf he hx rfl (λ_ z=>by cases z) (λb n1 _=>aq n1) h
def Inv.mx{e:Addr}{fr:Option Addr}{Q:Unit->Shared->Prop}{E:Value->Shared->Prop}(I:Inv X HQ σ (kF Hc e T C dd fl) s)(n:T≠e)(h:∀h',Inv X HQ σ (kF Hc e T C dd (fr.elim .none λf=>rawInt f)) { s with heap:=h' }->Q () { s with heap:=h' }):wpAny ↑8 X.A (setFlight (.ref e) fr) Q E s:=by
 obtain⟨vs,oT,ts,hx,h1,hT,hd,h3⟩:=I.wF n;unfold setFlight;refine LH (Ml hx rfl h1 ?_);rw[if_pos (show (LS T != Mt)=true from by simp)];have JD:3<ts.size:=(MR.mp h3).1;refine OB hT hd JD (h _ ?_);have other:∀b,b≠T->(s.heap.update T (Nn (·.setIfInBounds 3 (fr.elim Mt λf=>rawInt f)))).get? b=s.heap.get? b:=λb hb=>MI _ _ (Nk hb);have Ku:=M8 (Nn (·.setIfInBounds 3 (fr.elim Mt λf=>rawInt f))) hT (NU (Nu hd _));have nT:∀b,kF Hc e T C dd fl b=none->b≠T:=λb q z=>by rw[z,nU n] at q;cases q
 have same:∀b,b≠T->kF Hc e T C dd (fr.elim .none λf=>rawInt f) b=kF Hc e T C dd fl b:=λb z=>by
  by_cases w:b=e
  .subst w;rw[mI,mI]
  .rw[iF w z,iF w z]
 have ne:∀b u,kF Hc e T C dd fl b=some u->(∀ψ,u≠.ext ψ)->b≠T:=λb u q hu z=>by rw[z,nU n] at q;exact hu _ (L8 q).symm
 refine I.un (t':=s.toks) ⟨λb o q z _ _=>(other b (nT b z)).trans q,λb o q z _ _=>⟨o.slots,(other b (nT b z)).trans q⟩,λb o q z _=>by rwa[same b (nT b z)],λb o q _=>?_,λb xs q=>?_,λb ob u q=>?_,λb ps q=>?_⟩ λb u q=>?_
 .by_cases z:b=T
  .subst z;exact⟨_,Ku⟩
  .exact⟨o,(other b z).trans q⟩
 .rw[same b (ne b _ q λ_ z=>nomatch z)];exact q
 .rw[same b (ne b _ q λ_ z=>nomatch z)];exact q
 .rw[same b (ne b _ q λ_ z=>nomatch z)];exact q
 .by_cases z:b=T
  .subst z;rw[nU n] at q;cases q;refine⟨⟨_,_,Ku,Nu hd _,?_⟩,⟨_,Ku⟩,λh1 h2 ⟨o1,t1,q1,q2,q3⟩ k=>⟨o1,t1,k _ q1,q2,q3⟩⟩;simp[JD]
  .rw[same b z] at q;refine(I.bf b u q).jR (λc v hc q'=>(other c ?_).trans q') (λc q'=>?_) (λc xs q'=>?_) λc t q'=>by rw[same c (ne c _ q' λ_ z=>nomatch z)];exact q'
   .rcases hc with rfl|hc
    .exact z
    .exact ne c _ hc λ_ z=>nomatch z
   .rw[same c (ne c _ q' λ_ z=>nomatch z)];exact q'
   .rw[same c (ne c _ q' λ_ z=>nomatch z)];exact q'
def bB(P:Program)(w:World):Cp:=λouter H s E e s'=>∃(ea T C:Addr)(dd:Option Addr)(Hc:Hp),e=.ref ea/\s'.os=s.os/\AllBare s'.gens/\Un (qI outer) [] H (kF Hc ea T C dd .none) s.heap s'.heap/\kX P w (kF Hc ea T C dd .none) s'.heap ∧
 Hc ea=some (gC C dd ea)/\Hc T=none/\T≠ea/\E (.ref ea) none Hc
def Zx (X : Cx)(E : St -> XK)(e : Value)(s : Shared) : Prop := ∃(ea C : Addr)(dd : Option Addr)(HQ : List (Addr × Obj))(σ : St),e=.ref ea ∧
  ((∃H,Inv X HQ σ H s /\ H ea=some (jo C dd ea) /\ E σ (.ref ea) none (upd H ea (gC C dd ea))) ∨
   (∃Hc T fl,Inv X HQ σ (kF Hc ea T C dd fl) s /\ (fl=.none \/ fl=rawInt X.env.locals) /\ Hc ea=some (gC C dd ea) /\ Hc T=none /\ T ≠ ea /\ E σ (.ref ea) none Hc))
variable{E:St->XK}
def Zx.note{e:Value}{Q:Unit->Shared->Prop}{F:Value->Shared->Prop}(z:Zx X E e s)(Ja:X.stack=X.env::X.outer)(hf:X.env.frame=some X.env.locals)(h:∀s' ea C dd HQ σ Hc T,e=.ref ea->Inv X HQ σ (kF Hc ea T C dd (rawInt X.env.locals)) s'->Hc ea=some (gC C dd ea)->Hc T=none->T≠ea->E σ (.ref ea) none Hc->Q () s'):wpAny ↑8 X.A (noteFrame e X.env) Q F s:=by
 obtain⟨ea,C,dd,HQ,σ,rfl,⟨H,I,h1,h2⟩|⟨Hc,T,fl,I,h1,h2,h3,h4,h5⟩⟩:=z
 .exact I.EG h1 Ja hf λh' T q1 q2 I2=>h _ ea C dd HQ σ _ T rfl I2 aw q1 q2 h2
 .exact I.Fc h1 h4 h3 Ja hf λh' T q1 q2 I2=>h _ ea C dd HQ σ _ T rfl I2 h2 q1 q2 h5
def Zx.uc{E:XK}{e:Value}{F:Value->Shared->Prop}(z:Zx X (λ_=>E) e s)(Ja:X.stack=X.env::X.outer)(hf:X.env.frame=some X.env.locals)(hex:X.ex=[]):wpAny ↑8 X.A (leaving X.env e) (λ_ s'=>bB X.prog X.w X.outer X.H₀ X.s₀ E e s') F s:=by
 unfold leaving;refine LH (z.note Ja hf λs' ea C dd HQ σ Hc T he I h1 h2 h3 h4=>?_);subst he;refine I.mx h3 λh' I2=>⟨ea,T,C,dd,Hc,rfl,I2.os,I2.bare,?_,I2.bf,h1,h2,h3,h4⟩
 have:=I2.base;rwa[hex] at this
def Zx.own(Ja:X.stack=X.env::X.outer)(hf:X.env.frame=some X.env.locals):PassesOwn ↑8 X.A X.env (Zx X E):=by
 intro e s z;refine z.note Ja hf λs' ea C dd HQ σ Hc T he I h1 h2 h3 h4=>?_;subst he;obtain⟨vs,oT,ts,hx,q1,_⟩:=I.wF h3;show wpAny _ _ _ _ _ _;refine LH (Ml hx rfl q1 ?_);rw[if_neg (show ¬ ((LS T==Mt)=true) from by simp)];rw[hf];refine I.mx h3 λh' I2=>⟨ea,C,dd,HQ,σ,rfl,.inr ⟨Hc,T,_,I2,.inr rfl,h1,h2,h3,h4⟩⟩
structure dh (X:Cx) (E:St->XK):Prop where
 pass:∀(HQ:List (Addr×Obj))(σ:St)(H:Hp)(s:Shared)(e:Value)(s':Shared),Inv X HQ σ H s->bB X.prog X.w X.stack H s (E σ) e s'->X.xe e s'
 new:∀(HQ:List (Addr×Obj))(σ:St)(H:Hp)(s:Shared)(e C:Addr)(dd:Option Addr),Inv X HQ σ H s->H e=some (jo C dd e)->E σ (.ref e) none (upd H e (gC C dd e))->X.xe (.ref e) s
 own:PassesOwn ↑8 X.A X.env X.xe
abbrev Cx.out(X:Cx)(E:St->XK):Cx:=X.k6 (Zx X E)
def je(Ja:X.stack=X.env::X.outer)(hf:X.env.frame=some X.env.locals):dh (X.out E) E where
 pass:=by
  intro HQ σ H s e s' I h;obtain⟨ea,T,C,dd,Hc,rfl,os,bare,un,bf,h1,h2,h3,hE⟩:=h;have I':=I.cJ.jY (ch:=[]) os un bf bare (λb z=>absurd z ↑13);exact⟨ea,C,dd,HQ,σ,rfl,.inr ⟨Hc,T,.none,I',.inl rfl,h1,h2,h3,hE⟩⟩
 new:=λHQ σ H s e C dd I he hE=>⟨e,C,dd,HQ,σ,rfl,.inl ⟨H,I.cJ,he,hE⟩⟩
 own:=Zx.own Ja hf
variable{N:List Str}{J4:Array (Option Value)}{an od:Option Addr}{body:List Stmt}{params:Arguments}
def nt{K:LI}{dV kV doc pm Ig ct oc:Value}(lk:K.lookup f=some ⟨oc,od,.func (MM name qual params body scope dV kV doc pm an Ig ct),J4⟩)(II:Nf K Ig qual=true)(S:bg N ps scope)(len:∀vs H Q E,sp vs H Q E->vs.length=ps.length)(Kg:∀(A:Around)(outer:List Env)(s:Shared)(H:Hp)(vs:List V)(Q:VK)(E:XK),bD k (A.deeper (envOfC qual scope s.heap.objs.size f Ig))->sp vs H Q E ->∃t,i7 ((eQ (bB P w) P w K mg base N qual scope f Ig A outer s H E).out λ_=>E) body t/\t { nx:=λ_ H'=>Q .bz H',rt:=Q } (start N vs) H):aT P w K mg base (bB P w) (k+1) f (MM name qual params body scope dV kV doc pm an Ig ct) ps sp:=by
 refine D9 lk II S len λA outer s H vs Q E hr hs=>?_;obtain⟨t,h1,h2⟩:=Kg A outer s H vs Q E hr hs;refine⟨t,λHQ s1 σ H1 D I q=>?_,h2⟩;refine MS (h1 HQ s1 σ H1 D (I.k6 _) q) (λf s' z=>z.cJ) λe s' z=>?_;exact z.uc rfl rfl rfl
variable{pos':Pos}
section
open PySem.Builtin.ObjectAttr (storeInOwnDict storeTaker? setByDescriptor)
def qe{e t:Addr}(he:h.get? e=some ⟨.ref C,dd,.fields #[.ref t,.none,.none,.none,.bool false,.none],#[]⟩):bN P w H h e (jo C dd e) :=
 ⟨⟨t,he⟩,⟨_,he⟩,λ_ _ ⟨t,q⟩ k=>⟨t,k _ q⟩⟩
section
variable{p:Pos}
def E4(C:Addr)(t:TA):TE:=fun σ H Q=>t σ H λvs H1=>vs.length<=sizeLine/\∀a,H1 a=none->Q (.ref a) (upd H1 a (jo C none a))
def zu(hc:OP X.K C eY "ValueError.__new__"=true)(kp:Mi X.K (.ref C)=true)(hg:Gl X x)(hm:X.mg x=some (.ref C))(ha:PA X (e::es) t)(IF:autoParam ↑7 aD._auto_1)(he:autoParam ↑0 aR._auto_1)(Iu:autoParam ↑2 aR._auto_1):PE X (.Call (.Name x p) (e::es) [] pos) (E4 C t):=by
 intro HQ s σ H Q I h;refine MQ (f_ I hg hm ?_ IF);refine Nx (h₀:=X.base) I.ok.mod.zq kp (cH (ha pos HQ s σ H _ I h) λus s1 ⟨vs,H1,I1,r,hl,q⟩=>⟨I1.h9,?_⟩) he Iu;obtain⟨bm,N,nm,qn,bs,JS,sn,sub,ab,col,dd,k0,k1,k2,k3,k5,mN,hC,hN,J6,T⟩:=AI I1.h9 hc;obtain⟨hp,g,d,tk,os⟩:=s1;refine wpAny_call_exc_subT Pn T hC hN J6 (λh' a M=>?_) (by show us.length<=sizeLine;rwa[<- r.length]);obtain⟨t',e1,_,_⟩:=M.there;have I2:Inv X HQ σ (upd H1 a (jo C none a)) ⟨h',g,d,tk,os⟩:=I1.vb (t':=tk) M.keeps M.new (qe e1);have hn:H1 a=none:=I1.lg M.new;exact⟨.ref a,_,I2,rfl,q a hn⟩
def Dv(C:Addr)(sp:Sp)(t:TA):TE:=fun σ H Q=>t σ H λvs H1=>vs.length<=sizeLine/\∀a,H1 a=none->sp (.ref a::vs) (upd H1 a (jo C none a)) (λv H2=>v=.bz/\Q (.ref a) H2) E0
def yE(hc:nQ X.K C "ValueError.__new__" f=true)(hf:N2 X.K (.ref f)=true)(kp:Mi X.K (.ref C)=true)(F:aT X.prog X.w X.K X.mg X.base (bB X.prog X.w) k f fd ps sp)(hr:bD (k+1) X.A)(hb:Binds X.K fd ps [])(hg:Gl X x)(hm:X.mg x=some (.ref C))(ha:PA X (e::es) t)(IF:autoParam ↑7 aD._auto_1)(he:autoParam ↑0 aR._auto_1)(Iu:autoParam ↑2 aR._auto_1):PE X (.Call (.Name x p) (e::es) [] pos) (Dv C sp t):=by
 intro HQ s σ H Q I h;refine MQ (f_ I hg hm ?_ IF);refine Nx (h₀:=X.base) I.ok.mod.zq kp (cH (ha pos HQ s σ H _ I h) λus s1 ⟨vs,H1,I1,r,hl,q⟩=>⟨I1.h9,?_⟩) he Iu;have X1:=I1.h9;obtain⟨bm,N,nm,qn,bs,JS,sn,sub,ab,col,dd,k0,k1,k2,k3,k5,mN,hC,hN,J6,T⟩:=yU X1 hc;obtain⟨hp,g,d,tk,os⟩:=s1;have f1:=tc_lookup;have f2:=tc_bind (.ref C);have hT:(⟨hp,g,d,tk,os⟩:Shared).TypeIs (.ref C) "type" := ⟨_,hC,rfl⟩
 refine Oh (codeAny_of_tree ?_);show wpAny _ _ (callAny (.ref C) _) _ _ _
 repeat (any_goals (first|assumption|with_reducible refine Pz hC ?_|wp_step))
 refine⟨rfl,?_⟩;refine codeAny_call_builtin_at (QX _ (by decide +kernel)) entry_typeCall (wpAny_check_type_call_sub hC (mM Pn T hC hN J6
  (λh' kk self=>RP (λb o z=>kk b o (X1 b o z)) self (beq_iff_eq.mp hf)) (λh' kk ht hx hz=>?_) (by show us.length<=sizeLine;rwa[<- r.length])))
 have I2:Inv X HQ σ (upd H1 (hp.objs.size+1) (jo C none (hp.objs.size+1))) ⟨h',g,d,tk,os⟩:=I1.vb (t':=tk) kk (Nd (OU _)) (qe hx);have hq:=q (hp.objs.size+1) (I1.lg (Nd (OU _)));have r2:Vals (V.ref (hp.objs.size+1)::vs) (LS (hp.objs.size+1)::us):=.cons rfl r;have hlen:(LS (hp.objs.size+1)::us++[]).length=ps.length:=by
  rw[MK,<- r2.length];exact F.len _ _ _ _ hq
 refine Oh (N3 (F.run _ X.stack _ _ ⟨LS (hp.objs.size+1)::us,[]⟩ (LS (hp.objs.size+1)::us) _ _ E0 (hr.make C us []) (I2.i_.make C us []) (by have:=hb _ (LS (hp.objs.size+1)::us) I2.h9 hlen;rwa [MK] at this) r2 hq) λr s' Kn=>?_);cases r with
 | error e =>
  obtain⟨_,_,_,_,_,_,_,_,_,_,_,_,_,z⟩:=Kn;exact z.elim
 | ok fl =>
  cases fl with
  | ret u =>
   obtain⟨v,H',I3,rv,ev,q3⟩:=I2.after Kn;subst ev;exact⟨rv,⟨V.ref (hp.objs.size+1),H',I3,rfl,q3⟩⟩
  | next=>exact Mx Kn
  | brk=>exact Mx Kn
  |cont=>exact Mx Kn
def BS(K:LI)(ta tv:TE)(f:Str):TS:=λD σ H=>tv σ H λy H1=>ta σ H1 λx H2=>∃a C,x=.ref a/\H2 a=some (jo C none a)/\eU K C/\((NH K C).any λcd=>f7 cd.mro)=true/\cF K C f ∧
 ∀d,H2 d=none->d≠a->D.nx σ (upd (upd H2 d (.xd [(f,y)])) a (jo C (some d) a))
def ym{o value:Expr}{tv:TE}{n:Str}(ha:PE X o ta)(hv:PE X value tv)(hs:swapsWith value (some (.Attribute o n pos')) pos.line X.env=pure false):PS X (.Assign [.Attribute o n pos'] value pos) (BS X.K ta tv n):=by
 intro HQ s σ H D I h;refine OF (cH (hv HQ s σ H _ I h) λu s1 ⟨y,H1,I1,ry,q⟩=>cH (ha HQ s1 σ H1 _ I1 q) λov s2 ⟨x,H2,I2,rx,a,C,ex,ea,c,po,na,q2⟩=>?_) hs;subst ex;obtain rfl:ov=LS a:=rx;obtain⟨tt,hx⟩:=(I2.bf a _ ea).1;refine xk po c I2.h9 hx na.Be λh' tk d e1 e2 e3 e4=>?_;have hd:H2 d=none:=I2.lg e2;have nda:d≠a:=λz=>by rw[z,ea] at hd;cases hd
 refine⟨σ,_,?_,q2 d hd nda⟩;have up:∀b,b≠a->b≠d->upd (upd H2 d (.xd [(n,y)])) a (jo C (some d) a) b=H2 b:=λb h1 h2=>by rw[aq h1,aq h2]
 have nd:∀b u,s2.heap.get? b=some u->b≠d:=λb u e z=>by rw[z,e2] at e;cases e
 have nH:∀b u,H2 b=some u->b≠d:=λb u e z=>by rw[z,hd] at e;cases e
 have nE:∀b u,H2 b=some u->(∀C dd,u≠jo C dd a)->b≠a:=λb u e hu z=>by
  rw[z,ea] at e;exact hu C none (L8 e).symm
 refine I2.un (t':=tk) ⟨λb u e z _ _=>e4 b u (λw=>by rw[w,ea] at z;cases z) e,λb u e z _ _=>⟨u.slots,e4 b u (λw=>by rw[w,ea] at z;cases z) e⟩,λb u e z _=>?_,λb u e _=>?_,λb xs e=>?_,λb ob u e=>?_,λb ps e=>?_⟩ λb u e=>?_
 .rw[up b (λw=>by rw[w,ea] at z;cases z) (nd b u e)];exact z
 .by_cases w:b=a
  .rw[w];exact⟨_,e1⟩
  .exact⟨u,e4 b u w e⟩
 .rw[up b (nE b _ e λ_ _ z=>by cases z) (nH b _ e)];exact e
 .rw[up b (nE b _ e λ_ _ z=>by cases z) (nH b _ e)];exact e
 .exact(by rwa[up b (nE b _ e λ_ _ z=>by cases z) (nH b _ e)])
 .by_cases w:b=a
  .subst w;rw[aw] at e;cases e;exact qe e1
  .rw[aq w] at e
   by_cases w2:b=d
   .subst w2;rw[aw] at e;cases e;refine⟨_,e3,λg=>?_⟩;show kx (NX g [(n,y)]) (if g=n then some _ else none);rw[MG]
    by_cases z:g=n
    .rw[if_pos z,show (g==n)=true from by simp[z]];exact ry
    .rw[if_neg z,show (g==n)=false from by simp[z]];exact Nj
   .rw[aq w2] at e;refine(I2.bf b u e).jR (λc v hc z=>e4 c v ?_ z) (λc z=>?_) (λc ys z=>?_) λc t z=>by rwa[up c (nE c _ z λ_ _ z=>by cases z) (nH c _ z)]
    .rcases hc with z'|z'
     .rw[z'];exact w
     .exact nE c _ z' λ_ _ z=>by cases z
    .rw[up c (nE c _ z λ_ _ z=>by cases z) (nH c _ z)];exact z
    .rw[up c (nE c _ z λ_ _ z=>by cases z) (nH c _ z)];exact z
end
end
section
variable{M:Model}{E:Value->Shared->Prop}
def yF{e:Addr}{o:Obj}(hx:s.heap.get? e=some o)(h:Q o.cls s):wpAny M A (typeOf (.ref e)) Q E s:=by
 unfold typeOf;exact LH (Ot hx (LM h))
def uV{e:Addr}{o:Obj}{vs:Array Value}{Q:Bool->Shared->Prop}(hx:s.heap.get? e=some o)(hd:o.data=.fields vs)(h:Q false s):wpAny M A (isType (.ref e)) Q E s:=by
 unfold isType loadHead;refine LH (Ot hx (LM ?_));rwa[hd]
end
def BK(K:LI)(E:St->XK)(te:TE):TS:=λD σ H=>te σ H λv H1=>∃e C dd,v=.ref e/\H1 e=some (jo C dd e)/\eU K C/\NV K (.ref C)=some (.type "type")/\E σ (.ref e) none (upd H1 e (gC C dd e))
def rH{exc:Expr}(O:dh X E)(Ih:X.calm=true)(he:PE X exc te):PS X (.Raise (some exc) none pos) (BK X.K E te):=by
 intro HQ s σ H D I h;rw[arm_exec_Raise];refine LH (OM ?_);unfold raiseStmt;dsimp only [evalOpt,Option.map];refine LH (LH (cH (he HQ s σ H _ I h) λu s1 hq=>LH (OM (LM ?_))));obtain⟨v,H1,I1,rv,e,C,dd,ev,hN,c,ht,hE⟩:=hq;subst ev;obtain rfl:u=LS e:=rv;obtain⟨t,hx⟩:=(I1.bf e _ hN).1;have X1:=I1.h9;refine LH (LM ?_);refine LH (Nb ?_);unfold excFromValue isExcClass;refine LH (LH (uV hx rfl ?_));refine LM ?_;refine LH ?_;unfold isInstance;refine LH (yF hx ((O8 X1 c.mb).here ?_));refine LM ?_;dsimp only;refine LH (uV hx rfl ?_);unfold raisedInstance;refine LH (LH (yF hx (LH ((PySem.W.looks_typeIn X1 ht).here ?_))));refine LM ?_;unfold setFlight;refine LH (LH (Ml hx rfl (x:=.none) rfl ?_));refine LM ?_;exact wpAny_raiseNew_none (I1.ok.hd Ih) (O.new HQ σ H1 s1 e C dd I1 hN hE)
inductive PV where
 | bz|bl (b:Bool)|int (i:Int)|str (x:Str)
 | tup (xs:List PV)|lst (xs:List PV)
 | eS (xs:List PV)
 | obj (C:Addr) (fs:List (Str×PV))
 | exc (C:Addr) (fo:Option (List (Str×PV)))
 | emp
 | tX (IE:List (List Int×PV))
 | fn (a:Addr)
 deriving Inhabited
mutual
inductive Rep (H:Hp):PV->V->Prop where
 | bz:Rep H .bz .bz
 | bl (b:Bool):Rep H (.bl b) (.bl b)
 | int (i:Int):Rep H (.int i) (.int i)
 | str (x:Str):Rep H (.str x) (.str x)
 | tup {a:Addr} {xs:List PV} {vs:List V}:H a=some (.tup vs)->aM H xs vs->Rep H (.tup xs) (.ref a)
 | lst {a:Addr} {xs:List PV} {vs:List V}:H a=some (.lst vs)->aM H xs vs->Rep H (.lst xs) (.ref a)
 | eS {a:Addr} {o:Obj} {xs:List PV} {vs:List V}:H a=some (.lA o (.lst vs))->aM H xs vs->Rep H (.eS xs) (.ref a)
 | obj {a C dx:Addr} {fs:List (Str×PV)} {vs:List (Str×V)}:H a=some (.ins C dx vs)->fS H fs vs->Rep H (.obj C fs) (.ref a)
 | qk {a C:Addr}:H a=some (gC C none a)->Rep H (.exc C none) (.ref a)
 | ou {a C d:Addr} {fs:List (Str×PV)} {vs:List (Str×V)}:H a=some (gC C (some d) a)->H d=some (.xd vs)->fS H fs vs->Rep H (.exc C (some fs)) (.ref a)
 | emp {a:Addr}:H a=some (.dK [])->Rep H .emp (.ref a)
 | tX {a:Addr} {o:Obj} {IE:List (List Int×PV)} {us:List (List Key×V)}:H a=some (.lA o (.dT us))->rL H IE us->Rep H (.tX IE) (.ref a)
 |fn (a:Addr):Rep H (.fn a) (.ref a)
inductive aM (H:Hp):List PV->List V->Prop where
 | nil:aM H [] []
 |cons {p:PV} {v:V} {ps:List PV} {vs:List V}:Rep H p v->aM H ps vs->aM H (p::ps) (v::vs)
inductive fS (H:Hp):List (Str×PV)->List (Str×V)->Prop where
 | nil:fS H [] []
 |cons {n:Str} {p:PV} {v:V} {ps:List (Str×PV)} {vs:List (Str×V)}:Rep H p v->fS H ps vs->fS H ((n,p)::ps) ((n,v)::vs)
inductive rL (H:Hp):List (List Int×PV)->List (List Key×V)->Prop where
 | nil:rL H [] []
 |cons {k:List Int} {p:PV} {v:V} {ps:List (List Int×PV)} {vs:List (List Key×V)}:Rep H p v->rL H ps vs->rL H ((k,p)::ps) ((k.map PZ,v)::vs)
end
mutual
theorem Rep.mono{H H':Hp}(s:aZ H H'):∀{p:PV}{v:V},Rep H p v->Rep H' p v
 | _,_,.bz=>.bz
 | _,_,.bl b=>.bl b
 | _,_,.int i=>.int i
 | _,_,.str x=>.str x
 | _,_,.tup h r=>.tup (s _ _ h) (r.mono s)
 | _,_,.lst h r=>.lst (s _ _ h) (r.mono s)
 | _,_,.eS h r=>.eS (s _ _ h) (r.mono s)
 | _,_,.obj h r=>.obj (s _ _ h) (r.mono s)
 | _,_,.qk h=>.qk (s _ _ h)
 | _,_,.ou h h2 r=>.ou (s _ _ h) (s _ _ h2) (r.mono s)
 | _,_,.emp h=>.emp (s _ _ h)
 | _,_,.tX h r=>.tX (s _ _ h) (r.mono s)
 |_,_,.fn a=>.fn a
theorem aM.mono{H H':Hp}(s:aZ H H'):∀{p:List PV}{v:List V},aM H p v->aM H' p v
 | _,_,.nil=>.nil
 |_,_,.cons h r=>.cons (h.mono s) (r.mono s)
theorem fS.mono{H H':Hp}(s:aZ H H'):∀{p:List (Str×PV)}{v:List (Str×V)},fS H p v->fS H' p v
 | _,_,.nil=>.nil
 |_,_,.cons h r=>.cons (h.mono s) (r.mono s)
theorem rL.mono{H H':Hp}(s:aZ H H'):∀{p:List (List Int×PV)}{v:List (List Key×V)},rL H p v->rL H' p v
 | _,_,.nil=>.nil
 |_,_,.cons h r=>.cons (h.mono s) (r.mono s)
end
theorem aM.length{H:Hp}:∀{p:List PV}{v:List V},aM H p v->p.length=v.length
 | _,_,.nil=>rfl
 |_,_,.cons _ r=>by simp[r.length]
theorem aM.get{H:Hp}:∀{p:List PV}{v:List V}{i:Nat}{x:PV},aM H p v->p[i]?=some x->∃u,v[i]?=some u/\Rep H x u
 | _,_,_,_,.nil,e=>by simp at e
 | _,_,0,_,.cons h _,e=>by simp at e;subst e;exact⟨_,rfl,h⟩
 | _,_,i+1,x,.cons _ r,e=>by
  obtain⟨u,h1,h2⟩:=aM.get (i:=i) (x:=x) r (by simpa using e);exact⟨u,by simpa using h1,h2⟩
theorem aM.append{H:Hp}:∀{p q:List PV}{v u:List V},aM H p v->aM H q u->aM H (p++q) (v++u)
 | _,_,_,_,.nil,s=>s
 |_,_,_,_,.cons h r,s=>.cons h (r.append s)
theorem aM.take{H:Hp}:∀{p:List PV}{v:List V}(n:Nat),aM H p v->aM H (p.take n) (v.take n)
 | _,_,0,_=>.nil
 | _,_,_+1,.nil=>.nil
 |_,_,n+1,.cons h r=>.cons h (r.take n)
theorem aM.drop{H:Hp}:∀{p:List PV}{v:List V}(n:Nat),aM H p v->aM H (p.drop n) (v.drop n)
 | _,_,0,r=>r
 | _,_,_+1,.nil=>.nil
 |_,_,n+1,.cons _ r=>r.drop n
theorem aM.set{H:Hp}{x:PV}{u:V}(h:Rep H x u):∀{p:List PV}{v:List V}(i:Nat),aM H p v->aM H (p.set i x) (v.set i u)
 | _,_,_,.nil=>.nil
 | _,_,0,.cons _ r=>.cons h r
 |_,_,i+1,.cons q r=>.cons q (r.set h i)
def aM.snoc{p:List PV}{v:List V}{x:PV}{u:V}(r:aM H p v)(h:Rep H x u):aM H (p++[x]) (v++[u]):=r.append (.cons h .nil)
theorem fS.look{H:Hp}{f:Str}:∀{p:List (Str×PV)}{v:List (Str×V)}{x:PV},fS H p v->p.lookup f=some x->∃u,v.lookup f=some u/\Rep H x u
 | _,_,_,.nil,e=>by simp at e
 | (n,_)::_,_,x,.cons h r,e=>by
  rw[MG] at e ⊢;cases q:f==n with
  | true=>rw[q] at e;cases e;exact⟨_,rfl,h⟩
  |false=>rw[q] at e;exact r.look e
theorem fS.none{H:Hp}{f:Str}:∀{p:List (Str×PV)}{v:List (Str×V)},fS H p v->p.lookup f=none->v.lookup f=none
 | _,_,.nil,_=>rfl
 | (n,_)::_,_,.cons h r,e=>by
  rw[MG] at e ⊢;cases q:f==n with
  | true=>rw[q] at e;cases e
  |false=>rw[q] at e;exact r.none e
theorem aM.DJ{H:Hp}:∀{ns:List Bool}{v:List V},aM H (ns.map PV.bl) v->v=ns.map V.bl
 | [],_,.nil=>rfl
 |_::_,_,.cons (.bl i) r=>by rw[r.DJ];rfl
structure bc (Hs H HV H':Hp):Prop where
 st:aZ Hs HV
 al:aZ H H'
 sub:aZ HV H'
 nw:∀a o,Hs a=none->H a=some o->(∀ws,o≠.tup ws)->HV a=none
variable{Hs:Hp}
def bc.refl(s:aZ Hs H):bc Hs H Hs H:=⟨λ_ _ e=>e,λ_ _ e=>e,s,λ_ _ e _ _=>e⟩
variable{Iq:Hp}
def bc.trans{H1 Im H2:Hp}(a:bc Hs H Iq H1)(b:bc Iq H1 Im H2):bc Hs H Im H2 :=
 ⟨λc o e=>b.st c o (a.st c o e),λc o e=>b.al c o (a.al c o e),b.sub,λc o e q t=>b.nw c o (a.nw c o e q t) (a.al c o q) t⟩
def bc.new{p:Addr}(s:aZ Hs H)(n:H p=none):bc Hs H (upd Hs p o) (upd H p o):=by
 have ne:∀c u,H c=some u->c≠p:=λc u e z=>by rw[z,n] at e;cases e
 refine⟨λc u e=>?_,λc u e=>?_,λc u e=>?_,λc u e q _=>?_⟩
 .rw[aq (ne c u (s c u e))];exact e
 .rw[aq (ne c u e)];exact e
 .by_cases z:c=p
  .subst z;rw[aw] at e ⊢;exact e
  .rw[aq z] at e ⊢;exact s c u e
 .rw[aq (ne c u q)];exact e
inductive SV where
 | sh (p:PV)
 | ow (xs:List PV)
 | bd (a C:Addr) (fs:List (Str×PV))
 | dw (IE:List (List Int×PV))
 |gh (p:PV) (v:V)
abbrev af:=List (Option SV)
def gA:SV->Bool
 | .sh _=>false
 | .gh _ _=>false
 |_=>true
def Ho(H₀ Hs H:Hp):SV->V->Prop
 | .sh p,v=>Rep Hs p v
 | .ow xs,v=>∃a vs,v=.ref a/\H a=some (.lst vs)/\Hs a=none/\H₀ a=none/\aM Hs xs vs
 | .bd a C fs,v=>∃dx vs,v=.ref a/\H a=some (.ins C dx vs)/\Hs a=none/\H₀ a=none/\fS Hs fs vs
 | .dw IE,v=>∃a us,v=.ref a/\H a=some (.dT us)/\Hs a=none/\H₀ a=none/\rL Hs IE us
 |.gh p u,v=>v=u/\Rep Hs p v
structure SR (B H₀ Hs H:Hp) (σ:St) (env:af):Prop where
 gr:bc B H₀ Hs H
 len:σ.length=env.length
 at_:∀(i:Nat)(x:SV),env[i]?=some (some x)->∃v,σ[i]?=some (some v)/\Ho H₀ Hs H x v
 ap:∀(i j:Nat)(x y:SV)(a:Addr),i≠j->env[i]?=some (some x)->env[j]?=some (some y)->gA x=true->gA y=true->σ[i]?=some (some (.ref a))->σ[j]?≠some (some (.ref a))
variable{H₀:Hp}
variable{j:Nat}
section
variable{B B' H₀' HV H':Hp}{σ':St}{env HS:af}{x:Option SV}{v:Option V}
theorem SR.sh(r:SR B H₀ Hs H σ env)(i:Nat)(p:PV)(e:env[i]?=some (some (.sh p))):∃v,σ[i]?=some (some v)/\Rep Hs p v:=r.at_ i _ e
theorem SR.ow(r:SR B H₀ Hs H σ env)(i:Nat)(xs:List PV)(e:env[i]?=some (some (.ow xs))):∃a vs,σ[i]?=some (some (.ref a))/\H a=some (.lst vs)/\Hs a=none/\H₀ a=none/\aM Hs xs vs :=
 let ⟨_,h1,a,vs,z,h⟩:=r.at_ i _ e;⟨a,vs,z▸h1,h⟩
theorem SR.bd(r:SR B H₀ Hs H σ env)(i:Nat)(a C:Addr)(fs:List (Str×PV))(e:env[i]?=some (some (.bd a C fs))):∃dx vs,σ[i]?=some (some (.ref a))/\H a=some (.ins C dx vs)/\Hs a=none/\H₀ a=none/\fS Hs fs vs :=
 let ⟨_,h1,dx,vs,z,h⟩:=r.at_ i _ e;⟨dx,vs,z▸h1,h⟩
def Ho.lD{x:SV}{v:V}(h:Ho H₀ Hs H x v)(o:gA x=true):∃a u,v=.ref a/\H a=some u/\Hs a=none/\H₀ a=none/\∀ws,u≠.tup ws:=by
 cases x with
 | sh p=>cases o
 | ow xs=>obtain⟨a,vs,z,h1,h2,h3,_⟩:=h;exact⟨a,_,z,h1,h2,h3,λ_=>nofun⟩
 | bd a C fs=>obtain⟨dx,vs,z,h1,h2,h3,_⟩:=h;exact⟨a,_,z,h1,h2,h3,λ_=>nofun⟩
 | dw IE=>obtain⟨a,vs,z,h1,h2,h3,_⟩:=h;exact⟨a,_,z,h1,h2,h3,λ_=>nofun⟩
 |gh p u=>cases o
theorem Ho.mono{x:SV}{v:V}(h:Ho H₀ Hs H x v)(s:aZ Hs HV)(k:∀a u,gA x=true->v=.ref a->H a=some u->Hs a=none->H₀ a=none->(∀ws,u≠.tup ws)->H' a=some u/\HV a=none/\H₀' a=none):Ho H₀' HV H' x v:=by
 cases x with
 | sh p=>exact Rep.mono s h
 | ow xs=>obtain⟨a,vs,z,h1,h2,h3,h4⟩:=h;obtain⟨q1,q2,q3⟩:=k a _ rfl z h1 h2 h3 (λ_=>nofun);exact⟨a,vs,z,q1,q2,q3,h4.mono s⟩
 | bd a C fs=>obtain⟨dx,vs,z,h1,h2,h3,h4⟩:=h;obtain⟨q1,q2,q3⟩:=k a _ rfl z h1 h2 h3 (λ_=>nofun);exact⟨dx,vs,z,q1,q2,q3,h4.mono s⟩
 | dw IE=>obtain⟨a,vs,z,h1,h2,h3,h4⟩:=h;obtain⟨q1,q2,q3⟩:=k a _ rfl z h1 h2 h3 (λ_=>nofun);exact⟨a,vs,z,q1,q2,q3,h4.mono s⟩
 |gh p u=>exact⟨h.1,Rep.mono s h.2⟩
def SR.mv(r:SR B H₀ Hs H σ env)(gr:bc B' H₀' HV H')(hl:σ'.length=HS.length)(s:aZ Hs HV)(c:∀(j:Nat)(x:SV),HS[j]?=some (some x)->env[j]?=some (some x)/\σ'[j]?=σ[j]?/\∀a u,gA x=true->σ[j]?=some (some (.ref a))->H a=some u->Hs a=none->H₀ a=none->(∀ws,u≠.tup ws)->H' a=some u/\HV a=none/\H₀' a=none):SR B' H₀' HV H' σ' HS where
 gr:=gr
 len:=hl
 at_:=λj x e=>by
  obtain⟨e1,e2,k⟩:=c j x e;obtain⟨v,h1,h2⟩:=r.at_ j x e1;exact⟨v,e2.trans h1,h2.mono s λa u o z=>k a u o (z▸h1)⟩
 ap:=λj k x y a n e1 e2 o1 o2=>by
  rw[(c j x e1).2.1,(c k y e2).2.1];exact r.ap j k x y a n (c j x e1).1 (c k y e2).1 o1 o2
def pZ{y:SV}(e:(env.set i x)[j]?=some (some y)):(i≠j/\env[j]?=some (some y))\/(i=j/\x=some y/\i<env.length):=by
 rw[M5] at e
 by_cases z:i=j
 .rw[if_pos z] at e
  split at e
  .exact .inr ⟨z,L8 e,by assumption⟩
  .cases e
 .rw[if_neg z] at e;exact .inl ⟨z,e⟩
def SR.chg(r:SR B H₀ Hs H σ env)(gr:bc B H₀ HV H')(s:aZ Hs HV)(new:∀y,x=some y->∃w,v=some w/\Ho H₀ HV H' y w)(kp:∀(j:Nat)(y:SV)(a:Addr)(u:HO),i≠j->env[j]?=some (some y)->gA y=true->σ[j]?=some (some (.ref a))->H a=some u->Hs a=none->(∀ws,u≠.tup ws)->H' a=some u/\HV a=none)(sp:∀y,x=some y->gA y=true->∀(k:Nat)(z:SV),i≠k->env[k]?=some (some z)->gA z=true->σ[k]?≠some v):SR B H₀ HV H' (σ.set i v) (env.set i x) where
 gr:=gr
 len:=by rw[OZ,OZ];exact r.len
 at_:=λj y e=>by
  rcases pZ e with ⟨n,e⟩|⟨rfl,e,l⟩
  .obtain⟨w,h1,h2⟩:=r.at_ j y e;refine⟨w,by rwa[M5,if_neg n],h2.mono s λa u o z q1 q2 q3 t=>?_⟩;obtain⟨p1,p2⟩:=kp j y a u n e o (z▸h1) q1 q2 t;exact⟨p1,p2,q3⟩
  .obtain⟨w,rfl,h⟩:=new y e;exact⟨w,by rw[M5,if_pos rfl,if_pos (by rwa[r.len])],h⟩
 ap:=λj k y z a n e1 e2 o1 o2 q1 q2=>by
  rw[M5] at q1 q2;rcases pZ e1 with ⟨n1,e1⟩|⟨rfl,e1,l⟩
  .rw[if_neg n1] at q1;rcases pZ e2 with ⟨n2,e2⟩|⟨rfl,e2,l⟩
   .rw[if_neg n2] at q2;exact r.ap j k y z a n e1 e2 o1 o2 q1 q2
   .rw[if_pos rfl,if_pos (by rwa[r.len])] at q2;exact sp z e2 o2 j y n1 e1 o1 (q1.trans q2.symm)
  .rw[if_pos rfl,if_pos (by rwa[r.len])] at q1;rcases pZ e2 with ⟨n2,e2⟩|⟨z2,_,_⟩
   .rw[if_neg n2] at q2;exact sp y e1 o1 k z n2 e2 o2 (q2.trans q1.symm)
   .exact n z2
def SR.B0(r:SR B H₀ Hs H σ env)(hv:σ[i]?=some v)(gr:bc B H₀ HV H')(s:aZ Hs HV)(new:∀y,x=some y->∃w,v=some w/\Ho H₀ HV H' y w)(kp:∀(j:Nat)(y:SV)(a:Addr)(u:HO),i≠j->env[j]?=some (some y)->gA y=true->σ[j]?=some (some (.ref a))->H a=some u->Hs a=none->(∀ws,u≠.tup ws)->H' a=some u/\HV a=none)(sp:∀y,x=some y->gA y=true->∀(k:Nat)(z:SV),i≠k->env[k]?=some (some z)->gA z=true->σ[k]?≠some v):SR B H₀ HV H' σ (env.set i x):=by
 have e:σ.set i v=σ:=List.ext_getElem? λj=>by
  rw[M5]
  by_cases z:i=j
  .subst z;rw[if_pos rfl,if_pos (MH.mp hv).1,hv]
  .rw[if_neg z]
 have:=r.chg gr s new kp sp
 rwa [e] at this
def SR.held{p:Addr}(r:SR B H₀ Hs H σ env)(n:H p=none):∀(j:Nat)(y:SV),env[j]?=some (some y)->gA y=true->σ[j]?≠some (some (.ref p)):=λj y e o z=>by
 obtain⟨v,h1,h2⟩:=r.at_ j y e;obtain⟨a,u,rfl,q,_⟩:=h2.lD o;rw[h1] at z;cases z;rw[n] at q;cases q
def SR.free{p:Addr}(r:SR B H₀ Hs H σ env)(n:H p=none):Hs p=none/\H₀ p=none:=by
 refine⟨?_,?_⟩
 .cases q:Hs p with
  | none=>rfl
  | some o=>have:=r.gr.sub _ _ q;rw[n] at this;cases this
 .cases q:H₀ p with
  | none=>rfl
  |some o=>have:=r.gr.al _ _ q;rw[n] at this;cases this
def bc.lD{p:Addr}(g:bc B H₀ Hs H)(h1:Hs p=none)(h2:H₀ p=none):bc B H₀ Hs (upd H p o) :=
 ⟨g.st,λc u q=>by rw[aq (λz=>by rw[z,h2] at q;cases q)];exact g.al c u q,λc u q=>by rw[aq (λz=>by rw[z,h1] at q;cases q)];exact g.sub c u q,g.nw⟩
def bc.into{p:Addr}(g:bc B H₀ Hs H)(h:H p=some o)(h1:Hs p=none)(h2:H₀ p=none):bc B H₀ (upd Hs p o) H/\aZ Hs (upd Hs p o):=by
 have st:aZ Hs (upd Hs p o):=λc u q=>by rwa[aq (λz=>by rw[z,h1] at q;cases q)]
 refine⟨⟨λc u q=>st c u (g.st c u q),g.al,λc u q=>?_,λc u q1 q2 q3=>?_⟩,st⟩
 .by_cases z:c=p
  .subst z;rw[aw] at q;rw[h,q]
  .rw[aq z] at q;exact g.sub c u q
 .rw[aq (λz=>by rw[z,h2] at q2;cases q2)];exact g.nw c u q1 q2 q3
def SR.grow(r:SR B H₀ Hs H σ env)(g:bc Hs H HV H'):SR B H₀ HV H' σ env :=
 r.mv (r.gr.trans g) r.len g.st λ_ _ e=>⟨e,rfl,λa u _ _ h1 h2 h3 t=>⟨g.al _ _ h1,g.nw _ _ h2 h1 t,h3⟩⟩
end
abbrev EX:=Addr×Option (List (Str×PV))
abbrev M(α:Type):=Option (Except EX α)
def M.ok{α:Type}(a:α):M α:=some (.ok a)
variable{α:Type}
noncomputable def M.bind{β:Type}(x:M α)(f:α->M β):M β:=match x with
 | some (.ok a)=>f a
 | some (.error e)=>some (.error e)
 |none=>none
instance:Monad M where
 pure:=M.ok
 bind:=M.bind
def ar(r:M α)(Q:α->Prop)(E:EX->Prop):Prop:=match r with
 | some (.ok a)=>Q a
 | some (.error e)=>E e
 |none=>False
variable{E':EX->Prop}
def ar.imp{r:M α}{Q Q':α->Prop}{E:EX->Prop}(h:ar r Q E)(hq:∀a,Q a->Q' a)(he:∀e,E e->E' e):ar r Q' E':=by
 cases r with
 | none=>exact h
 | some x=>cases x with
  | ok a=>exact hq a h
  |error e=>exact he e h
theorem ar.bind{α β:Type}{x:M α}{f:α->M β}{Q:β->Prop}{E:EX->Prop}(h:ar (x.bind f) Q E):ar x (λa=>ar (f a) Q E) E:=by
 cases x with
 | none=>exact h
 | some x=>cases x with
  | ok a=>exact h
  |error e=>exact h
def XW(E:XK)(Hs H:Hp)(x:EX):Prop:=∀ea HV H',bc Hs H HV H'->Rep HV (.exc x.1 x.2) (.ref ea)->E (.ref ea) none H'
def XW.grow{E:XK}{HV H':Hp}{x:EX}(h:XW E Hs H x)(g:bc Hs H HV H'):XW E HV H' x:=λea Im H2 g2 r=>h ea Im H2 (g.trans g2) r
def tE(E:St->XK)(f:af->M PV):TE:=fun σ H Q=>∃B H₀ Hs env,SR B H₀ Hs H σ env/\ar (f env) (λp=>∀v HV H',bc Hs H HV H'->Rep HV p v->Q v H') (XW (E σ) Hs H)
def PE.imp{t t':TE}(h:PE X e t)(i:∀σ H Q,t' σ H Q->t σ H Q):PE X e t':=λHQ s σ H Q I q=>h HQ s σ H Q I (i σ H Q q)
def me{f:af->M PV}{g:af->PV->M PV}{Q R:VK}(h:tE E (λenv=>(f env).bind (g env)) σ H Q)(k:∀B H₀ Hs H1 env p v,SR B H₀ Hs H1 σ env->Rep Hs p v->ar (g env p) (λq=>∀u HV H',bc Hs H1 HV H'->Rep HV q u->Q u H') (XW (E σ) Hs H1)->R v H1):tE E f σ H R:=by
 obtain⟨B,H₀,Hs,env,sr,h⟩:=h;refine⟨B,H₀,Hs,env,sr,(ar.bind h).imp (λp hp v HV H' g r=>?_) λe he=>he⟩;exact k B H₀ HV H' env p v (sr.grow g) r (hp.imp (λq hq u Im H2 g2 r2=>hq u Im H2 (g.trans g2) r2) λe he=>he.grow g)
def u7{f g:af->M PV}{op:PV->PV->M PV}{r:R2}{Q:VK}(h:tE E (λenv=>(f env).bind λp=>(g env).bind λq=>op p q) σ H Q)(k:∀Hs H1 p q v u,aZ Hs H1->Rep Hs p v->Rep Hs q u->ar (op p q) (λz=>∀w HV H',bc Hs H1 HV H'->Rep HV z w->Q w H') (XW (E σ) Hs H1)->r v u H1 Q):Ee r (tE E f) (tE E g) σ H Q:=by
 refine me h λB H₀ Hs H1 env p v sr rp hp=>?_;refine⟨B,H₀,Hs,env,sr,(ar.bind hp).imp (λq hq u HV H' g ru=>?_) λe he=>he⟩;exact k HV H' p q v u (sr.grow g).gr.sub (rp.mono g.st) ru (hq.imp (λz hz w Im H2 g2 r2=>hz w Im H2 (g.trans g2) r2) λe he=>he.grow g)
def EW{f:af->M PV}{op:PV->M PV}{r:V->Hp->VK->Prop}{Q:VK}(h:tE E (λenv=>(f env).bind op) σ H Q)(k:∀Hs H1 p v,aZ Hs H1->Rep Hs p v->ar (op p) (λz=>∀w HV H',bc Hs H1 HV H'->Rep HV z w->Q w H') (XW (E σ) Hs H1)->r v H1 Q):Hj r (tE E f) σ H Q :=
 me h λB H₀ Hs H1 env p v sr rp hp=>k Hs H1 p v sr.gr.sub rp hp
def Cs(sp:Sp)(IH:List V)(E:St->XK)(t:TA):TE:=fun σ H Q=>t σ H λvs H1=>sp (vs++IH) H1 Q (E σ)
def BZ(C:Addr)(m:Str)(sp:Sp)(IH:List V)(E:St->XK)(ta:TE)(t:TA):TE:=fun σ H Q=>ta σ H λx H1=>∃a dx fs,x=.ref a/\H1 a=some (.ins C dx fs)/\fs.lookup m=none ∧
 t σ H1 λvs H2=>sp (x::(vs++IH)) H2 Q (E σ)
def Cz(C:Addr)(sp:Sp)(IH:List V)(E:St->XK)(t:TA):TE:=fun σ H Q=>t σ H λvs H1=>∀x dx,H1 x=none->H1 dx=none->dx≠x ->
 sp (.ref x::(vs++IH)) (upd (upd H1 dx (.own x)) x (.ins C dx [])) (λv H2=>v=.bz/\Q (.ref x) H2) (E σ)
variable{IH:List V}
variable{vs:List V}{us:List Value}
variable{pl:Sem Bool}
section
variable{p:Pos}{o:Expr}
def pM{Q:VK}(F:aT X.prog X.w X.K X.mg X.base (bB X.prog X.w) k f fd ps sp)(hr:bD k X.A)(hb:Binds X.K fd ps ds)(hd:Vals IH ds)(hx:dh X E)(I:Inv X HQ σ H s)(r:Vals vs us)(h:sp (vs++IH) H Q (E σ)):wpAny ↑8 X.A (call (.ref f) us) (EP X HQ σ Q) X.xe s:=by
 have r2:Vals (vs++IH) (us++ds):=r.append hd;have hl:(us++ds).length=ps.length:=by rw[<- r2.length];exact F.len _ _ _ _ h
 refine Oh (N3 (F.run X.A X.stack s H ⟨us,[]⟩ (us++ds) (vs++IH) Q (E σ) hr I.i_ (hb s us I.h9 hl) r2 h) λr s' hq=>?_);cases r with
 | error e=>exact hx.pass HQ σ H s e s' I hq
 | ok fl =>
  cases fl with
  | ret u=>exact I.after hq
  | next=>exact Mx hq
  | brk=>exact Mx hq
  |cont=>exact Mx hq
def xM(F:aT X.prog X.w X.K X.mg X.base (bB X.prog X.w) k f fd ps sp)(hr:bD k X.A)(hg:Gl X x)(hm:X.mg x=some (.ref f))(hk:Mi X.K (.ref f)=true)(hb:Binds X.K fd ps ds)(hd:Vals IH ds)(hx:dh X E)(ha:PA X (e::es) t)(IF:autoParam ↑7 aD._auto_1)(he:autoParam ↑0 aR._auto_1)(Iu:autoParam ↑2 aR._auto_1):PE X (.Call (.Name x p) (e::es) [] pos) (Cs sp IH E t):=by
 intro HQ s σ H Q I h;refine MQ (f_ I hg hm ?_ IF);refine Nx (h₀:=X.base) I.ok.mod.zq hk (cH (ha pos HQ s σ H _ I h) λus s1 ⟨vs,H1,I1,r,q⟩=>⟨I1.h9,?_⟩) he Iu;exact pM F hr hb hd hx I1 r q
def wJ(he:PE X o ta)(c:ot X.K C)(hm:Meth X.K C m f)(F:aT X.prog X.w X.K X.mg X.base (bB X.prog X.w) k f fd ps sp)(hr:bD k X.A)(hb:Binds X.K fd ps ds)(hd:Vals IH ds)(hx:dh X E)
  (ht:autoParam (eval (.Call (.Attribute o m apos) [] [] pos) X.env=(do
   let ov <- eval o X.env
   standAt apos.atName
   let (f,first) <- holding [ov] (getMethod ov m pl)
   callWith pos f first (backTo pos (starEach [] X.env)) (backToKw pos (keywordEach [] X.env)))) aR._auto_1) :
  PE X (.Call (.Attribute o m apos) [] [] pos) (BZ C m sp IH E ta DR):=by
 intro HQ s σ H Q I h;refine PySem.W.methodCall_KW (pl:=pl) (cH (he HQ s σ H _ I h) λu s1 ⟨x,H1,I1,rx,a,dx,fs,ex,ea,l,q⟩=>?_) ht;subst ex;obtain rfl:u=LS a:=rx;refine sZ I1 ea c hm l ?_;exact PySem.W.callWith_K0 (first:=[.ref a]) I1.h9 hm.kp (pM (us:=[.ref a]) (vs:=[.ref a]) F hr hb hd hx I1 (.cons rfl .nil) q)
def vz{Q:VK}(M:Mk X.K C f)(F:aT X.prog X.w X.K X.mg X.base (bB X.prog X.w) k f fd ps sp)(hr:bD (k+1) X.A)(hb:Binds X.K fd ps ds)(hd:Vals IH ds)(hx:dh X E)(I:Inv X HQ σ H s)(r:Vals vs us)(h:∀x dx,H x=none->H dx=none->dx≠x->sp (.ref x::(vs++IH)) (upd (upd H dx (.own x)) x (.ins C dx [])) (λv H2=>v=.bz/\Q (.ref x) H2) (E σ)):wpAny ↑8 X.A (call (.ref C) us) (EP X HQ σ Q) X.xe s:=by
 have hq:=h (s.heap.objs.size+1) s.heap.objs.size (I.bf.fresh (OU _)) (I.bf.fresh (LR _)) (L7 (M_ _));have I2:=Inv.made (C:=C) I;have r2:Vals (V.ref (s.heap.objs.size+1)::(vs++IH)) (LS (s.heap.objs.size+1)::(us++ds)):=.cons rfl (r.append hd);have hl:(LS (s.heap.objs.size+1)::us++ds).length=ps.length:=by
  have e:=r2.length;rw[F.len _ _ _ _ hq] at e;exact e.symm
 refine Oh (xw (f:=f) I.h9 M.makes M.init (beq_iff_eq.mp M.fn) (N3 (F.run _ X.stack _ _ ⟨LS (s.heap.objs.size+1)::us,[]⟩ (LS (s.heap.objs.size+1)::(us++ds)) _ _ (E σ) (hr.make C us [])
  (I2.i_.make C us []) (hb _ (LS (s.heap.objs.size+1)::us) I2.h9 hl) r2 hq) λr s' Kn=>?_))
 cases r with
 | error e=>exact hx.pass HQ σ _ _ e s' I2 Kn
 | ok fl =>
  cases fl with
  | ret u =>
   obtain⟨v,H',I3,rv,ev,q3⟩:=I2.after Kn;subst ev;exact⟨rv,⟨V.ref (s.heap.objs.size+1),H',I3,rfl,q3⟩⟩
  | next=>exact Mx Kn
  | brk=>exact Mx Kn
  |cont=>exact Mx Kn
def xG(M:Mk X.K C f)(F:aT X.prog X.w X.K X.mg X.base (bB X.prog X.w) k f fd ps sp)(hr:bD (k+1) X.A)(hg:Gl X x)(hm:X.mg x=some (.ref C))(hb:Binds X.K fd ps ds)(hd:Vals IH ds)(hx:dh X E)(ha:PA X (e::es) t)(IF:autoParam ↑7 aD._auto_1)(he:autoParam ↑0 aR._auto_1)(Iu:autoParam ↑2 aR._auto_1):PE X (.Call (.Name x p) (e::es) [] pos) (Cz C sp IH E t):=by
 intro HQ s σ H Q I h;refine MQ (f_ I hg hm ?_ IF);refine Nx (h₀:=X.base) I.ok.mod.zq M.kp (cH (ha pos HQ s σ H _ I h) λus s1 ⟨vs,H1,I1,r,q⟩=>⟨I1.h9,?_⟩) he Iu;exact vz M F hr hb hd hx I1 r q
end
abbrev dX(Hs H:Hp)(Q:VK):PV->Prop:=λz=>∀w HV H',bc Hs H HV H'->Rep HV z w->Q w H'
variable{p:PV}
def dX.flat{Q:VK}(h:dX Hs H Q p)(s:aZ Hs H)(r:Rep Hs p v):Q v H:=h v Hs H (.refl s) r
theorem dX.tup{Hs H:Hp}{Q:VK}{xs:List PV}{vs:List V}(h:dX Hs H Q (.tup xs))(s:aZ Hs H)(r:aM Hs xs vs):∀p,H p=none->Q (.ref p) (upd H p (.tup vs)) :=
 λp n=>h _ (upd Hs p (.tup vs)) _ (bc.new s n) (.tup aw (r.mono (bc.new s n).st))
theorem dX.lst{Hs H:Hp}{Q:VK}{xs:List PV}{vs:List V}(h:dX Hs H Q (.lst xs))(s:aZ Hs H)(r:aM Hs xs vs):∀p,H p=none->Q (.ref p) (upd H p (.lst vs)) :=
 λp n=>h _ (upd Hs p (.lst vs)) _ (bc.new s n) (.lst aw (r.mono (bc.new s n).st))
namespace HT
def yT{prog:Program}{w:World}{A:Around}{E:Value->Shared->Prop}{s:Shared}{t b:Addr}{ws:List Value}{Q:Value->Shared->Prop}(ht:IsTup s.heap t #[])(hb:IsTup s.heap b ws.toArray)(h1:Q (.ref b) s):wpAny ↑11 A (binaryOp .Add (.ref t) (.ref b)) Q E s:=by
 obtain⟨⟨cls,dd,data,sl⟩,ho,hc,n,hd⟩:=id ht;obtain⟨⟨cls2,La,data2,sl2⟩,J7,Lg,n2,hd2⟩:=id hb;simp only at hc hd Lg hd2;subst hc hd Lg hd2;exact Rh ⟨_,ho,rfl⟩ ⟨_,J7,rfl⟩ PJ QD Oz Oi (N_ _ _)
   (tuple_addW0 t b #[] ws.toArray n n2 dd La sl sl2 rfl) ⟨ho,J7,h1⟩
end HT
def xy(K:LI):R2:=λx y H Q=>∃a b ys,x=.ref a/\y=.ref b/\gB K H a []/\gB K H b ys/\Q (.ref b) H
def x6:gc X (binaryOp .Add) (xy X.K):=by
 intro HQ s σ H x y v u Q I rx ry h;obtain⟨a,b,ys,rfl,rfl,ha,hb,q1⟩:=h;cases rx;cases ry;obtain⟨HW,r1,p1,_⟩:=I.tuple ha;obtain⟨JU,r2,p2,_⟩:=I.tuple hb;have e:HW=[]:=r1.j7.mpr rfl;subst e;exact HT.yT p1 p2 ⟨.ref b,H,I,rfl,q1⟩
def cX(c:Prop)[Decidable c](x:M α):M α:=if c then x else none
theorem ar.cX{α:Type}{c:Prop}[Decidable c]{x:M α}{Q:α->Prop}{E:EX->Prop}(h:ar (L2.cX c x) Q E):c/\ar x Q E:=by
 unfold L2.cX at h
 by_cases hc:c
 .rw[if_pos hc] at h;exact⟨hc,h⟩
 .rw[if_neg hc] at h;exact h.elim
def fJ(o:Option PV):M PV:=match o with
 | some x=>M.ok x
 |none=>none
def ar.opt{o:Option PV}{Q:PV->Prop}{E:EX->Prop}(h:ar (fJ o) Q E):∃x,o=some x/\Q x:=by
 cases o with
 | none=>exact h.elim
 |some x=>exact⟨x,rfl,h⟩
variable{op:CmpOp}
section
variable{a b:Expr}{f g h:af->M PV}
def ae(i:Nat)(env:af):M PV:=match env[i]? with
 | some (some (.sh p))=>M.ok p
 |_=>none
def dG(hN:X.N[i]?=some x)(hv:p4 X.env.scope x)(hd:autoParam ↑7 aD._auto_1)(II:autoParam ↑6 aD._auto_1):PE X (.Name x pos) (tE E (ae i)):=by
 refine(jI hN hv hd II).imp fun σ H Q q=>?_;obtain⟨B,H₀,Hs,env,sr,q⟩:=q;unfold ae at q
 split at q
 .rename_i p e;obtain⟨v,h1,h2⟩:=sr.sh i p e;exact⟨v,h1,dX.flat q sr.gr.sub h2⟩
 .exact q.elim
def kf(he:PE X e (tC v))(r:∀H,Rep H p v):PE X e (tE E λ_=>M.ok p):=by
 refine he.imp fun σ H Q q=>?_;obtain⟨B,H₀,Hs,env,sr,q⟩:=q;exact dX.flat q sr.gr.sub (r Hs)
def yc{i:Int}:PE X (.Constant (.int i) j pos) (tE E λ_=>M.ok (.int i)):=kf B8 λ_=>.int i
def DX{i:Bool}:PE X (.Constant (.bool i) j pos) (tE E λ_=>M.ok (.bl i)):=kf EZ λ_=>.bl i
def BF:PE X (.Constant .none j pos) (tE E λ_=>M.ok .bz):=kf C_ λ_=>.bz
def Cy{i:Str}:PE X (.Constant (.str i) j pos) (tE E λ_=>M.ok (.str i)):=kf Dx λ_=>.str i
def ak(op:PV->PV->M PV)(f g:af->M PV):af->M PV:=λenv=>(f env).bind λp=>(g env).bind λq=>op p q
def jZ(E:St->XK)(r:R2)(op:PV->PV->M PV):Prop:=∀(σ:St)(Hs H:Hp)(p q:PV)(v u:V)(Q:VK),aZ Hs H->Rep Hs p v->Rep Hs q u->ar (op p q) (dX Hs H Q) (XW (E σ) Hs H)->r v u H Q
def lb{op:Operator}{r:R2}{o:PV->PV->M PV}(ho:gc X (binaryOp op) r)(hv:jZ E r o)(ha:PE X a (tE E f))(hb:PE X b (tE E g)):PE X (.BinOp a op b pos) (tE E (ak o f g)) :=
 (E_ ho ha hb).imp fun σ H Q q=>u7 q λHs H1 p q v u s rp rq h=>hv σ Hs H1 p q v u Q s rp rq h
def jB{r:R2}{o:PV->PV->M PV}(ho:gc X (compareOp op) r)(hv:jZ E r o)(ha:PE X a (tE E f))(hb:PE X b (tE E g))(hm:behindInMarks op b=false):PE X (.Compare a [op] [b] pos) (tE E (ak o f g)) :=
 (zX ho ha hb hm).imp fun σ H Q q=>u7 q λHs H1 p q v u s rp rq h=>hv σ Hs H1 p q v u Q s rp rq h
def dC:PV->PV->M PV
 | .int i,.int j=>M.ok (.int (i+j))
 | .str x,.str y=>cX (x.length+y.length<=sizeLine) (M.ok (.str (x++y)))
 | .tup xs,.tup ys=>cX (xs.length+ys.length<=sizeLine) (M.ok (.tup (xs++ys)))
 | .lst xs,.lst ys=>cX (xs.length+ys.length<=sizeLine) (M.ok (.lst (xs++ys)))
 |_,_=>none
def A8(K:LI):R2:=λx y H Q=>(∃i j,x=.int i/\y=.int j/\Q (.int (i+j)) H)\/(∃i j,x=.str i/\y=.str j/\i.length+j.length<=sizeLine/\Q (.str (i++j)) H)\/Bb K x y H Q\/DS x y H Q\/xy K x y H Q
def zv:gc X (binaryOp .Add) (A8 X.K):=gc.or CA (gc.or tH (gc.or zA (gc.or CD x6)))
def DA{K:LI}:jZ E (A8 K) dC:=by
 intro σ Hs H p q v u Q s rp rq h;cases rp with
 | int i=>cases rq with
  | int j=>exact .inl ⟨i,j,rfl,rfl,dX.flat h s (.int _)⟩
  | _=>exact h.elim
 | str i=>cases rq with
  | str j =>
   obtain⟨hz,h⟩:=ar.cX h;exact .inr (.inl ⟨i,j,rfl,rfl,hz,dX.flat h s (.str _)⟩)
  | _=>exact h.elim
 | @tup a xs vs ha hx=>cases rq with
  | @tup b ys us hb hy =>
   obtain⟨hz,h⟩:=ar.cX h;cases hx with
   | nil=>exact .inr (.inr (.inr (.inr ⟨a,b,us,rfl,rfl,gB.of (s _ _ ha),gB.of (s _ _ hb),dX.flat h s (.tup hb hy)⟩)))
   | cons K7 Jp =>
    have hx:=aM.cons K7 Jp;refine .inr (.inr (.inl ⟨a,b,_,us,rfl,rfl,gB.of (s _ _ ha),gB.of (s _ _ hb),(λz=>nomatch z),by rwa[<- hx.length,<- hy.length],λz=>?_,λz=>dX.tup h s (hx.append hy)⟩));have e:ys=[]:=by cases hy with|nil=>rfl|cons _ _=>cases z
    subst e;rw[MK] at h;exact dX.flat h s (.tup ha hx)
  | _=>exact h.elim
 | @lst a xs vs ha hx=>cases rq with
  | @lst b ys us hb hy =>
   obtain⟨hz,h⟩:=ar.cX h;exact .inr (.inr (.inr (.inl ⟨a,b,vs,us,rfl,rfl,s _ _ ha,s _ _ hb,by rwa[<- hx.length,<- hy.length],dX.lst h s (hx.append hy)⟩)))
  | _=>exact h.elim
 |_=>exact h.elim
def tD(c:Int->Int->Bool)(o:Int->Int->Int):PV->PV->M PV
 | .int i,.int j=>cX (c i j=true) (M.ok (.int (o i j)))
 |_,_=>none
def tY{C:Int->Int->Prop}{c:Int->Int->Bool}{o:Int->Int->Int}(hc:∀i j,c i j=true->C i j):jZ E (rI C λi j=>.int (o i j)) (tD c o):=by
 intro σ Hs H p q v u Q s rp rq h;cases rp with
 | int i=>cases rq with
  | int j =>
   obtain⟨hz,h⟩:=ar.cX h;exact⟨i,j,rfl,rfl,hc i j hz,dX.flat h s (.int _)⟩
  | _=>exact h.elim
 |_=>exact h.elim
def jN:PV->PV->M PV
 | .int i,.int j=>M.ok (.int (i-j))
 |_,_=>none
def DD:jZ E (uN λi j=>.int (i-j)) jN:=by
 intro σ Hs H p q v u Q s rp rq h;cases rp with
 | int i=>cases rq with
  | int j=>exact⟨i,j,rfl,rfl,dX.flat h s (.int _)⟩
  | _=>exact h.elim
 |_=>exact h.elim
def zk(o:Int->Int->Bool):PV->PV->M PV
 | .int i,.int j=>M.ok (.bl (o i j))
 |_,_=>none
def qv{o:Int->Int->Bool}:jZ E (uN λi j=>.bl (o i j)) (zk o):=by
 intro σ Hs H p q v u Q s rp rq h;cases rp with
 | int i=>cases rq with
  | int j=>exact⟨i,j,rfl,rfl,dX.flat h s (.bl _)⟩
  | _=>exact h.elim
 |_=>exact h.elim
def aO:PV->PV->M PV
 | .tup xs,.int i=>fJ (qG xs i)
 | .lst xs,.int i=>fJ (qG xs i)
 | .eS xs,.int i=>fJ (qG xs i)
 | .str z,.int i=>cX (z.length<=sizeLine) (fJ ((qG z.cps.toList i).map λc=>.str ⟨#[c]⟩))
 |_,_=>none
theorem aM.qG{H:Hp}{xs:List PV}{vs:List V}{i:Int}{x:PV}(r:aM H xs vs)(e:L2.qG xs i=some x):∃v,L2.qG vs i=some v/\Rep H x v:=by
 unfold L2.qG at e ⊢;rw[<- r.length];obtain⟨j,h1,h2⟩:=Ng.mp e;obtain⟨v,h3,h4⟩:=r.get h2;exact⟨v,by rwa[h1],h4⟩
def BB{K:LI}:jZ E (G7 K) aO:=by
 intro σ Hs H p q v u Q s rp rq h;cases rp with
 | @tup a xs vs ha hx=>cases rq with
  | int i =>
   obtain⟨x,ex,h⟩:=ar.opt h;obtain⟨v,h1,h2⟩:=hx.qG ex;exact .inr (.inl ⟨a,vs,i,v,rfl,rfl,gB.of (s _ _ ha),h1,dX.flat h s h2⟩)
  | _=>exact h.elim
 | @lst a xs vs ha hx=>cases rq with
  | int i =>
   obtain⟨x,ex,h⟩:=ar.opt h;obtain⟨v,h1,h2⟩:=hx.qG ex;exact .inl ⟨a,vs,i,v,rfl,rfl,gR.of (s _ _ ha),h1,dX.flat h s h2⟩
  | _=>exact h.elim
 | @eS a o xs vs ha hx=>cases rq with
  | int i =>
   obtain⟨x,ex,h⟩:=ar.opt h;obtain⟨v,h1,h2⟩:=hx.qG ex;exact .inl ⟨a,vs,i,v,rfl,rfl,.inl (.inr ⟨o,s _ _ ha⟩),h1,dX.flat h s h2⟩
  | _=>exact h.elim
 | str z=>cases rq with
  | int i =>
   obtain⟨hz,h⟩:=ar.cX h;obtain⟨x,ex,h⟩:=ar.opt h;obtain⟨c,ec,rfl⟩:=LP.mp ex;exact .inr (.inr ⟨z,i,c,rfl,rfl,hz,ec,dX.flat h s (.str _)⟩)
  | _=>exact h.elim
 |_=>exact h.elim
def C9(ha:PE X a (tE E f))(hb:PE X b (tE E g))(hs:qz b):PE X (.Subscript a b pos) (tE E (ak aO f g)) :=
 (Eb CN ha hb hs).imp fun σ H Q q=>u7 q λHs H1 p q v u s rp rq h=>BB σ Hs H1 p q v u Q s rp rq h
end
def tG(E:St->XK)(f:af->M α)(K:Hp->Hp->α->Prop):St->Hp->Prop:=fun σ H=>∃B H₀ Hs env,SR B H₀ Hs H σ env/\ar (f env) (K Hs H) (XW (E σ) Hs H)
def KG(K:Hp->Hp->α->Prop):Prop:=∀Hs H HV H' b,K Hs H b->bc Hs H HV H'->K HV H' b
abbrev KB(Q:Bool->Hp->Prop):Hp->Hp->Bool->Prop:=λHs H k=>∀HV H',bc Hs H HV H'->Q k H'
abbrev ja(Q:VK):Hp->Hp->PV->Prop:=λHs H p=>dX Hs H Q p
abbrev KL(Q:List V->Hp->Prop):Hp->Hp->List PV->Prop:=λHs H ps=>∀vs HV H',bc Hs H HV H'->aM HV ps vs->Q vs H'
theorem KB.g{Q:Bool->Hp->Prop}:KG (KB Q):=λHs H HV H' b k g Im H2 g2=>k Im H2 (g.trans g2)
theorem ja.g{Q:VK}:KG (ja Q):=λHs H HV H' b k g w Im H2 g2 r=>k w Im H2 (g.trans g2) r
theorem KL.g{Q:List V->Hp->Prop}:KG (KL Q):=λHs H HV H' b k g w Im H2 g2 r=>k w Im H2 (g.trans g2) r
def tT(E:St->XK)(f:af->M Bool):TT:=fun σ H Q=>tG E f (KB Q) σ H
def tL(E:St->XK)(f:af->M (List PV)):TA:=fun σ H Q=>tG E f (KL Q) σ H
def PT.imp{t t':TT}(h:PT X e t)(i:∀σ H Q,t' σ H Q->t σ H Q):PT X e t':=λHQ s σ H Q I q=>h HQ s σ H Q I (i σ H Q q)
def PW.imp{t t':TT}(h:PW X e t)(i:∀σ H Q,t' σ H Q->t σ H Q):PW X e t':=λw HQ s σ H Q I q=>h w HQ s σ H Q I (i σ H Q q)
def PA.imp{e:List Expr}{t':TA}(h:PA X e t)(i:∀σ H Q,t' σ H Q->t σ H Q):PA X e t':=λw HQ s σ H Q I q=>h w HQ s σ H Q I (i σ H Q q)
section
variable{β:Type}{K:Hp->Hp->β->Prop}
def b_{f:af->M PV}{g:af->PV->M β}{R:VK}(kg:KG K)(h:tG E (λenv=>(f env).bind (g env)) K σ H)(k:∀B H₀ Hs H1 env p v,SR B H₀ Hs H1 σ env->Rep Hs p v->ar (g env p) (K Hs H1) (XW (E σ) Hs H1)->R v H1):tE E f σ H R:=by
 obtain⟨B,H₀,Hs,env,sr,h⟩:=h;refine⟨B,H₀,Hs,env,sr,(ar.bind h).imp (λp hp v HV H' g r=>?_) λe he=>he⟩;exact k B H₀ HV H' env p v (sr.grow g) r (hp.imp (λq hq=>kg _ _ _ _ q hq g) λe he=>he.grow g)
def ny{f:af->M Bool}{g:af->Bool->M β}{R:Bool->Hp->Prop}(kg:KG K)(h:tG E (λenv=>(f env).bind (g env)) K σ H)(k:∀B H₀ Hs H1 env p,SR B H₀ Hs H1 σ env->ar (g env p) (K Hs H1) (XW (E σ) Hs H1)->R p H1):tT E f σ H R:=by
 obtain⟨B,H₀,Hs,env,sr,h⟩:=h;refine⟨B,H₀,Hs,env,sr,(ar.bind h).imp (λp hp HV H' g=>?_) λe he=>he⟩;exact k B H₀ HV H' env p (sr.grow g) (hp.imp (λq hq=>kg _ _ _ _ q hq g) λe he=>he.grow g)
def dQ{f:af->M (List PV)}{g:af->List PV->M β}{R:List V->Hp->Prop}(kg:KG K)(h:tG E (λenv=>(f env).bind (g env)) K σ H)(k:∀B H₀ Hs H1 env p v,SR B H₀ Hs H1 σ env->aM Hs p v->ar (g env p) (K Hs H1) (XW (E σ) Hs H1)->R v H1):tL E f σ H R:=by
 obtain⟨B,H₀,Hs,env,sr,h⟩:=h;refine⟨B,H₀,Hs,env,sr,(ar.bind h).imp (λp hp v HV H' g r=>?_) λe he=>he⟩;exact k B H₀ HV H' env p v (sr.grow g) r (hp.imp (λq hq=>kg _ _ _ _ q hq g) λe he=>he.grow g)
end
def ui:PV->M Bool
 | .bl b=>M.ok b
 |_=>none
def bO(f:af->M PV):af->M Bool:=λenv=>(f env).bind ui
def ar.Fq{Q:Bool->Prop}{E:EX->Prop}(h:ar (ui p) Q E):∃b,p=.bl b/\Q b:=by
 cases p with
 | bl b=>exact⟨b,rfl,h⟩
 |_=>exact h.elim
variable{r:List V->Hp->VK->Prop}
section
variable{a b:Expr}{f g h:af->M PV}{u v:af->M Bool}{rest:List Expr}
def mX{Q:Bool->Hp->Prop}(q:tT E (bO f) σ H Q):tB (tE E f) σ H Q:=by
 refine b_ KB.g q λB H₀ Hs H1 env p v sr rp hp=>?_;obtain⟨k,rfl,hp⟩:=ar.Fq hp;cases rp;exact⟨k,rfl,hp Hs H1 (.refl sr.gr.sub)⟩
def pS(he:PE X e (tE E f))(hw:autoParam (∀whole,isTrue e X.env whole=(do let v <- whole;standAt e.pos;holding [v] (truthy v))) aI._auto_1):PT X e (tT E (bO f)) :=
 (DG he hw).imp fun σ H Q q=>mX q
def jU{r:R2}{o:PV->PV->M PV}(ho:gc X (compareOp op) r)(hv:jZ E r o)(ha:PE X a (tE E f))(hb:PE X b (tE E g))(hm:behindInMarks op b=false):PT X (.Compare a [op] [b] pos) (tT E (bO (ak o f g))):=by
 refine(z7 ho ha hb hm).imp fun σ H Q q=>?_;have q':=mX q;exact u7 q' λHs H1 p q v u s rp rq h=>hv σ Hs H1 p q v u _ s rp rq h
def cm(u:af->M Bool):af->M Bool:=λenv=>(u env).bind λb=>M.ok (!b)
def mw(u v:af->M Bool):af->M Bool:=λenv=>(u env).bind λb=>if b=true then v env else M.ok false
def ux(u v:af->M Bool):af->M Bool:=λenv=>(u env).bind λb=>if b=true then M.ok true else v env
def Dl(ha:PT X a (tT E u)):PT X (.UnaryOp .Not a pos) (tT E (cm u)) :=
 (Dg ha).imp fun σ H Q q=>ny KB.g q λB H₀ Hs H1 env p sr hp=>hp Hs H1 (.refl sr.gr.sub)
def j8(ha:PT X a (tT E u)):PW X (.BoolOp .And [a] pos) (tT E u):=pw_and1 ha
def gU(ha:PT X a (tT E u)):PW X (.BoolOp .Or [a] pos) (tT E u):=pw_or1 ha
def nW(ha:PT X a (tT E u))(hb:PW X (.BoolOp .And (b::rest) pos) (tT E v)):PW X (.BoolOp .And (a::b::rest) pos) (tT E (mw u v)):=by
 refine(pw_and ha hb).imp fun σ H Q q=>ny KB.g q λB H₀ Hs H1 env p sr hp=>?_;cases p with
 | true=>exact⟨B,H₀,Hs,env,sr,hp⟩
 |false=>exact hp Hs H1 (.refl sr.gr.sub)
def jv(ha:PT X a (tT E u))(hb:PW X (.BoolOp .Or (b::rest) pos) (tT E v)):PW X (.BoolOp .Or (a::b::rest) pos) (tT E (ux u v)):=by
 refine(pw_or ha hb).imp fun σ H Q q=>ny KB.g q λB H₀ Hs H1 env p sr hp=>?_;cases p with
 | true=>exact hp Hs H1 (.refl sr.gr.sub)
 |false=>exact⟨B,H₀,Hs,env,sr,hp⟩
def Aa(f:af->M PV):af->M PV:=λenv=>(f env).bind λp=>(ui p).bind λb=>M.ok (.bl (!b))
def oz(f g:af->M PV):af->M PV:=λenv=>(f env).bind λp=>(ui p).bind λb=>if b=true then g env else M.ok (.bl false)
def HM(f g:af->M PV):af->M PV:=λenv=>(f env).bind λp=>(ui p).bind λb=>if b=true then M.ok (.bl true) else g env
def yQ(ha:PE X a (tE E f)):PE X (.UnaryOp .Not a pos) (tE E (Aa f)):=by
 refine(C0 ha).imp fun σ H Q q=>b_ (K:=ja Q) ja.g q λB H₀ Hs H1 env p v sr rp hp=>?_;obtain⟨k,rfl,hp⟩:=ar.Fq (ar.bind hp);cases rp;exact⟨k,rfl,dX.flat hp sr.gr.sub (.bl _)⟩
def jG(ha:PE X a (tE E f))(hb:PE X (.BoolOp .And (b::rest) pos) (tE E g)):PE X (.BoolOp .And (a::b::rest) pos) (tE E (oz f g)):=by
 refine(Cv ha hb).imp fun σ H Q q=>b_ (K:=ja Q) ja.g q λB H₀ Hs H1 env p v sr rp hp=>?_;obtain⟨k,rfl,hp⟩:=ar.Fq (ar.bind hp);cases rp;refine⟨k,rfl,?_⟩;cases k with
 | true=>exact⟨B,H₀,Hs,env,sr,hp⟩
 |false=>exact dX.flat hp sr.gr.sub (.bl _)
def Gg(u:af->M Bool)(f g:af->M PV):af->M PV:=λenv=>(u env).bind λb=>if b=true then f env else g env
def ai:af->M (List PV):=λ_=>M.ok []
def aa(f:af->M PV)(fs:af->M (List PV)):af->M (List PV):=λenv=>(f env).bind λp=>(fs env).bind λps=>M.ok (p::ps)
variable{fs:af->M (List PV)}
def jF:PA X [] (tL E ai):=by
 refine e9.imp fun σ H Q q=>?_;obtain⟨B,H₀,Hs,env,sr,q⟩:=q;exact q [] Hs H (.refl sr.gr.sub) .nil
def cA(ha:PE X e (tE E f))(hr:PA X es (tL E fs))(hs:autoParam ↑0 aR._auto_1):PA X (e::es) (tL E (aa f fs)):=by
 refine(bM ha hr hs).imp fun σ H Q q=>b_ (K:=KL Q) KL.g q λB H₀ Hs H1 env p v sr rp hp=>?_;refine⟨B,H₀,Hs,env,sr,(ar.bind hp).imp (λps hps vs HV H' g r=>?_) λe he=>he⟩;exact hps (v::vs) HV H' g (.cons (rp.mono g.st) r)
def de(fs:af->M (List PV)):af->M PV:=λenv=>(fs env).bind λps=>cX (ps.length<=sizeLine) (M.ok (.tup ps))
def iX(fs:af->M (List PV)):af->M PV:=λenv=>(fs env).bind λps=>cX (ps.length<=sizeLine) (M.ok (.lst ps))
def BR(hr:PA X es (tL E fs)):PE X (.Tuple es x1 pos) (tE E (de fs)):=by
 refine(mT hr).imp fun σ H Q q=>dQ (K:=ja Q) ja.g q λB H₀ Hs H1 env p v sr rp hp=>?_;obtain⟨hz,hp⟩:=ar.cX hp;exact⟨by rwa[<- rp.length],dX.tup hp sr.gr.sub rp⟩
def zm(hr:PA X es (tL E fs)):PE X (.List es pos) (tE E (iX fs)):=by
 refine(yA hr).imp fun σ H Q q=>dQ (K:=ja Q) ja.g q λB H₀ Hs H1 env p v sr rp hp=>?_;obtain⟨hz,hp⟩:=ar.cX hp;exact⟨by rwa[<- rp.length],dX.lst hp sr.gr.sub rp⟩
def ah(o:List PV->M PV)(fs:af->M (List PV)):af->M PV:=λenv=>(fs env).bind o
def lM(E:St->XK)(r:List V->Hp->VK->Prop)(o:List PV->M PV):Prop:=∀(σ:St)(Hs H:Hp)(ps:List PV)(vs:List V)(Q:VK),aZ Hs H->aM Hs ps vs->ar (o ps) (dX Hs H Q) (XW (E σ) Hs H)->r vs H Q
def x_{o:List PV->M PV}{Q:VK}(hv:lM E r o)(q:tE E (ah o fs) σ H Q):GO r (tL E fs) σ H Q :=
 dQ (K:=ja Q) ja.g q λB H₀ Hs H1 env p v sr rp hp=>hv σ Hs H1 p v Q sr.gr.sub rp hp
variable{p:Pos}{id T:String}
def jc{o:List PV->M PV}(hc:dn X (.builtin id) r)(hv:lM E r o)(hg:Gl X x)(hm:X.mg x=none)(hx:bootBuiltins x=some (.builtin id))(ha:PA X (e::es) (tL E fs))(hn:autoParam (x ≠ "__name__") aD._auto_1)(IF:autoParam ↑7 aD._auto_1)(he:autoParam ↑0 aR._auto_1)(Iu:autoParam ↑2 aR._auto_1):PE X (.Call (.Name x p) (e::es) [] pos) (tE E (ah o fs)) :=
 (kr hc hg hm hx ha hn IF he Iu).imp fun σ H Q q=>x_ hv q
def pj{o:List PV->M PV}(hc:dn X (.type T) r)(hv:lM E r o)(hg:Gl X x)(hm:X.mg x=none)(hx:bootBuiltins x=some (.type T))(ha:PA X (e::es) (tL E fs))(hn:autoParam (x ≠ "__name__") aD._auto_1)(IF:autoParam ↑7 aD._auto_1)(he:autoParam ↑0 aR._auto_1)(Iu:autoParam ↑2 aR._auto_1):PE X (.Call (.Name x p) (e::es) [] pos) (tE E (ah o fs)) :=
 (o5 hc hg hm hx ha hn IF he Iu).imp fun σ H Q q=>x_ hv q
end
variable{xs:List PV}
def bT:PV->Option (List PV)
 | .tup xs=>some xs
 | .lst xs=>some xs
 | .eS xs=>some xs
 |_=>none
def tM{K:LI}(s:aZ Hs H)(r:Rep Hs p v)(e:bT p=some xs):∃a vs,v=.ref a/\(gR K H a vs\/gB K H a vs)/\aM Hs xs vs:=by
 cases r with
 | tup h r=>cases e;exact⟨_,_,rfl,.inr (gB.of (s _ _ h)),r⟩
 | lst h r=>cases e;exact⟨_,_,rfl,.inl (gR.of (s _ _ h)),r⟩
 | eS h r=>cases e;exact⟨_,_,rfl,.inl (.inl (.inr ⟨_,s _ _ h⟩)),r⟩
 |_=>cases e
def qx:PV->M PV
 | .str z=>cX (z.length<=sizeLine) (M.ok (.int z.length))
 |p=>fJ ((bT p).map λxs=>.int xs.length)
def bV:List PV->M PV
 | [p]=>qx p
 |_=>none
def aM.one(r:aM H [p] vs):∃v,vs=[v]/\Rep H p v:=by
 cases r with
 |cons h r=>cases r;exact⟨_,rfl,h⟩
def aM.two{q:PV}(r:aM H [p,q] vs):∃v u,vs=[v,u]/\Rep H p v/\Rep H q u:=by
 cases r with
 |cons h r=>obtain⟨u,rfl,h2⟩:=r.one;exact⟨_,_,rfl,h,h2⟩
def Bl(K:LI):List V->Hp->VK->Prop:=λxs H Q=>(∃p ys,xs=[.ref p]/\(gR K H p ys\/gB K H p ys)/\Q (.int ys.length) H)\/∃z,xs=[.str z]/\z.length<=sizeLine/\Q (.int z.length) H
def vE:dn X (.builtin "len") (Bl X.K):=dn.or qc pI
def CO{K:LI}:lM E (Bl K) bV:=by
 intro σ Hs H ps vs Q s r h
 match ps,r with
 | [],_=>exact h.elim
 | _::_::_,_=>exact h.elim
 | [p],r =>
  obtain⟨v,rfl,rp⟩:=r.one;cases hp:bT p with
  | none =>
   cases p with
   | str z =>
    cases rp;obtain⟨hz,h⟩:=ar.cX h;exact .inr ⟨z,rfl,hz,dX.flat h s (.int _)⟩
   | tup _=>cases hp
   | lst _=>cases hp
   | eS _=>cases hp
   | _=>exact h.elim
  | some xs =>
   obtain⟨a,us,rfl,hq,hx⟩:=tM (K:=K) s rp hp;have h':ar (fJ ((bT p).map λxs=>PV.int xs.length)) (dX Hs H Q) (XW (E σ) Hs H):=by
    cases p with
    | str z=>cases hp
    | _=>exact h
   rw[hp] at h';refine .inl ⟨a,us,rfl,hq,?_⟩;rw[<- hx.length];exact dX.flat h' s (.int _)
def pC:List PV->M PV
 | [p]=>fJ ((bT p).map .lst)
 |_=>none
def zH{K:LI}:lM E (λxs H Q=>∃p ys,xs=[.ref p]/\(gR K H p ys\/gB K H p ys)/\∀l,H l=none->Q (.ref l) (upd H l (.lst ys))) pC:=by
 intro σ Hs H ps vs Q s r h
 match ps,r with
 | [],_=>exact h.elim
 | _::_::_,_=>exact h.elim
 | [p],r =>
  obtain⟨v,rfl,rp⟩:=r.one;obtain⟨x,ex,h⟩:=ar.opt h;obtain⟨xs,hp,rfl⟩:=LP.mp ex;obtain⟨a,us,rfl,hq,hx⟩:=tM (K:=K) s rp hp;exact⟨a,us,rfl,hq,dX.lst h s hx⟩
def fK:List PV->M PV
 | [p]=>fJ ((bT p).map .tup)
 |_=>none
def ye{K:LI}:lM E (λxs H Q=>∃p ys,xs=[.ref p]/\((gR K H p ys/\∀l,H l=none->Q (.ref l) (upd H l (.tup ys)))\/(gB K H p ys/\Q (.ref p) H))) fK:=by
 intro σ Hs H ps vs Q s r h
 match ps,r with
 | [],_=>exact h.elim
 | _::_::_,_=>exact h.elim
 | [p],r =>
  obtain⟨v,rfl,rp⟩:=r.one;obtain⟨x,ex,h⟩:=ar.opt h;obtain⟨xs,hp,rfl⟩:=LP.mp ex;cases rp with
  | tup ha hx=>cases hp;exact⟨_,_,rfl,.inr ⟨gB.of (s _ _ ha),dX.flat h s (.tup ha hx)⟩⟩
  | lst ha hx=>cases hp;exact⟨_,_,rfl,.inl ⟨gR.of (s _ _ ha),dX.tup h s hx⟩⟩
  | eS ha hx=>cases hp;exact⟨_,_,rfl,.inl ⟨.inl (.inr ⟨_,s _ _ ha⟩),dX.tup h s hx⟩⟩
  |_=>cases hp
def t6:List PV->Option (List Bool)
 | []=>some []
 | .bl i::r=>(t6 r).map (i::·)
 |_=>none
theorem pN:∀{ps:List PV}{ns:List Bool},t6 ps=some ns->ps=ns.map PV.bl
 | [],_,e=>by cases e;rfl
 | .bl i::r,_,e=>by
  obtain⟨ms,h1,rfl⟩:=LP.mp e;rw[pN h1];rfl
theorem rQ:∀(ns:List Bool),t6 (ns.map PV.bl)=some ns
 | []=>rfl
 |n::r=>by show (t6 (r.map PV.bl)).map (n::·)=_;rw[rQ r];rfl
def all1:PV->M PV
 | .lst xs=>fJ ((t6 xs).map λns=>.bl (ns.all id))
 |_=>none
def sD:List PV->M PV
 | [p]=>all1 p
 |_=>none
def DB{K:LI}:lM E (λxs H Q=>∃(a:Addr)(bs:List Bool),xs=[.ref a]/\gR K H a (bs.map V.bl)/\Q (.bl (bs.all id)) H) sD:=by
 intro σ Hs H ps vs Q s r h
 match ps,r with
 | [],_=>exact h.elim
 | _::_::_,_=>exact h.elim
 | [p],r =>
  obtain⟨v,rfl,rp⟩:=r.one;cases rp with
  | lst ha hx =>
   obtain⟨x,ex,h⟩:=ar.opt h;obtain⟨ns,hn,rfl⟩:=LP.mp ex;rw[pN hn] at hx;exact⟨_,ns,rfl,hx.DJ▸gR.of (s _ _ ha),dX.flat h s (.bl _)⟩
  |_=>exact h.elim
def G1(o:Int->Int->Int):PV->PV->M PV
 | .int i,.int j=>M.ok (.int (o i j))
 |_,_=>none
def qT(o:Int->Int->Int):List PV->M PV
 | [p,q]=>G1 o p q
 |_=>none
def ql{o:Int->Int->Int}:lM E (λxs H Q=>∃i j,xs=[.int i,.int j]/\Q (.int (o i j)) H) (qT o):=by
 intro σ Hs H ps vs Q s r h
 match ps,r with
 | [],_=>exact h.elim
 | [_],_=>exact h.elim
 | _::_::_::_,_=>exact h.elim
 | [p,q],r =>
  obtain⟨v,u,rfl,rp,rq⟩:=r.two;cases rp with
  | int i=>cases rq with
   | int j=>exact⟨i,j,rfl,dX.flat h s (.int _)⟩
   | _=>exact h.elim
  |_=>exact h.elim
def eT(n:Nat)(sem:List PV->M PV):Sp:=λvs H Q E=>vs.length=n/\∃Hs ps,aZ Hs H/\aM Hs ps vs/\ar (sem ps) (dX Hs H Q) (XW E Hs H)
variable{Jb:List PV}
section
variable{sem:List PV->M PV}{p:Pos}{o:Expr}{fs:af->M (List PV)}{g:af->M PV}
def u9(F:aT X.prog X.w X.K X.mg X.base (bB X.prog X.w) k f fd ps (eT n sem))(hr:bD k X.A)(hg:Gl X x)(hm:X.mg x=some (.ref f))(hk:Mi X.K (.ref f)=true)(hb:Binds X.K fd ps ds)(hd:Vals IH ds)(hdp:∀H,aM H Jb IH)(O:dh X E)(hl:∀ps,sem (ps++Jb)≠none->ps.length+Jb.length=n)(ha:PA X (e::es) (tL E fs))(IF:autoParam ↑7 aD._auto_1)(he:autoParam ↑0 aR._auto_1)(Iu:autoParam ↑2 aR._auto_1):PE X (.Call (.Name x p) (e::es) [] pos) (tE E (ah (λps=>sem (ps++Jb)) fs)):=by
 refine(xM F hr hg hm hk hb hd O ha IF he Iu).imp fun σ H Q q=>dQ (K:=ja Q) ja.g q λB H₀ Hs H1 env Jf v sr rp hp=>?_;have r2:aM Hs (Jf++Jb) (v++IH):=rp.append (hdp Hs);have hn:sem (Jf++Jb)≠none:=λz=>by rwa[z] at hp
 refine⟨?_,Hs,Jf++Jb,sr.gr.sub,r2,hp⟩;rw[<- r2.length,Mp];exact hl Jf hn
def wq(ok:Addr->Bool)(f:Str)(g:af->M PV):af->M PV:=λenv=>(g env).bind λp=>match p with
 | .obj C fs=>cX (ok C=true) (fJ (fs.lookup f))
 |_=>none
def B3{ok:Addr->Bool}{fl:Str}(he:PE X e (tE E g))(bf:∀C,ok C=true->ot X.K C/\cF X.K C fl)(hb:attributeBase e fl X.env (eval e X.env)=eval e X.env):PE X (.Attribute e fl pos) (tE E (wq ok fl g)):=by
 refine(CU he hb).imp fun σ H Q q=>b_ (K:=ja Q) ja.g q λB H₀ Hs H1 env p v sr rp hp=>?_;cases rp with
 | obj ha hx =>
  obtain⟨hc,hp⟩:=ar.cX hp;obtain⟨x,ex,hp⟩:=ar.opt hp;obtain⟨u,h1,h2⟩:=hx.look ex;exact⟨_,_,_,_,u,rfl,sr.gr.sub _ _ ha,(bf _ hc).1,(bf _ hc).2,h1,dX.flat hp sr.gr.sub h2⟩
 |_=>exact hp.elim
def fQ(C:Addr)(m:Str)(sem:List PV->M PV)(g:af->M PV)(fs:af->M (List PV)):af->M PV:=λenv=>(g env).bind λp=>match p with
 | .obj C' fl=>cX (C'=C/\fl.lookup m=none) ((fs env).bind λps=>sem (.obj C' fl::ps))
 |_=>none
def yt(he:PE X o (tE E g))(c:ot X.K C)(hm:Meth X.K C m f)(F:aT X.prog X.w X.K X.mg X.base (bB X.prog X.w) k f fd ps (eT n sem))(hr:bD k X.A)(hb:Binds X.K fd ps [])(O:dh X E)(hl:∀ps,sem ps≠none->ps.length=n)
  (ht:autoParam (eval (.Call (.Attribute o m apos) [] [] pos) X.env=(do
   let ov <- eval o X.env
   standAt apos.atName
   let (f,first) <- holding [ov] (getMethod ov m pl)
   callWith pos f first (backTo pos (starEach [] X.env)) (backToKw pos (keywordEach [] X.env)))) aR._auto_1) :
  PE X (.Call (.Attribute o m apos) [] [] pos) (tE E (fQ C m sem g ai)):=by
 refine(wJ he c hm F hr hb .nil O ht).imp fun σ H Q q=>b_ (K:=ja Q) ja.g q λB H₀ Hs H1 env p v sr rp hp=>?_;cases rp with
 | @obj a C' dx fl fvs ho hx =>
  obtain⟨⟨e1,hn⟩,Fj⟩:=ar.cX hp;subst e1;have r2:aM Hs [.obj C' fl] [V.ref a]:=.cons (Rep.obj ho hx) .nil;have Lo:sem [.obj C' fl]≠none:=λz=>by
   have KD:ar (sem [.obj C' fl]) (dX Hs H1 Q) (XW (E σ) Hs H1):=Fj;rwa[z] at KD
  exact⟨a,dx,fvs,rfl,sr.gr.sub _ _ ho,hx.none hn,by rw[show ([]:List V)++[]=[] from rfl];exact r2.length▸hl _ Lo,Hs,_,sr.gr.sub,r2,Fj⟩
 |_=>exact hp.elim
end
inductive Out where
 |nx (env:af)|rt (p:PV)|bk (env:af)|ct (env:af)
def KS(D:Ends)(B H₀:Hp):Out->Prop
 | .nx env=>∀σ Hs H,SR B H₀ Hs H σ env->D.nx σ H
 | .rt p=>∀v Hs H,bc B H₀ Hs H->Rep Hs p v->D.rt v H
 | .bk env=>∀σ Hs H,SR B H₀ Hs H σ env->D.bk σ H
 |.ct env=>∀σ Hs H,SR B H₀ Hs H σ env->D.ct σ H
def tS(E:XK)(f:af->M Out):TS:=λD σ H=>∃B H₀ Hs env,SR B H₀ Hs H σ env/\ar (f env) (KS D B H₀) (XW E B H₀)
def PS.imp{st:Stmt}{t t':TS}(h:PS X st t)(i:∀D σ H,t' D σ H->t D σ H):PS X st t':=λHQ s σ H D I q=>h HQ s σ H D I (i D σ H q)
def i7.imp{st:List Stmt}{t t':TS}(h:i7 X st t)(i:∀D σ H,t' D σ H->t D σ H):i7 X st t':=λHQ s σ H D I q=>h HQ s σ H D I (i D σ H q)
def aj:af->M Out:=λenv=>M.ok (.nx env)
def lK(g:af->M Out):Out->M Out
 | .nx env=>g env
 |o=>M.ok o
noncomputable def ao(f g:af->M Out):af->M Out:=λenv=>(f env).bind (lK g)
def iY{E:XK}{f:af->M PV}{g:af->PV->M Out}{D:Ends}{R:VK}(h:tS E (λenv=>(f env).bind (g env)) D σ H)(k:∀B H₀ Hs H1 env p v,SR B H₀ Hs H1 σ env->Rep Hs p v->ar (g env p) (KS D B H₀) (XW E B H₀)->R v H1):tE (λ_=>E) f σ H R:=by
 obtain⟨B,H₀,Hs,env,sr,h⟩:=h;refine⟨B,H₀,Hs,env,sr,(ar.bind h).imp (λp hp v HV H' g r=>?_) λe he=>he.grow sr.gr⟩;exact k B H₀ HV H' env p v (sr.grow g) r hp
def xV{E:XK}{f:af->M Bool}{g:af->Bool->M Out}{D:Ends}{R:Bool->Hp->Prop}(h:tS E (λenv=>(f env).bind (g env)) D σ H)(k:∀B H₀ Hs H1 env p,SR B H₀ Hs H1 σ env->ar (g env p) (KS D B H₀) (XW E B H₀)->R p H1):tT (λ_=>E) f σ H R:=by
 obtain⟨B,H₀,Hs,env,sr,h⟩:=h;refine⟨B,H₀,Hs,env,sr,(ar.bind h).imp (λp hp HV H' g=>?_) λe he=>he.grow sr.gr⟩;exact k B H₀ HV H' env p (sr.grow g) hp
def rK{E:XK}{f:af->M (List PV)}{g:af->List PV->M Out}{D:Ends}{R:List V->Hp->Prop}(h:tS E (λenv=>(f env).bind (g env)) D σ H)(k:∀B H₀ Hs H1 env p v,SR B H₀ Hs H1 σ env->aM Hs p v->ar (g env p) (KS D B H₀) (XW E B H₀)->R v H1):tL (λ_=>E) f σ H R:=by
 obtain⟨B,H₀,Hs,env,sr,h⟩:=h;refine⟨B,H₀,Hs,env,sr,(ar.bind h).imp (λp hp v HV H' g r=>?_) λe he=>he.grow sr.gr⟩;exact k B H₀ HV H' env p v (sr.grow g) r hp
theorem SR.set{B H₀ Hs H:Hp}{σ:St}{env:af}{p:PV}{v:V}{i:Nat}(r:SR B H₀ Hs H σ env)(h:Rep Hs p v):SR B H₀ Hs H (σ.set i (some v)) (env.set i (some (.sh p))) :=
 r.chg r.gr (λ_ _ q=>q) (λ_ e=>by cases e;exact⟨v,rfl,h⟩) (λ_ _ _ _ _ _ _ _ h1 h2 _=>⟨h1,h2⟩) λ_ e o=>by cases e;cases o
def SR.own{B:Hp}{env:af}{p:Addr}(r:SR B H₀ Hs H σ env)(h:aM Hs xs vs)(n:H p=none):SR B H₀ Hs (upd H p (.lst vs)) (σ.set i (some (.ref p))) (env.set i (some (.ow xs))) :=
 r.chg (r.gr.lD (r.free n).1 (r.free n).2) (λ_ _ q=>q) (λ_ e=>by cases e;exact⟨_,rfl,p,vs,rfl,aw,(r.free n).1,(r.free n).2,h⟩) (λ_ _ a u _ _ _ _ h1 h2 _=>⟨by rwa[aq (λz=>by rw[z,n] at h1;cases h1)],h2⟩) λ_ _ _ k z _=>r.held n k z
def p7(i:Nat)(env:af):af:=match env[i]? with
 | some (some (.ow xs))=>env.set i (some (.sh (.lst xs)))
 |_=>env
def SR.DV{B:Hp}{env:af}(r:SR B H₀ Hs H σ env)(e:env[i]?=some (some (.ow xs))):∃a vs,Hs a=none/\H a=some (.lst vs)/\SR B H₀ (upd Hs a (.lst vs)) H σ (env.set i (some (.sh (.lst xs))))/\aZ Hs (upd Hs a (.lst vs)):=by
 obtain⟨a,vs,h1,h2,h3,h4,h5⟩:=r.ow i xs e;obtain⟨g,st⟩:=r.gr.into h2 h3 h4;refine⟨a,vs,h3,h2,r.B0 h1 g st (λ_ q=>by cases q;exact⟨_,rfl,.lst aw (h5.mono st)⟩) (λj y b u n ej o z q1 q2 _=>⟨q1,by rwa[aq (λw=>by subst w;exact r.ap i j _ y b n e ej rfl o h1 z)]⟩) λ_ q o=>(by cases q;cases o),st⟩
def SR.lA{B:Hp}{env:af}(i:Nat)(r:SR B H₀ Hs H σ env):∃HV,SR B H₀ HV H σ (p7 i env)/\aZ Hs HV:=by
 unfold p7
 split
 .obtain⟨a,vs,_,_,h⟩:=r.DV (by assumption);exact⟨_,h⟩
 .exact⟨Hs,r,λ_ _ q=>q⟩
def wH(is:List Nat)(f:af->M Out):af->M Out:=λenv=>f (is.foldl (λe i=>p7 i e) env)
theorem SR.jP{B H₀ H:Hp}{σ:St}:∀{is:List Nat}{Hs:Hp}{env:af},SR B H₀ Hs H σ env->∃HV,SR B H₀ HV H σ (is.foldl (λe i=>p7 i e) env)/\aZ Hs HV
 | [],Hs,_,r=>⟨Hs,r,λ_ _ q=>q⟩
 | i::is,_,_,r=>by
  obtain⟨Iq,r1,s1⟩:=r.lA i;obtain⟨Im,r2,s2⟩:=SR.jP (is:=is) r1;exact⟨Im,r2,λc u q=>s2 c u (s1 c u q)⟩
section
variable{E:XK}{f:af->M PV}{st:Stmt}{sts rest:List Stmt}{u:af->M Bool}{g h:af->M Out}
def C1(is:List Nat)(hs:PS X st (tS E g)):PS X st (tS E (wH is g)):=hs.imp λD σ H q=>by
 obtain⟨B,H₀,Hs,env,sr,q⟩:=q;obtain⟨HV,r,_⟩:=sr.jP (is:=is);exact⟨B,H₀,HV,_,r,q⟩
def AH:i7 X [] (tS E aj):=uw.imp λD σ H q=>by
 obtain⟨B,H₀,Hs,env,sr,q⟩:=q;exact q σ Hs H sr
def xY(h1:PS X st (tS E g))(h2:i7 X rest (tS E h)):i7 X (st::rest) (tS E (ao g h)):=by
 refine(rO h1 h2).imp λD σ H q=>?_;obtain⟨B,H₀,Hs,env,sr,q⟩:=q;refine⟨B,H₀,Hs,env,sr,(ar.bind q).imp (λo ho=>?_) λe he=>he⟩;cases o with
 | nx HS=>exact fun σ' HV H' JE=>⟨B,H₀,HV,HS,JE,ho⟩
 | rt p=>exact ho
 | bk HS=>exact ho
 |ct HS=>exact ho
def aX(i:Nat)(f:af->M PV):af->M Out:=λenv=>(f env).bind λp=>M.ok (.nx (env.set i (some (.sh p))))
def By(hN:X.N.Nodup)(hi:X.N[i]?=some x)(hx:Loc X.env.scope x)(he:PE X e (tE (λ_=>E) f))(hs:autoParam (swapsWith e (some (.Name x pos')) pos.line X.env=pure false) aR._auto_1)(hf:autoParam ↑1 aF._auto_1):PS X (.Assign [.Name x pos'] e pos) (tS E (aX i f)) :=
 (ug hN hi hx he hs hf).imp λD σ H q=>iY q λB H₀ Hs H1 env p v sr rp hp=>hp _ Hs H1 (sr.set rp)
def retS(f:af->M PV):af->M Out:=λenv=>(f env).bind λp=>M.ok (.rt p)
def DE(he:PE X e (tE (λ_=>E) f)):PS X (.Return (some e) pos) (tS E (retS f)) :=
 (De he).imp λD σ H q=>iY q λB H₀ Hs H1 env p v sr rp hp=>hp v Hs H1 sr.gr rp
def jx(f:af->M PV):af->M Out:=λenv=>(f env).bind λ_=>M.ok (.nx env)
def AJ(he:PE X e (tE (λ_=>E) f))(hs:autoParam (swapsWith e none pos.line X.env=pure false) aR._auto_1):PS X (.Expr e pos) (tS E (jx f)) :=
 (u5 he hs).imp λD σ H q=>iY q λB H₀ Hs H1 env p v sr rp hp=>hp σ Hs H1 sr
def dY(u:af->M Bool)(g h:af->M Out):af->M Out:=λenv=>(u env).bind λb=>if b=true then g env else h env
def D4{a b:List Stmt}(hc:PT X c (tT (λ_=>E) u))(ha:i7 X a (tS E g))(hb:i7 X b (tS E h)):PS X (.If c a b pos) (tS E (dY u g h)):=by
 refine(E8 hc ha hb).imp λD σ H q=>xV q λB H₀ Hs H1 env p sr hp=>?_;cases p with
 | true=>exact⟨B,H₀,Hs,env,sr,hp⟩
 |false=>exact⟨B,H₀,Hs,env,sr,hp⟩
end
def ov(Hs H₀:Hp):Hp:=λa=>match Hs a with
 | some o=>some o
 |none=>H₀ a
def pP(h:Hs a=some o):ov Hs H₀ a=some o:=by unfold ov;rw[h]
def kn(h:Hs a=none):ov Hs H₀ a=H₀ a:=by unfold ov;rw[h]
def Ah(s:aZ Hs H)(t:aZ H₀ H):aZ (ov Hs H₀) H:=λa o e=>by
 cases q:Hs a with
 | some o'=>rw[pP q] at e;cases e;exact s _ _ q
 |none=>rw[kn q] at e;exact t _ _ e
def SR.rebase{B:Hp}{env:af}(r:SR B H₀ Hs H σ env):SR Hs (ov Hs H₀) Hs H σ env :=
 r.mv ⟨λ_ _ e=>e,Ah r.gr.sub r.gr.al,r.gr.sub,λ_ _ e _ _=>e⟩ r.len (λ_ _ q=>q) λ_ _ e=>⟨e,rfl,λa u _ _ h1 h2 h3 _=>⟨h1,h2,by rwa[kn h2]⟩⟩
def bc.jT{B Im H2:Hp}(g:bc B H₀ Hs H)(g2:bc Hs (ov Hs H₀) Im H2):bc B H₀ Im H2 where
 st:=λa o e=>g2.st a o (g.st a o e)
 al:=λa o e=>by
  cases q:Hs a with
  | some o' =>
   have h1:=g.sub a o' q;have h2:=g.al a o e;rw[h1] at h2;cases h2;exact g2.al a _ (pP q)
  | none=>exact g2.al a o (by rwa[kn q])
 sub:=g2.sub
 nw:=λa o e q t=>by
  have h1:=g.nw a o e q t;exact g2.nw a o h1 (by rwa[kn h1]) t
theorem SR.jT{B H₀ Hs H Im H2:Hp}{σ:St}{env:af}(g:bc B H₀ Hs H)(r:SR Hs (ov Hs H₀) Im H2 σ env):SR B H₀ Im H2 σ env :=
 r.mv (g.jT r.gr) r.len (λ_ _ q=>q) λ_ _ e=>⟨e,rfl,λa u _ _ h1 h2 h4 _=>⟨h1,h2,by
  cases q:Hs a with
  | some o=>rw[pP q] at h4;cases h4
  |none=>rwa[kn q] at h4⟩⟩
def XW.rebase{E:XK}{B:Hp}(g:bc B H₀ Hs H){x:EX}(h:XW E B H₀ x):XW E Hs (ov Hs H₀) x:=λea Im H2 r q=>h ea Im H2 (g.jT r) q
def Fb(k:af->M Out):Out->M Out
 | .nx env=>k env
 | .ct env=>k env
 | .bk env=>M.ok (.nx env)
 |.rt p=>M.ok (.rt p)
def hG(set:PV->af->M af)(body:af->M Out):List PV->af->M Out
 | [],env=>M.ok (.nx env)
 |x::xs,env=>(set x env).bind λHS=>(body HS).bind (Fb (hG set body xs))
def z6(E:XK)(g:TG)(set:PV->af->M af):Prop:=∀(B H₀ Hs H:Hp)(σ:St)(env:af)(p:PV)(v:V)(Q:St->Hp->Prop)(Z:EX->Prop),SR B H₀ Hs H σ env->Rep Hs p v->ar (set p env) (λHS=>∀σ',SR B H₀ Hs H σ' HS->Q σ' H) Z->g v σ H Q
def dg(i:Nat)(p:PV)(env:af):M af:=M.ok (env.set i (some (.sh p)))
def cj{E:XK}:z6 E (br i) (dg i):=λB H₀ Hs H σ env p v Q Z sr r h=>h _ (sr.set r)
def gP(i j:Nat):PV->af->M af
 | .tup [p,q],env=>M.ok ((env.set i (some (.sh p))).set j (some (.sh q)))
 |_,_=>none
def iG{E:XK}{K:LI}:z6 E (p8 K 2 (fy (br i) (fy (br j) qa))) (gP i j):=by
 intro B H₀ Hs H σ env p v Q Z sr r h;cases r with
 | @tup a xs vs ha hx =>
  match xs,hx with
  | [p,q],hx =>
   obtain⟨v,u,rfl,rp,rq⟩:=hx.two;exact⟨a,[v,u],rfl,gB.of (sr.gr.sub _ _ ha),rfl,v,[u],rfl,u,[],rfl,rfl,h _ ((sr.set rp).set rq)⟩
  | [],_=>exact h.elim
  | [_],_=>exact h.elim
  | _::_::_::_,_=>exact h.elim
 |_=>exact h.elim
section
variable{E:XK}{g:TG}{set:PV->af->M af}{body:af->M Out}{D:Ends}{B:Hp}
def Jv(E:XK)(set:PV->af->M af)(body:af->M Out)(D:Ends)(B H₀ Iq:Hp)(xs:List PV)(i:Nat)(σ:St)(H:Hp):Prop:=∃Hs env,SR B H₀ Hs H σ env/\aZ Iq Hs/\ar (hG set body (xs.drop i) env) (KS D B H₀) (XW E B H₀)
def Jv.done(j:Jv E set body D B H₀ Iq xs n σ H)(hn:xs.length<=n):D.nx σ H:=by
 obtain⟨Hs,env,sr,_,h⟩:=j;rw[P7 hn] at h;exact h σ Hs H sr
def Jv.turn{H1 Hx:Hp}{x:PV}(tg:z6 E g set)(hx:xs[i]?=some x){env:af}(sr:SR B H₀ Hs H σ env)(s1:aZ Iq Hs)(h:ar (hG set body (xs.drop i) env) (KS D B H₀) (XW E B H₀)){Im H2:Hp}(gr:bc Hs H Im H2)(rv:Rep Im x v):g v σ H2 fun σ2 H3=>tS E body { D with nx:=Jv E set body D B H₀ Iq xs (i+1),ct:=Jv E set body D B H₀ Iq xs (i+1),bk:=D.nx } σ2 H3:=by
 have I_:i<xs.length:=(MH.mp hx).1;have hd:xs.drop i=x::xs.drop (i+1):=by
  rw[N7 I_];rw[LL I_] at hx;rw[L8 hx]
 rw[hd] at h;have IG:=sr.grow gr;refine tg B H₀ Im H2 σ env x v _ _ IG rv ((ar.bind h).imp (λHS h' σ' JE=>?_) λ_ z=>z);refine⟨Im,ov Im H₀,Im,HS,JE.rebase,(ar.bind h').imp (λo ho=>?_) λe he=>he.rebase JE.gr⟩;cases o with
 | nx e2=>exact fun σ3 JC H3 r=>⟨JC,e2,r.jT JE.gr,λa o z=>r.gr.st a o (gr.st a o (s1 a o z)),ho⟩
 | ct e2=>exact fun σ3 JC H3 r=>⟨JC,e2,r.jT JE.gr,λa o z=>r.gr.st a o (gr.st a o (s1 a o z)),ho⟩
 | bk e2=>exact fun σ3 JC H3 r=>ho σ3 JC H3 (r.jT JE.gr)
 |rt p=>exact λv3 JC H3 r q=>ho v3 JC H3 (JE.gr.jT r) q
end
def ko(it:af->M (List PV))(set:PV->af->M af)(body:af->M Out):af->M Out:=λenv=>(it env).bind λxs=>hG set body xs env
def itemsOf(f:af->M PV):af->M (List PV):=λenv=>(f env).bind λp=>match bT p with|some xs=>M.ok xs|none=>none
def qd{K:LI}(s:aZ Hs H)(r:Rep Hs p v)(e:bT p=some xs):∃b a vs,v=.ref a/\(∀HV H',aZ Hs HV->aZ HV H'->qR K H' b a vs)/\aM Hs xs vs:=by
 cases r with
 | tup h r=>cases e;exact⟨false,_,_,rfl,λHV H' s1 s2=>gB.of (s2 _ _ (s1 _ _ h)),r⟩
 | lst h r=>cases e;exact⟨true,_,_,rfl,λHV H' s1 s2=>gR.of (s2 _ _ (s1 _ _ h)),r⟩
 | eS h r=>cases e;exact⟨true,_,_,rfl,λHV H' s1 s2=>.inl (.inr ⟨_,s2 _ _ (s1 _ _ h)⟩),r⟩
 |_=>cases e
section
variable{E:XK}{p:Pos}{f f2:af->M PV}{g:TG}{set:PV->af->M af}{body:af->M Out}{bd:List Stmt}
end
def F8:PV->M (List PV)
 | .int n=>cX (-(2^62)<=n/\n<2^62) (M.ok ((LZ n.toNat).map λ(i:Nat)=>.int (0+(i:Int))))
 |_=>none
def FO:PV->PV->M (List PV)
 | .int a,.int b=>cX (-(2^62)<=a/\a<2^62/\-(2^62)<=b/\b<2^62) (M.ok ((LZ (b-a).toNat).map λ(i:Nat)=>.int (a+(i:Int))))
 |_,_=>none
def ip:List PV->M (List PV)
 | [p]=>F8 p
 |_=>none
def tj:List PV->M (List PV)
 | [p,q]=>FO p q
 |_=>none
variable{Z:EX->Prop}
def vv{ps:List PV}{k:List PV->M α}{Q:α->Prop}(h:ar ((ip ps).bind k) Q Z):∃n:Int,ps=[.int n]/\-(2^62)<=n/\n<2^62/\ar (k ((LZ n.toNat).map λ(i:Nat)=>.int (0+(i:Int)))) Q Z:=by
 match ps with
 | []=>exact h.elim
 | _::_::_=>exact h.elim
 | [p] =>
  cases p with
  | int n =>
   obtain⟨hc,h⟩:=ar.cX (ar.bind h);exact⟨n,rfl,hc.1,hc.2,h⟩
  |_=>exact h.elim
def wD{ps:List PV}{k:List PV->M α}{Q:α->Prop}(h:ar ((tj ps).bind k) Q Z):∃a b:Int,ps=[.int a,.int b]/\(-(2^62)<=a/\a<2^62/\-(2^62)<=b/\b<2^62)/\ar (k ((LZ (b-a).toNat).map λ(i:Nat)=>.int (a+(i:Int)))) Q Z:=by
 match ps with
 | []=>exact h.elim
 | [_]=>exact h.elim
 | _::_::_::_=>exact h.elim
 | [p,q] =>
  cases p with
  | int a=>cases q with
   | int b =>
    obtain⟨hc,h⟩:=ar.cX (ar.bind h);exact⟨a,b,rfl,hc,h⟩
   | _=>exact h.elim
  |_=>exact h.elim
def zip2:List PV->M (List PV)
 | [p,q]=>match bT p,bT q with
  | some xs,some ys=>M.ok (N4 (λa b=>.tup [a,b]) xs ys)
  | _,_=>none
 |_=>none
def v7{ps:List PV}{k:List PV->M α}{Q:α->Prop}(h:ar ((zip2 ps).bind k) Q Z):∃p q xs ys,ps=[p,q]/\bT p=some xs/\bT q=some ys/\ar (k (N4 (λa b=>.tup [a,b]) xs ys)) Q Z:=by
 match ps with
 | []=>exact h.elim
 | [_]=>exact h.elim
 | _::_::_::_=>exact h.elim
 | [p,q] =>
  unfold zip2 at h;dsimp only at h;cases e1:bT p with
  | none=>rw[e1] at h;exact h.elim
  | some xs =>
   cases e2:bT q with
   | none=>rw[e1,e2] at h;exact h.elim
   |some ys=>rw[e1,e2] at h;exact⟨p,q,xs,ys,rfl,e1,e2,h⟩
def wC{f:Nat->PV}(h:i<n):((LZ n).map f)[i]?=some (f i):=by
 rw[L_,List.getElem?_range h];rfl
section
variable{E:XK}{a b l l1 l2:Expr}{p tp:Pos}{fs:af->M (List PV)}{g:TG}{set:PV->af->M af}{body:af->M Out}{bd:List Stmt}
end
def KO(Q:VK):Hp->Hp->List PV->Prop:=λHs H ps=>∀vs p HV H',bc Hs H HV H'->aM HV ps vs->H' p=none->Q (.ref p) (upd H' p (.lst vs))
def tO(E:St->XK)(f:af->M (List PV)):TE:=fun σ H Q=>tG E f (KO Q) σ H
section
variable{E:XK}{fs:af->M (List PV)}{f:af->M PV}
def wb(i:Nat)(f:af->M (List PV)):af->M Out:=λenv=>(f env).bind λps=>M.ok (.nx (env.set i (some (.ow ps))))
def AX(hN:X.N.Nodup)(hi:X.N[i]?=some x)(hx:Loc X.env.scope x)(he:PE X e (tO (λ_=>E) fs))(hs:autoParam (swapsWith e (some (.Name x pos')) pos.line X.env=pure false) aR._auto_1)(hf:autoParam ↑1 aF._auto_1):PS X (.Assign [.Name x pos'] e pos) (tS E (wb i fs)):=by
 refine(ug hN hi hx he hs hf).imp λD σ H q=>?_;obtain⟨B,H₀,Hs,env,sr,q⟩:=q;refine⟨B,H₀,Hs,env,sr,(ar.bind q).imp (λps hp vs p HV H' g r n=>?_) λe he=>he.grow sr.gr⟩;exact hp _ HV _ ((sr.grow g).own r n)
def o4(fs:af->M (List PV)):af->M (List PV):=λenv=>(fs env).bind λps=>if ps.length<=sizeLine then M.ok ps else none
def BC{E:St->XK}(hr:PA X es (tL E fs)):PE X (.List es pos) (tO E (o4 fs)):=by
 refine(yA hr).imp fun σ H Q q=>?_;obtain⟨B,H₀,Hs,env,sr,q⟩:=q;refine⟨B,H₀,Hs,env,sr,(ar.bind q).imp (λps hp vs HV H' g r=>?_) λe he=>he⟩
 by_cases hz:ps.length<=sizeLine
 .rw[if_pos hz] at hp;exact⟨by rwa[<- r.length],λp n=>hp vs p HV H' g r n⟩
 .rw[if_neg hz] at hp;exact hp.elim
def yS(f:af->M PV):af->M (List PV):=itemsOf f
def tK(i:Nat)(f:af->M PV):af->M Out:=λenv=>match env[i]? with
 | some (some (.ow xs))=>(f env).bind λp=>if xs.length<sizeLine then M.ok (.nx (env.set i (some (.ow (xs++[p]))))) else none
 |_=>none
def SR.put{B:Hp}{env:af}{ys:List PV}{us:List V}(r:SR B H₀ Hs H σ env)(e:env[i]?=some (some (.ow xs)))(hi:σ[i]?=some (some (.ref a)))(h:aM Hs ys us):SR B H₀ Hs (upd H a (.lst us)) σ (env.set i (some (.ow ys))):=by
 obtain⟨a',vs,h1,h2,h3,h4,h5⟩:=r.ow i xs e;rw[hi] at h1;cases h1;exact r.B0 hi (r.gr.lD h3 h4) (λ_ _ q=>q) (λ_ q=>by cases q;exact⟨_,rfl,a,us,rfl,aw,h3,h4,h⟩) (λj y b u n ej o z q1 q2 _=>⟨by rwa[aq (λw=>by subst w;exact r.ap i j _ y b n e ej rfl o hi z)],q2⟩) λ_ _ _ k z n ek o=>r.ap i k _ z a n e ek rfl o hi
def wa{px:Pos}(hi:X.N[i]?=some x)(hv:p4 X.env.scope x)(he:PE X e (tE (λ_=>E) f))(hd:autoParam ↑7 aD._auto_1)(II:autoParam ↑6 aD._auto_1)(Jm:autoParam (attributeBase (.Name x px) "append" X.env (eval (.Name x px) X.env)=eval (.Name x px) X.env) aR._auto_1)(JT:autoParam (((backTo Ik (starEach [e] X.env)).all (λx=>!x.1)&&(backToKw Ik (keywordEach [] X.env)).all (λx=>x.1.isSome) && decide (([e]:List Expr).length+([]:List Keyword).length+(if ([]:List Keyword).isEmpty then 0 else 1)<30))=true) aR._auto_1)(Jn:autoParam ((apos.endLine==Ik.line)=true) aR._auto_1)(Ja:autoParam (starEach [e] X.env=(false,eval e X.env)::starEach [] X.env) aR._auto_1)(IT:autoParam ((backTo Ik (starEach [] X.env)).any (·.1)=false) aR._auto_1)(hs:autoParam (swapsWith (.Call (.Attribute (.Name x px) "append" apos) [e] [] Ik) none pos.line X.env=pure false) aR._auto_1):PS X (.Expr (.Call (.Attribute (.Name x px) "append" apos) [e] [] Ik) pos) (tS E (tK i f)):=by
 refine(u5 (xR Oj PySem.F.slot_list_append PySem.F.type_list_append ph (jI hi hv hd II) (bM he e9 Ja) Jm JT Jn Ja IT) hs).imp λD σ H q=>?_;obtain⟨B,H₀,Hs,env,sr,q⟩:=q;unfold tK at q
 split at q
 .rename_i xs ex;obtain⟨a,vs,h1,h2,h3,h4,h5⟩:=sr.ow i xs ex;refine⟨.ref a,h1,.inl ⟨rfl,vs,gR.of h2⟩,B,H₀,Hs,env,sr,(ar.bind q).imp (λp hp v HV H' g r=>?_) λe he=>he.grow sr.gr⟩
  by_cases hz:xs.length<sizeLine
  .rw[if_pos hz] at hp;have JE:=sr.grow g;have r5:aM HV (xs++[p]) (vs++[v]):=(h5.mono g.st).snoc r;exact⟨a,vs,v,rfl,rfl,g.al _ _ h2,by rwa[<- h5.length],hp σ HV _ (JE.put ex h1 r5)⟩
  .rw[if_neg hz] at hp;exact hp.elim
 .exact q.elim
end
def iU:Out->M PV
 | .rt p=>M.ok p
 | .nx _=>M.ok .bz
 |_=>none
def i_(m:Nat)(ps:List PV):af:=ps.map (λp=>some (.sh p))++LO (m-ps.length) none
def ay(m:Nat)(g:af->M Out)(ps:List PV):M PV:=(g (i_ m ps)).bind iU
theorem SR.start{Hs H:Hp}{N:List Str}{ps:List PV}{vs:List V}(s:aZ Hs H)(r:aM Hs ps vs):SR Hs H Hs H (start N vs) (i_ N.length ps):=by
 have key:∀(i:Nat)(x:SV),(i_ N.length ps)[i]?=some (some x)->∃p v,x=.sh p/\(L2.start N vs)[i]?=some (some v)/\Rep Hs p v:=λi x e=>by
  unfold i_ at e;unfold L2.start
  by_cases hi:i<ps.length
  .rw[Mr (by simpa using hi),L_,LL hi] at e;cases e;obtain⟨v,h1,h2⟩:=r.get (LL hi);exact⟨_,v,rfl,by rw[Mr (by simpa using (r.length▸hi)),L_,h1];rfl,h2⟩
  .rw[Mj (by simpa using hi),MY] at e
   split at e<;>cases e
 exact⟨.refl s,by unfold L2.start i_;simp[r.length],λi x e=>by obtain⟨p,v,rfl,h⟩:=key i x e;exact⟨v,h⟩,λi j x y a _ e _ o=>by obtain⟨p,v,rfl,h⟩:=key i x e;cases o⟩
def Dr{K:LI}{dV kV doc pm Ig ct oc:Value}{g:af->M Out}(lk:K.lookup f=some ⟨oc,od,.func (MM name qual params body scope dV kV doc pm an Ig ct),J4⟩)(II:Nf K Ig qual=true)(S:bg N ps scope)(hb:∀(A:Around)(outer:List Env)(s:Shared)(H:Hp)(E:XK),bD k (A.deeper (envOfC qual scope s.heap.objs.size f Ig))->i7 ((eQ (bB P w) P w K mg base N qual scope f Ig A outer s H E).out λ_=>E) body (tS E g)):aT P w K mg base (bB P w) (k+1) f (MM name qual params body scope dV kV doc pm an Ig ct) ps (eT ps.length (ay N.length g)):=by
 refine nt lk II S (λvs H Q E h=>h.1) λA outer s H vs Q E hr hs=>⟨_,hb A outer s H E hr,?_⟩
 obtain⟨_,Hs,Jf,sm,r,h⟩:=hs;refine⟨Hs,H,Hs,_,SR.start sm r,(ar.bind h).imp (λo ho=>?_) λe he=>he⟩;cases o with
 | rt p=>exact λv HV H' gr rv=>ho v HV H' gr rv
 | nx env=>exact fun σ HV H' sr=>ho .bz HV H' sr.gr .bz
 | bk env=>exact ho.elim
 |ct env=>exact ho.elim
section
variable{E:XK}{p:Pos}{fs:af->M (List PV)}
def e7(C:Addr)(fs:af->M (List PV)):af->M Out:=λenv=>(fs env).bind λps=>cX (ps.length<=sizeLine) (some (.error (C,none)))
def wO(O:dh X λ_=>E)(Ih:X.calm=true)(hc:OP X.K C eY "ValueError.__new__"=true)(c:eU X.K C)(ht:NV X.K (.ref C)=some (.type "type"))(kp:Mi X.K (.ref C)=true)(hg:Gl X x)(hm:X.mg x=some (.ref C))(ha:PA X (e::es) (tL (λ_=>E) fs))(IF:autoParam ↑7 aD._auto_1)(he:autoParam ↑0 aR._auto_1)(Iu:autoParam ((backTo Ik (starEach es X.env)).any (·.1)=false) aR._auto_1):PS X (.Raise (some (.Call (.Name x p) (e::es) [] Ik)) none pos) (tS E (e7 C fs)):=by
 refine(rH O Ih (zu hc kp hg hm ha IF he Iu)).imp λD σ H q=>rK q λB H₀ Hs H1 env Jf v sr rp hp=>?_;obtain⟨hz,hp⟩:=ar.cX hp;refine⟨by rwa[<- rp.length],λa n=>⟨a,C,none,rfl,aw,c,ht,?_⟩⟩;rw[uI];exact hp a (upd Hs a (gC C none a)) _ (sr.gr.trans (bc.new sr.gr.sub n)) (.qk aw)
def vt(K:LI)(C:Addr)(fl:Str):Sp:=λvs H Q _=>∃a y,vs=[.ref a,y]/\H a=some (jo C none a)/\∀d,H d=none->d≠a->Q .bz (upd (upd H d (.xd [(fl,y)])) a (jo C (some d) a))
def gQ(C:Addr)(fl:Str)(fs:af->M (List PV)):af->M Out:=λenv=>(fs env).bind λps=>match ps with
 | [p]=>some (.error (C,some [(fl,p)]))
 |_=>none
def vx{fl:Str}(O:dh X λ_=>E)(Ih:X.calm=true)(hc:nQ X.K C "ValueError.__new__" f=true)(hf:N2 X.K (.ref f)=true)(c:eU X.K C)(ht:NV X.K (.ref C)=some (.type "type"))(kp:Mi X.K (.ref C)=true)(F:aT X.prog X.w X.K X.mg X.base (bB X.prog X.w) k f fd ps (vt X.K C fl))(hr:bD (k+1) X.A)(hb:Binds X.K fd ps [])(hg:Gl X x)(hm:X.mg x=some (.ref C))(ha:PA X [e] (tL (λ_=>E) fs))(IF:autoParam ↑7 aD._auto_1)(he:autoParam (starEach [e] X.env=(false,eval e X.env)::starEach [] X.env) aR._auto_1)(Iu:autoParam ((backTo Ik (starEach [] X.env)).any (·.1)=false) aR._auto_1):PS X (.Raise (some (.Call (.Name x p) [e] [] Ik)) none pos) (tS E (gQ C fl fs)):=by
 refine(rH O Ih (yE hc hf kp F hr hb hg hm ha IF he Iu)).imp λD σ H q=>rK q λB H₀ Hs H1 env Jf v sr rp hp=>?_
 match Jf,rp,hp with
 | [],_,hp=>exact hp.elim
 | _::_::_,_,hp=>exact hp.elim
 | [y],rp,hp =>
  obtain⟨v,rfl,ry⟩:=rp.one;refine⟨by show 1<=sizeLine;decide,λa n=>⟨a,v,rfl,aw,λd hd hda=>⟨rfl,a,C,some d,rfl,aw,c,ht,?_⟩⟩⟩;rw[uI];have hd1:H1 d=none:=by rwa[aq hda] at hd
  have g1:=bc.new (o:=.xd [(fl,v)]) sr.gr.sub hd1;have Kx:upd H1 d (.xd [(fl,v)]) a=none:=by rwa[aq (Nk hda)]
  have g2:=bc.new (o:=gC C (some d) a) g1.sub Kx;have hH:upd (upd (upd H1 a (jo C none a)) d (.xd [(fl,v)])) a (gC C (some d) a)=upd (upd H1 d (.xd [(fl,v)])) a (gC C (some d) a):=by
   funext b
   by_cases z:b=a
   .subst z;rw[aw,aw]
   .rw[aq z,aq z]
    by_cases z2:b=d
    .subst z2;rw[aw,aw]
    .rw[aq z2,aq z2,aq z]
  rw[hH];refine hp a (upd (upd Hs d (.xd [(fl,v)])) a (gC C (some d) a)) _ ((sr.gr.trans g1).trans g2) ?_;exact .ou aw (by rw[aq hda];exact aw) (.cons ((ry.mono g1.st).mono g2.st) .nil)
def nG{K:LI}{dV kV doc pm Ig ct oc:Value}{n0 n1 fl:Str}{p0 p1 p2 p3:Pos}(lk:K.lookup f=some ⟨oc,od,.func (MM name qual params [.Assign [.Attribute (.Name n0 p0) fl p1] (.Name n1 p2) p3] scope dV kV doc pm an Ig ct),J4⟩)(II:Nf K Ig qual=true)(S:bg [n0,n1] [n0,n1] scope)(c:eU K C)(ho:((NH K C).any λcd=>f7 cd.mro)=true)(na:cF K C fl)(v0:p4 scope n0)(v1:p4 scope n1)(d0:(n0==("__debug__" : Str))=false)(d1:(n1==("__debug__" : Str))=false)(c0:(n0==("__classdict__" : Str))=false)(c1:(n1==("__classdict__" : Str))=false)(hs:∀env,swapsWith (.Name n1 p2) (some (.Attribute (.Name n0 p0) fl p1)) p3.line env=pure false):aT P w K mg base (bB P w) 1 f (MM name qual params [.Assign [.Attribute (.Name n0 p0) fl p1] (.Name n1 p2) p3] scope dV kV doc pm an Ig ct) [n0,n1] (vt K C fl):=by
 refine nt (k:=0) lk II S (λvs H Q E h=>by obtain⟨a,y,rfl,_⟩:=h;rfl) λA outer s H vs Q E hr h=>?_;obtain⟨a,y,rfl,ha,hq⟩:=h;refine⟨_,Ax (ym (jI (i:=0) rfl v0 d0 c0) (jI (i:=1) rfl v1 d1 c1) (hs _)),?_⟩;exact⟨y,rfl,.ref a,rfl,a,C,rfl,ha,c,ho,na,hq⟩
end
structure kG (J:It) (Iq:Hp) (xs:List PV):Prop where
 stop:∀(i:Nat)(Hs H:Hp),aZ Iq Hs->aZ Hs H->xs.length<=i->J.stop i H
 go:∀(i:Nat)(Hs H:Hp),aZ Iq Hs->aZ Hs H->i<xs.length->J.go i H
 tw:∀(i:Nat)(Hs H:Hp)(x:V)(H2:Hp),aZ Iq Hs->aZ Hs H->i<xs.length->J.tw i H x H2->∃p Im,xs[i]?=some p/\bc Hs H Im H2/\Rep Im p x
def KI(R:It->Hp->Prop):Hp->Hp->List PV->Prop:=λHs H xs=>∀J HV H',bc Hs H HV H'->kG J HV xs->R J H'
def yZ(E:St->XK)(wi:TI)(it:af->M (List PV)):Prop:=∀(σ:St)(H:Hp)(R:It->Hp->Prop),tG E it (KI R) σ H->wi σ H R
theorem KI.g{R:It->Hp->Prop}:KG (KI R):=λHs H HV H' b k g J Im H2 g2 o=>k J Im H2 (g.trans g2) o
section
variable{K:LI}{f:af->M PV}{fs:af->M (List PV)}
def yC(hq:∀HV H',aZ Iq HV->aZ HV H'->qR K H' b a vs)(hr:aM Iq xs vs):kG (Fw K b a) Iq xs where
 stop:=λi Hs H s1 s2 hi=>by
  have q:=hq Hs H s1 s2;cases b with
  | true=>exact⟨vs,q,by rwa[<- hr.length]⟩
  | false=>exact⟨vs,q,by rwa[<- hr.length]⟩
 go:=λi Hs H s1 s2 hi=>by
  have q:=hq Hs H s1 s2;obtain⟨v,e,_⟩:=hr.get (LL hi);cases b with
  | true=>exact⟨vs,v,q,e⟩
  | false=>exact⟨vs,v,q,e⟩
 tw:=λi Hs H x H2 s1 s2 hi y=>by
  have q:=hq Hs H s1 s2;obtain⟨v,e,r⟩:=hr.get (LL hi);have z:H2=H/\vs[i]?=some x:=by
   cases b with
   | true=>exact⟨y.1,y.2 vs q⟩
   | false=>exact⟨y.1,y.2 vs q⟩
  obtain⟨rfl,z⟩:=z;rw[e] at z;cases z;exact⟨xs[i],Hs,LL hi,.refl s2,r.mono s1⟩
def kh:yZ E (Ed K (tE E f)) (itemsOf f):=by
 intro σ H R q;refine b_ (K:=KI R) KI.g q λB H₀ Hs H1 env p v sr rp hp=>?_;cases e:bT p with
 | none=>rw[e] at hp;exact hp.elim
 | some xs =>
  rw[e] at hp;obtain⟨b,a,vs,rfl,hq,hr⟩:=qd (K:=K) sr.gr.sub rp e;exact⟨b,a,rfl,⟨vs,hq Hs H1 (λ_ _ z=>z) sr.gr.sub⟩,hp (Fw K b a) Hs H1 (.refl sr.gr.sub) (yC hq hr)⟩
def k8(o:List PV->M (List PV))(fs:af->M (List PV)):af->M (List PV):=λenv=>(fs env).bind o
def qY{lo:Int}:kG (Ef lo n) Iq ((LZ n).map λ(i:Nat)=>PV.int (lo+(i:Int))) where
 stop:=λi Hs H s1 s2 hi=>show n<=i by simpa using hi
 go:=λi Hs H s1 s2 hi=>show i<n by simpa using hi
 tw:=λi Hs H x H2 s1 s2 hi y=>by
  obtain⟨rfl,rfl⟩:=y;exact⟨_,Hs,wC (by simpa using hi),.refl s2,.int _⟩
def aS(x:M α):x.bind M.ok=x:=by
 cases x with
 | none=>rfl
 |some x=>cases x<;>rfl
def cV:yZ E (Bi (tL E fs)) (k8 ip fs):=by
 intro σ H R q;refine dQ (K:=KI R) KI.g q λB H₀ Hs H1 env ps v sr rp hp=>?_;rw[<- aS (ip ps)] at hp;obtain⟨n,rfl,h1,h2,hp⟩:=vv hp;obtain⟨w,rfl,JX⟩:=rp.one;cases JX;exact⟨n,rfl,h1,h2,hp _ Hs H1 (.refl sr.gr.sub) qY⟩
def yn:yZ E (A4 (tL E fs)) (k8 tj fs):=by
 intro σ H R q;refine dQ (K:=KI R) KI.g q λB H₀ Hs H1 env ps v sr rp hp=>?_;rw[<- aS (tj ps)] at hp;obtain⟨n,m,rfl,h1,hp⟩:=wD hp;obtain⟨w,u,rfl,JX,ru⟩:=rp.two;cases JX;cases ru;exact⟨n,m,rfl,h1,hp _ Hs H1 (.refl sr.gr.sub) qY⟩
def y9{ys:List PV}(h1:i<xs.length)(h2:i<ys.length):(N4 (λa b=>PV.tup [a,b]) xs ys)[i]?=some (.tup [xs[i],ys[i]]):=by
 rw[Qj,LL h1,LL h2]
theorem yu{b1 b2:Bool}{a1 a2:Addr}{ys:List PV}{us:List V}(Jy:∀HV H',aZ Iq HV->aZ HV H'->qR K H' b1 a1 vs)(KH:aM Iq xs vs)(Jo:∀HV H',aZ Iq HV->aZ HV H'->qR K H' b2 a2 us)(Lu:aM Iq ys us):kG (FN K b1 b2 a1 a2) Iq (N4 (λa b=>PV.tup [a,b]) xs ys) where
 stop:=λi Hs H s1 s2 hi=>by
  rw[O9,KH.length,Lu.length] at hi;exact⟨vs,us,Jy Hs H s1 s2,Jo Hs H s1 s2,by lia⟩
 go:=λi Hs H s1 s2 hi=>by
  rw[O9] at hi;obtain⟨v,e,_⟩:=KH.get (LL (show i<xs.length by lia));obtain⟨u,e',_⟩:=Lu.get (LL (show i<ys.length by lia));exact⟨vs,us,v,u,Jy Hs H s1 s2,Jo Hs H s1 s2,e,e'⟩
 tw:=λi Hs H x H2 s1 s2 hi y=>by
  rw[O9] at hi;have l1:i<xs.length:=by lia
  have l2:i<ys.length:=by lia
  obtain⟨v,e,r⟩:=KH.get (LL l1);obtain⟨u,e',r'⟩:=Lu.get (LL l2);obtain⟨pa,v',u',hn,rfl,rfl,y1,y2⟩:=y;have z1:=y1 vs (Jy Hs H s1 s2);have z2:=y2 us (Jo Hs H s1 s2);rw[e] at z1;cases z1;rw[e'] at z2;cases z2;have gr:=bc.new (o:=.tup [v,u]) s2 hn;exact⟨_,_,y9 l1 l2,gr,.tup aw (.cons ((r.mono s1).mono gr.st) (.cons ((r'.mono s1).mono gr.st) .nil))⟩
def kq:yZ E (EO K (tL E fs)) (k8 zip2 fs):=by
 intro σ H R q;refine dQ (K:=KI R) KI.g q λB H₀ Hs H1 env ps v sr rp hp=>?_;rw[<- aS (zip2 ps)] at hp;obtain⟨p,q,xs,ys,rfl,e1,e2,hp⟩:=v7 hp;obtain⟨w,u,rfl,JX,ru⟩:=rp.two;obtain⟨b1,a1,vs,rfl,Jy,KH⟩:=qd (K:=K) sr.gr.sub JX e1;obtain⟨b2,a2,us,rfl,Jo,Lu⟩:=qd (K:=K) sr.gr.sub ru e2;exact⟨b1,b2,a1,a2,rfl,⟨vs,Jy Hs H1 (λ_ _ z=>z) sr.gr.sub⟩,⟨us,Jo Hs H1 (λ_ _ z=>z) sr.gr.sub⟩,hp _ Hs H1 (.refl sr.gr.sub) (yu Jy KH Jo Lu)⟩
end
theorem eo{E:XK}{g:TG}{set:PV->af->M af}{body:af->M Out}{bd:List Stmt}{wi:TI}{it:af->M (List PV)}(O:dh X λ_=>E)(hc:X.calm=true)(hi:PI X tg iter wi)(hv:yZ (λ_=>E) wi it)(hg:PG X tg g)(Kt:z6 E g set)(hb:i7 X bd (tS E body))(hs:autoParam ↑5 aI._auto_1):PS X (.For tg iter bd [] pos) (tS E (ko it set body)):=by
 refine(BX O.own hc hi hg hb hs).imp λD σ H q=>hv σ H _ ?_;obtain⟨B,H₀,Hs,env,sr,q⟩:=q;refine⟨B,H₀,Hs,env,sr,(ar.bind q).imp (λxs hp J HV H' gr ok=>?_) λe he=>he.grow sr.gr⟩;have JE:=sr.grow gr;refine⟨λi m σ H=>m=xs.length-i/\i<=xs.length/\Jv E set body D B H₀ HV xs i σ H,⟨xs.length,by simp,MP _,HV,env,JE,λ_ _ z=>z,hp⟩,?_⟩;rintro i m σ' H2 ⟨rfl,hi,Im,env2,IG,s2,h2⟩
 by_cases I_:i<xs.length
 .refine .inr ⟨ok.go i Im H2 s2 IG.gr.sub I_,Jv E set body D B H₀ HV xs (i+1),fun σ3 H3 j=>⟨xs.length-(i+1),by lia,rfl,I_,j⟩,λx H3 y=>?_⟩;obtain⟨p,JC,ep,g3,r3⟩:=ok.tw i Im H2 x H3 s2 IG.gr.sub I_ y;exact Jv.turn (Hx:=H2) (H1:=H2) Kt ep IG s2 h2 g3 r3
 .have e:i=xs.length:=by lia
  refine .inl ⟨ok.stop i Im H2 s2 IG.gr.sub ⋯,?_⟩;exact Jv.done (E:=E) (set:=set) (body:=body) (xs:=xs) (B:=B) (H₀:=H₀) (Iq:=HV) (n:=i) ⟨Im,env2,IG,s2,h2⟩ ⋯
abbrev EF:St->XK:=λ_ _ _ _=>False
def oh(env:af):Prop:=∀(i:Nat)(x:SV),env[i]?=some (some x)->∃p,x=.sh p
def oh.no{env:af}(n:oh env){x:SV}(e:env[i]?=some (some x))(o:gA x=true):False:=by obtain⟨p,rfl⟩:=n i _ e;cases o
def zp:M α->M α
 | some (.ok a)=>some (.ok a)
 |_=>none
theorem ar.zp{α:Type}{x:M α}{Q:α->Prop}{E:EX->Prop}(h:ar (L2.zp x) Q E):ar x Q (λ_=>False):=by
 cases x with
 | none=>exact h
 | some x=>cases x with
  | ok a=>exact h
  |error e=>exact h
def jS(n:Nat)(js:List Nat)(env:af):af:=LO n none++js.map λj=>match env[j]? with
 | some (some (.sh p))=>some (.sh p)
 |_=>none
theorem o8{env:af}{x:SV}(h:(jS n js env)[i]?=some (some x)):∃j p,n<=i/\js[i-n]?=some j/\env[j]?=some (some (.sh p))/\x=.sh p:=by
 unfold jS at h
 by_cases hi:i<n
 .rw[Mr (by simpa using hi),MY] at h
  split at h<;>cases h
 .rw[Mj (by simpa using hi),L_,OG] at h;cases hj:js[i-n]? with
  | none=>rw[hj] at h;cases h
  | some j =>
   rw[hj] at h;have h':(match env[j]? with|some (some (.sh p))=>some (SV.sh p)|_=>none)=some x:=L8 h
   split at h'
   .rename_i p e;cases h';exact⟨j,p,by lia,rfl,e,rfl⟩
   .cases h'
def jK{env:af}:oh (jS n js env):=λi xs e=>by
 obtain⟨_,p,_,_,_,z⟩:=o8 e;exact⟨p,z⟩
variable{D:Addr}
def SR.block{B:Hp}{env:af}{ts:List Str}(r:SR B H₀ Hs H σ env)(hD:H D=none):SR Hs H Hs (upd H D (.lst [])) (fe ts js σ) (jS ts.length js env) where
 gr:=(bc.refl r.gr.sub).lD (r.free hD).1 hD
 len:=by unfold fe jS;simp
 at_:=λi x e=>by
  obtain⟨j,q,hn,hj,he,rfl⟩:=o8 e;obtain⟨v,h1,h2⟩:=r.sh j q he;refine⟨v,?_,h2⟩;unfold fe;rw[Mj (by simpa using hn),L_,LK,hj];show some (σ[j]?).join=_;rw[h1];rfl
 ap:=λi j x y a _ e _ o=>(jK.no e o).elim
def SR.BM{B:Hp}{env:af}(r:SR B H₀ Hs H σ env)(n:oh env)(h1:Hs D=none)(h2:H₀ D=none):SR B H₀ Hs (upd H D o) σ env :=
 r.mv (r.gr.lD h1 h2) r.len (λ_ _ q=>q) λ_ _ e=>⟨e,rfl,λ_ _ o=>(n.no e o).elim⟩
def cY(set:PV->af->M af)(t:Option (af->M Bool))(f:af->M PV):List PV->af->M (List PV)
 | [],_=>M.ok []
 | x::xs,env=>(set x env).bind λe=>match t with
  | none=>(f e).bind λy=>(cY set t f xs e).bind λys=>M.ok (y::ys)
  |some t'=>(t' e).bind λb=>if b=true then (f e).bind λy=>(cY set t f xs e).bind λys=>M.ok (y::ys) else cY set t f xs e
def dS(it:af->M (List PV))(set:PV->af->M af)(t:Option (af->M Bool))(f:af->M PV)(n:Nat)(js:List Nat):af->M (List PV):=λenv=>(it env).bind λxs=>cX (xs.length<=sizeLine) (zp (cY set t f xs (jS n js env)))
def mL(set:PV->af->M af):Prop:=∀p env e,set p env=some (.ok e)->oh env->oh e
def p5{env:af}(n:oh env):oh (env.set i (some (.sh p))):=λj xs e=>by
 rw[M5] at e
 by_cases z:i=j
 .rw[if_pos z] at e
  split at e
  .cases e;exact⟨p,rfl⟩
  .cases e
 .rw[if_neg z] at e;exact n j xs e
def bU:mL (dg i):=λp env e h n=>by
 cases h;exact p5 n
def jL:mL (gP i j):=λp env e h n=>by
 unfold gP at h
 split at h
 .cases h;exact p5 (p5 n)
 .cases h
section
variable{set:PV->af->M af}{t:Option (af->M Bool)}{f:af->M PV}{Q:VK}{H1:Hp}
def Jc(set:PV->af->M af)(t:Option (af->M Bool))(f:af->M PV)(Q:VK)(Iq H1:Hp)(D:Addr)(xs:List PV)(i:Nat)(σ:St)(H:Hp):Prop:=∃Hs env ys vs,SR Iq H1 Hs H σ env/\oh env/\H D=some (.lst vs)/\Hs D=none/\aM Hs ys vs/\ys.length<=i ∧
 ar (cY set t f (xs.drop i) env) (λzs=>KO Q Iq H1 (ys++zs)) (λ_=>False)
def rem(H:Hp)(D:Addr):Hp:=λa=>if a=D then none else H a
def y6:rem H D D=none:=by unfold rem;rw[if_pos rfl]
def gX(n:a≠D):rem H D a=H a:=by unfold rem;rw[if_neg n]
def An(h:H D=some o):upd (rem H D) D o=H:=by
 funext a
 by_cases z:a=D
 .subst z;rw[aw,h]
 .rw[aq z,gX z]
def Jc.done(hD:H1 D=none)(j:Jc set t f Q Iq H1 D xs i σ H)(hi:xs.length<=i):Q (.ref D) H:=by
 obtain⟨Hs,env,ys,vs,sr,n,h1,h2,r,_,h⟩:=j;rw[P7 hi] at h;have h':KO Q Iq H1 (ys++[]):=h;rw[MK] at h';have gr:bc Iq H1 Hs (rem H D):=by
  refine⟨sr.gr.st,λc u q=>?_,λc u q=>?_,sr.gr.nw⟩
  .rw[gX (λz=>by rw[z,hD] at q;cases q)];exact sr.gr.al c u q
  .rw[gX (λz=>by rw[z,h2] at q;cases q)];exact sr.gr.sub c u q
 have:=h' vs D Hs (rem H D) gr r y6;rwa[An h1] at this
theorem Jc.put{env:af}{ys:List PV}{y:PV}(hD:H1 D=none)(sr:SR Iq H1 Hs H σ env)(n:oh env)(h1:H D=some (.lst vs))(h2:Hs D=none)(r:aM Hs ys vs)(hy:ys.length<=i)(hi:i<sizeLine)(rv:Rep Hs y v)(h:ar ((cY set t f (xs.drop (i+1)) env).bind λzs=>M.ok (y::zs)) (λzs=>KO Q Iq H1 (ys++zs)) (λ_=>False)):∃us,H D=some (.lst us)/\us.length<sizeLine/\Jc set t f Q Iq H1 D xs (i+1) σ (upd H D (.lst (us++[v]))):=by
 refine⟨vs,h1,by rw[<- r.length];lia,Hs,env,ys++[y],vs++[v],sr.BM n h2 hD,n,aw,h2,r.snoc rv,by rw[Mp];show ys.length+1<=i+1;lia,(ar.bind h).imp (λzs hz=>?_) λ_ z=>z⟩;have Ke:KO Q Iq H1 (ys++(y::zs)):=hz;rwa[Px]
end
section
variable{cl:List (Str×Addr)}{wi:TI}{it:af->M (List PV)}{g:TG}{set:PV->af->M af}{f:af->M PV}{u:af->M Bool}{ts fs:List Str}
def uS{s₀:Shared}{ex:List Addr}:dh (n9 X scope cl N C s₀ H₀ ex HQ) EF where
 pass:=λ_ _ _ _ _ _ _ h=>by
  obtain⟨_,_,_,_,_,_,_,_,_,_,_,_,_,z⟩:=h;exact z.elim
 new:=λ_ _ _ _ _ _ _ _ _ z=>z.elim
 own:=PassesOwn.never
theorem q_{Q:VK}(hv:yZ E wi it)(Kt:∀E,z6 E g set)(so:mL set)(q:tO E (dS it set none f ts.length js) σ H Q):sU wi g (tE EF f) ts js σ H Q:=by
 refine hv σ H _ ?_;obtain⟨B,H₀,Hs,env,sr,q⟩:=q;refine⟨B,H₀,Hs,env,sr,(ar.bind q).imp (λxs hp J Iq H1 gr ok D hD=>?_) λe he=>he⟩;obtain⟨hz,hp⟩:=ar.cX hp;have hp:=ar.zp hp;have K0:=sr.grow gr;refine⟨λi m σ H=>m=xs.length-i/\i<=xs.length/\Jc set none f Q Iq H1 D xs i σ H,⟨xs.length,by simp,MP _,Iq,_,[],[],K0.block hD,jK,aw,?_,.nil,LR _,hp.imp (λzs hz vs p Im H2 g2 r n=>hz vs p Im H2 (gr.trans g2) r n) λ_ z=>z⟩,?_⟩
 .cases z:Iq D with
  | none=>rfl
  | some o=>have:=gr.sub _ _ z;rw[hD] at this;cases this
 rintro i m σ' H2 ⟨rfl,hi,Im,env2,ys,vs,IG,n2,d1,d2,r2,l2,h2⟩
 by_cases I_:i<xs.length
 .refine .inr ⟨ok.go i Im H2 IG.gr.st IG.gr.sub I_,Jc set none f Q Iq H1 D xs (i+1),fun σ3 H3 j=>⟨xs.length-(i+1),by lia,rfl,I_,j⟩,λx H3 y=>?_⟩;obtain⟨p,JC,ep,g3,r3⟩:=ok.tw i Im H2 x H3 IG.gr.st IG.gr.sub I_ y;have hd:xs.drop i=p::xs.drop (i+1):=by
   rw[N7 I_];rw[LL I_] at ep;rw[L8 ep]
  rw[hd] at h2;have h3:=ar.bind h2;have JZ:=IG.grow g3;refine Kt (λ_ _ _=>False) Iq H1 JC H3 σ' env2 p x _ (λ_=>False) JZ r3 ?_;cases hset:set p env2 with
  | none=>rwa[hset] at h3
  | some z=>cases z with
   | error e=>rwa[hset] at h3
   | ok e3 =>
    rw[hset] at h3;intro σ4 sr4;have n4:=so p env2 e3 hset n2;refine⟨Iq,H1,JC,e3,sr4,(ar.bind h3).imp (λy hy v K_ H5 g5 r5=>?_) λ_ z=>z.elim⟩;exact Jc.put (set:=set) (t:=none) (f:=f) hD (sr4.grow g5) n4 (g5.al _ _ (g3.al _ _ d1)) (g5.nw _ _ (g3.nw _ _ d2 d1 (λ_=>nofun)) (g3.al _ _ d1) (λ_=>nofun)) ((r2.mono g3.st).mono g5.st) l2 ⋯ r5 hy
 .refine .inl ⟨ok.stop i Im H2 IG.gr.st IG.gr.sub ⋯,?_⟩;exact Jc.done (set:=set) (t:=none) (f:=f) (xs:=xs) (Iq:=Iq) (H1:=H1) (i:=i) hD ⟨Im,env2,ys,vs,IG,n2,d1,d2,r2,l2,h2⟩ ⋯
theorem y0{Q:VK}(hv:yZ E wi it)(Kt:∀E,z6 E g set)(so:mL set)(q:tO E (dS it set (some u) f ts.length js) σ H Q):w4 wi g (tT EF u) (tE EF f) ts js σ H Q:=by
 refine hv σ H _ ?_;obtain⟨B,H₀,Hs,env,sr,q⟩:=q;refine⟨B,H₀,Hs,env,sr,(ar.bind q).imp (λxs hp J Iq H1 gr ok D hD=>?_) λe he=>he⟩;obtain⟨hz,hp⟩:=ar.cX hp;have hp:=ar.zp hp;have K0:=sr.grow gr;refine⟨λi m σ H=>m=xs.length-i/\i<=xs.length/\Jc set (some u) f Q Iq H1 D xs i σ H,⟨xs.length,by simp,MP _,Iq,_,[],[],K0.block hD,jK,aw,?_,.nil,LR _,hp.imp (λzs hz vs p Im H2 g2 r n=>hz vs p Im H2 (gr.trans g2) r n) λ_ z=>z⟩,?_⟩
 .cases z:Iq D with
  | none=>rfl
  | some o=>have:=gr.sub _ _ z;rw[hD] at this;cases this
 rintro i m σ' H2 ⟨rfl,hi,Im,env2,ys,vs,IG,n2,d1,d2,r2,l2,h2⟩
 by_cases I_:i<xs.length
 .refine .inr ⟨ok.go i Im H2 IG.gr.st IG.gr.sub I_,Jc set (some u) f Q Iq H1 D xs (i+1),fun σ3 H3 j=>⟨xs.length-(i+1),by lia,rfl,I_,j⟩,λx H3 y=>?_⟩;obtain⟨p,JC,ep,g3,r3⟩:=ok.tw i Im H2 x H3 IG.gr.st IG.gr.sub I_ y;have hd:xs.drop i=p::xs.drop (i+1):=by
   rw[N7 I_];rw[LL I_] at ep;rw[L8 ep]
  rw[hd] at h2;have h3:=ar.bind h2;have JZ:=IG.grow g3;refine Kt (λ_ _ _=>False) Iq H1 JC H3 σ' env2 p x _ (λ_=>False) JZ r3 ?_;cases hset:set p env2 with
  | none=>rwa[hset] at h3
  | some z=>cases z with
   | error e=>rwa[hset] at h3
   | ok e3 =>
    rw[hset] at h3;intro σ4 sr4;have n4:=so p env2 e3 hset n2;refine⟨Iq,H1,JC,e3,sr4,(ar.bind h3).imp (λb hb K_ H5 g5=>?_) λ_ z=>z.elim⟩;have d5:=g5.al _ _ (g3.al _ _ d1);have e5:=g5.nw _ _ (g3.nw _ _ d2 d1 (λ_=>nofun)) (g3.al _ _ d1) (λ_=>nofun);cases b with
    | true =>
     refine⟨Iq,H1,K_,e3,sr4.grow g5,(ar.bind hb).imp (λy hy v Hs6 H6 g6 r6=>?_) λ_ z=>z.elim⟩;exact Jc.put (set:=set) (t:=some u) (f:=f) hD ((sr4.grow g5).grow g6) n4 (g6.al _ _ d5) (g6.nw _ _ e5 d5 (λ_=>nofun)) (((r2.mono g3.st).mono g5.st).mono g6.st) l2 ⋯ r6 hy
    | false=>exact⟨K_,e3,ys,vs,sr4.grow g5,n4,d5,e5,(r2.mono g3.st).mono g5.st,by lia,hb⟩
 .refine .inl ⟨ok.stop i Im H2 IG.gr.st IG.gr.sub ⋯,?_⟩;exact Jc.done (set:=set) (t:=some u) (f:=f) (xs:=xs) (Iq:=Iq) (H1:=H1) (i:=i) hD ⟨Im,env2,ys,vs,IG,n2,d1,d2,r2,l2,h2⟩ ⋯
def dM(Ih:X.calm=true)(Iw:closureFor scope X.env=pure cl)(hk:scope.kind=.function)(nc:fL scope.names=true)(lo:gF scope.names=true)(fh:gH cl scope.names=true)(ag:eK X cl)(fr:hO X scope cl fs js)(hi:PI X tg iter wi)(hv:yZ E wi it)(hg:∀C s₀ H₀ ex HQ,PG (n9 X scope cl (ts++fs) C s₀ H₀ ex HQ) tg g)(Kt:∀E,z6 E g set)(so:mL set)(he:∀C s₀ H₀ ex HQ,PE (n9 X scope cl (ts++fs) C s₀ H₀ ex HQ) elt (tE EF f))(hs:autoParam ↑5 aI._auto_1):PE X (.ListComp elt [⟨tg,iter,[],0⟩] scope pos) (tO E (dS it set none f ts.length js)):=by
 exact(yl Ih Iw hk nc lo fh ag fr hi hg he hs).imp fun σ H Q q=>q_ hv Kt so q
def rE(Ih:X.calm=true)(Iw:closureFor scope X.env=pure cl)(hk:scope.kind=.function)(nc:fL scope.names=true)(lo:gF scope.names=true)(fh:gH cl scope.names=true)(ag:eK X cl)(fr:hO X scope cl fs js)(hi:PI X tg iter wi)(hv:yZ E wi it)(hg:∀C s₀ H₀ ex HQ,PG (n9 X scope cl (ts++fs) C s₀ H₀ ex HQ) tg g)(Kt:∀E,z6 E g set)(so:mL set)(ht:∀C s₀ H₀ ex HQ,PT (n9 X scope cl (ts++fs) C s₀ H₀ ex HQ) c (tT EF u))(he:∀C s₀ H₀ ex HQ,PE (n9 X scope cl (ts++fs) C s₀ H₀ ex HQ) elt (tE EF f))(hs:autoParam ↑5 aI._auto_1):PE X (.ListComp elt [⟨tg,iter,[c],0⟩] scope pos) (tO E (dS it set (some u) f ts.length js)):=by
 exact(xq Ih Iw hk nc lo fh ag fr hi hg ht he hs).imp fun σ H Q q=>y0 hv Kt so q
def eV(fo:af->M (List PV)):af->M PV:=λenv=>(fo env).bind λps=>M.ok (.lst ps)
def fO{fo:af->M (List PV)}(he:PE X e (tO E fo)):PE X e (tE E (eV fo)):=he.imp fun σ H Q q=>by
 obtain⟨B,H₀,Hs,env,sr,q⟩:=q;refine⟨B,H₀,Hs,env,sr,(ar.bind q).imp (λps hp vs p HV H' g r n=>?_) λe he=>he⟩;have gn:=bc.new (o:=.lst vs) g.sub n;exact hp _ _ _ (g.trans gn) (.lst aw (r.mono gn.st))
end
def qf(f:Str)(v:PV):List (Str×PV)->List (Str×PV)
 | []=>[(f,v)]
 |(g,x)::r=>if g=f then (g,v)::r else (g,x)::qf f v r
theorem fS.put{H:Hp}{f:Str}{p:PV}{v:V}(h:Rep H p v):∀{fs:List (Str×PV)}{vs:List (Str×V)},fS H fs vs->fS H (qf f p fs) (iQ f v vs)
 | _,_,.nil=>.cons h .nil
 | (g,x)::r,_,.cons hx hr=>by
  unfold qf iQ
  by_cases z:g=f
  .rw[if_pos z,if_pos z];exact .cons h hr
  .rw[if_neg z,if_neg z];exact .cons hx (hr.put h)
theorem fS.length{H:Hp}:∀{fs:List (Str×PV)}{vs:List (Str×V)},fS H fs vs->fs.length=vs.length
 | _,_,.nil=>rfl
 |_,_,.cons _ r=>by simp[r.length]
def SR.FA{B:Hp}{env:af}{dx:Addr}{fs gs:List (Str×PV)}{us:List (Str×V)}(r:SR B H₀ Hs H σ env)(e:env[i]?=some (some (.bd a C fs)))(h:fS Hs gs us):SR B H₀ Hs (upd H a (.ins C dx us)) σ (env.set i (some (.bd a C gs))):=by
 obtain⟨dx0,vs,h1,h2,h3,h4,h5⟩:=r.bd i a C fs e;exact r.B0 h1 (r.gr.lD h3 h4) (λ_ _ q=>q) (λ_ q=>by cases q;exact⟨_,rfl,dx,us,rfl,aw,h3,h4,h⟩) (λj y b u n ej o z q1 q2 _=>⟨by rwa[aq (λw=>by subst w;exact r.ap i j _ y b n e ej rfl o h1 z)],q2⟩) λ_ _ _ k z n ek o=>r.ap i k _ z a n e ek rfl o h1
def yd(i:Nat)(C:Addr)(f:Str)(p:PV)(env:af):M Out:=match env[i]? with
 | some (some (.bd a C' fs))=>cX (C'=C/\fs.length<1000) (M.ok (.nx (env.set i (some (.bd a C (qf f p fs))))))
 |_=>none
def pO(i:Nat)(C:Addr)(fl:Str)(f:af->M PV):af->M Out:=λenv=>(f env).bind λp=>yd i C fl p env
section
variable{E:XK}{px:Pos}{f:af->M PV}{fl:Str}
def qw(hi:X.N[i]?=some x)(hv:p4 X.env.scope x)(c:ot X.K C)(na:cF X.K C fl)(he:PE X e (tE (λ_=>E) f))(hd:autoParam ↑7 aD._auto_1)(II:autoParam ↑6 aD._auto_1)(hs:autoParam (swapsWith e (some (.Attribute (.Name x px) fl pos')) pos.line X.env=pure false) aR._auto_1):PS X (.Assign [.Attribute (.Name x px) fl pos'] e pos) (tS E (pO i C fl f)):=by
 refine(C7 (jI hi hv hd II) he hs).imp λD σ H q=>iY q λB H₀ Hs H1 env p v sr rp hp=>?_;unfold yd at hp
 split at hp
 .rename_i a C' fs ex;obtain⟨⟨rfl,hz⟩,hp⟩:=ar.cX hp;obtain⟨dx,vs,h1,h2,h3,h4,h5⟩:=sr.bd i a _ fs ex;exact⟨.ref a,h1,a,_,dx,vs,rfl,h2,c,na,by rwa[<- h5.length],hp σ Hs _ (sr.FA ex (h5.put rp))⟩
 .exact hp.elim
end
def yG(m:Nat)(a C:Addr)(ps:List PV):af:=some (.bd a C [])::i_ (m-1) ps
def xo(a C:Addr)(env:af):M (List (Str×PV)):=match (env[0]?:Option (Option SV)) with
 | some (some (.bd b D fs))=>cX (b=a/\D=C) (M.ok fs)
 |_=>none
def outI(a C:Addr):Out->M (List (Str×PV))
 | .nx env=>xo a C env
 |_=>none
def zY(m:Nat)(g:af->M Out)(C a:Addr)(ps:List PV):M (List (Str×PV)):=(g (yG m a C ps)).bind (outI a C)
def Df(s:Addr->M α):M α:=open Classical in if h:∃r,∀a,s a=r then h.choose else none
def Cd{s:Addr->M α}{r:M α}(h:∀a,s a=r):Df s=r:=by
 have hx:∃r,∀a,s a=r:=⟨r,h⟩
 unfold Df;rw[dif_pos hx,<- hx.choose_spec 0,h 0]
theorem ar.Df{α:Type}{s:Addr->M α}{Q:α->Prop}{E:EX->Prop}(h:ar (L2.Df s) Q E)(a:Addr):ar (s a) Q E:=by
 unfold L2.Df at h
 split at h
 .rename_i hx;rwa[hx.choose_spec a]
 .exact h.elim
def CY(n:Nat)(C:Addr)(sem:Addr->List PV->M (List (Str×PV))):Sp:=λvs H Q E=>vs.length=n/\∃a dx us Hs H1 ps,vs=.ref a::us/\H1 a=none/\H1 dx=none/\dx≠a/\H=upd (upd H1 dx (.own a)) a (.ins C dx [])/\aZ Hs H1/\aM Hs ps us ∧
 ar (sem a ps) (λfs=>∀K1 ws HV H',bc Hs H1 HV H'->H' a=some (.ins C K1 ws)->HV a=none->fS HV fs ws->Q .bz H') (XW E Hs H1)
def SR.B7{dx:Addr}{ps:List PV}(s:aZ Hs H₀)(hN:0<N.length)(ha:H₀ a=none)(r:aM Hs ps vs)(hH:H=upd H₀ a (.ins C dx [])):SR Hs H₀ Hs H (L2.start N (.ref a::vs)) (yG N.length a C ps):=by
 have hs:Hs a=none:=by
  cases q:Hs a with
  | none=>rfl
  | some o=>have:=s _ _ q;rw[ha] at this;cases this
 have ne:∀c u,H₀ c=some u->c≠a:=λc u e z=>by rw[z,ha] at e;cases e
 have s0:=SR.start (N:=N.tail) s r;have e1:L2.start N (.ref a::vs)=some (.ref a)::L2.start N.tail vs:=by
  unfold L2.start;simp only[Mg,List.cons_append,M9,RE];rw[Nat.sub_sub,Rm]
 have e2:yG N.length a C ps=some (.bd a C [])::i_ N.tail.length ps:=by unfold yG;rw[RE]
 have al:aZ H₀ H:=λc u q=>by rwa[hH,aq (ne c u q)]
 rw[e1,e2];have no:∀(j:Nat)(x:SV),(i_ N.tail.length ps)[j]?=some (some x)->gA x=true->False:=λj x e o=>by
  obtain⟨v,h1,h2⟩:=s0.at_ j x e;obtain⟨b,u,_,q1,_,q2,_⟩:=h2.lD o;rw[q2] at q1;cases q1
 refine⟨⟨λ_ _ e=>e,al,λc u q=>al c u (s c u q),λc u q _ _=>q⟩,by simp[s0.len],λj x ej=>?_,λj k x y b nj e1 e2 o1 o2=>?_⟩
 .cases j with
  | zero=>cases ej;exact⟨_,rfl,dx,[],rfl,by rw[hH];exact aw,hs,ha,.nil⟩
  | succ j =>
   have ej:(i_ N.tail.length ps)[j]?=some (some x):=by simpa using ej
   obtain⟨v,h1,h2⟩:=s0.at_ j x ej;exact⟨v,by simpa using h1,h2.mono (λ_ _ q=>q) λ_ _ o=>(no j x ej o).elim⟩
 .cases j with
  | zero=>cases k with
   | zero=>exact absurd rfl nj
   | succ k=>exact(no k y (by simpa using e2) o2).elim
  |succ j=>exact(no j x (by simpa using e1) o1).elim
def AR{K:LI}{dV kV doc pm Ig ct oc:Value}{g:af->M Out}(lk:K.lookup f=some ⟨oc,od,.func (MM name qual params body scope dV kV doc pm an Ig ct),J4⟩)(II:Nf K Ig qual=true)(S:bg N ps scope)(hN:0<N.length)(hb:∀(A:Around)(outer:List Env)(s:Shared)(H:Hp)(E:XK),bD k (A.deeper (envOfC qual scope s.heap.objs.size f Ig))->i7 ((eQ (bB P w) P w K mg base N qual scope f Ig A outer s H E).out λ_=>E) body (tS E g)):aT P w K mg base (bB P w) (k+1) f (MM name qual params body scope dV kV doc pm an Ig ct) ps (CY ps.length C (zY N.length g C)):=by
 refine nt lk II S (λvs H Q E h=>h.1) λA outer s H vs Q E hr hs=>⟨_,hb A outer s H E hr,?_⟩
 obtain⟨_,a,dx,us,Hs,H1,Jf,rfl,ha,hdx,Kd,hH,sm,r,h⟩:=hs;have ne:∀c u,H1 c=some u->c≠dx:=λc u e z=>by rw[z,hdx] at e;cases e
 have s0:aZ H1 (upd H1 dx (.own a)):=λc u q=>by rwa[aq (ne c u q)]
 have g0:bc Hs H1 Hs (upd H1 dx (.own a)):=⟨λ_ _ e=>e,s0,λc u q=>s0 c u (sm c u q),λ_ _ e _ _=>e⟩
 refine⟨Hs,_,Hs,_,SR.B7 (dx:=dx) g0.sub hN (by rwa[aq (Nk Kd)]) r hH,(ar.bind h).imp (λo ho=>?_) λe he=>he.grow g0⟩;cases o with
 | rt p=>exact ho.elim
 | bk env=>exact ho.elim
 | ct env=>exact ho.elim
 | nx env =>
  intro σ HV H' sr;have Ju:ar (xo a C env) _ _:=ho;unfold xo at Ju
  split at Ju
  .rename_i b D fs ex;obtain⟨⟨rfl,rfl⟩,hp⟩:=ar.cX Ju;obtain⟨K1,ws,h1,h2,h3,h4,h5⟩:=sr.bd 0 _ _ fs ex;exact hp K1 ws HV H' (g0.trans sr.gr) h2 h3 h5
  .exact Ju.elim
def nZ(C:Addr)(sem:Addr->List PV->M (List (Str×PV)))(Jb:List PV)(ps:List PV):M PV:=(Df λa=>sem a (ps++Jb)).bind λfs=>M.ok (.obj C fs)
section
variable{ns:List Str}{sem:Addr->List PV->M (List (Str×PV))}{p:Pos}{fs:af->M (List PV)}
def AU(Mk:Mk X.K C f)(F:aT X.prog X.w X.K X.mg X.base (bB X.prog X.w) k f fd ns (CY n C sem))(hr:bD (k+1) X.A)(hg:Gl X x)(hm:X.mg x=some (.ref C))(hb:Binds X.K fd ns ds)(hd:Vals IH ds)(hdp:∀H,aM H Jb IH)(O:dh X E)(hl:∀a ps,sem a (ps++Jb)≠none->ps.length+Jb.length+1=n)(ha:PA X (e::es) (tL E fs))(IF:autoParam ↑7 aD._auto_1)(he:autoParam ↑0 aR._auto_1)(Iu:autoParam ↑2 aR._auto_1):PE X (.Call (.Name x p) (e::es) [] pos) (tE E (ah (nZ C sem Jb) fs)):=by
 refine(xG Mk F hr hg hm hb hd O ha IF he Iu).imp fun σ H Q q=>dQ (K:=ja Q) ja.g q λB H₀ Hs H1 env Jf v sr rp hp=>?_;intro a dx ha hdx Kd;have r2:aM Hs (Jf++Jb) (v++IH):=rp.append (hdp Hs);have KD:=(ar.bind hp).Df a;have hn:sem a (Jf++Jb)≠none:=λz=>by
  rwa[z] at KD
 refine⟨?_,a,dx,v++IH,Hs,H1,Jf++Jb,rfl,ha,hdx,Kd,rfl,sr.gr.sub,r2,KD.imp (λfl hfl K1 ws HV H' g hw Lw JX=>⟨rfl,?_⟩) λe he=>he⟩
 .show (v++IH).length+1=n;rw[<- r2.length,Mp];exact hl a Jf hn
 .have ne:∀c u,HV c=some u->c≠a:=λc u q z=>by rw[z,Lw] at q;cases q
  have Ja:aZ HV (upd HV a (.ins C K1 ws)):=λc u q=>by rwa[aq (ne c u q)]
  refine hfl (.ref a) (upd HV a (.ins C K1 ws)) H' ⟨λc u q=>Ja c u (g.st c u q),g.al,λc u q=>?_,λc u q1 q2 q3=>?_⟩ (.obj aw (JX.mono Ja))
  .by_cases z:c=a
   .subst z;rw[aw] at q;cases q;exact hw
   .rw[aq z] at q;exact g.sub c u q
  .have z:c≠a:=λz=>by rw[z,ha] at q2;cases q2
   rw[aq z];exact g.nw c u q1 q2 q3
end
section
variable{a b:Expr}{f g h:af->M PV}
def lE{m:Nat}(h:n.log2<m):n<2^m:=by
 by_cases z:n=0
 .subst z;exact Nat.two_pow_pos m
 .exact(RM z).mp h
theorem aM.rep{H:Hp}{xs:List PV}{vs:List V}(r:aM H xs vs):∀k:Nat,aM H (LO k xs).flatten (LO k vs).flatten
 | 0=>.nil
 |k+1=>by rw[ML,ML,M4,M4];exact r.append (r.rep k)
def cG:PV->PV->M PV
 | .int i,.int j=>cX (i.natAbs.log2<67108864/\j.natAbs.log2<67108864) (M.ok (.int (i*j)))
 | .tup xs,.int k=>cX (xs.isEmpty=false/\-(2^63)<=k/\k<2^63/\xs.length*k.toNat<=sizeLine) (M.ok (.tup (LO k.toNat xs).flatten))
 | .lst xs,.int k=>cX (-(2^63)<=k/\k<2^63/\xs.length*k.toNat<=sizeLine) (M.ok (.lst (LO k.toNat xs).flatten))
 |_,_=>none
def Bj(K:LI):R2:=λx y H Q=>(rI (λi j=>IntMulOk i j) λi j=>.int (i*j)) x y H Q\/A7 K x y H Q\/Ec x y H Q
def AO:gc X (binaryOp .Mult) (Bj X.K):=gc.or A0 (gc.or Ar BN)
def CH{K:LI}:jZ E (Bj K) cG:=by
 intro σ Hs H p q v u Q s rp rq h;cases rp with
 | int i=>cases rq with
  | int j =>
   obtain⟨hz,h⟩:=ar.cX h;exact .inl ⟨i,j,rfl,rfl,yi (lE hz.1) (lE hz.2) (LR _),dX.flat h s (.int _)⟩
  | _=>exact h.elim
 | @tup a xs vs ha hx=>cases rq with
  | int k =>
   obtain⟨⟨h0,h1,h2,h3⟩,h⟩:=ar.cX h;have n1:vs≠[]:=λz=>by
    have:=hx.length;rw[z] at this;cases xs with
    | nil=>cases h0
    | cons _ _=>cases this
   refine .inr (.inl ⟨a,k,vs,rfl,rfl,gB.of (s _ _ ha),n1,h1,h2,by rwa[<- hx.length],λz=>?_,λz=>dX.tup h s (hx.rep _)⟩);subst z;rw[show (1:Int).toNat=1 from rfl,ML,List.replicate_zero,M4,List.flatten_nil,MK] at h;exact dX.flat h s (.tup ha hx)
  | _=>exact h.elim
 | @lst a xs vs ha hx=>cases rq with
  | int k =>
   obtain⟨⟨h1,h2,h3⟩,h⟩:=ar.cX h;exact .inr (.inr ⟨a,k,vs,rfl,rfl,s _ _ ha,h1,h2,by rwa[<- hx.length],dX.lst h s (hx.rep _)⟩)
  | _=>exact h.elim
 |_=>exact h.elim
def AF:jZ E (rI yp λi j=>.int (i.fdiv j)) (tD (λ_ j=>decide (j≠0/\j.natAbs.log2<9000)) λi j=>i.fdiv j):=tY λi j z=>(of_decide_eq_true z:j≠0/\j.natAbs.log2<9000)
def BI:jZ E (rI (λ_ j=>j≠0) λi j=>.int (i.fmod j)) (tD (λ_ j=>decide (j≠0)) λi j=>i.fmod j):=tY λi j z=>of_decide_eq_true z
def CZ:jZ E (rI Cg λi j=>.int (i^j.toNat)) (tD (λi j=>decide (0<=j/\j<=1000000/\i.natAbs<2^64)) λi j=>i^j.toNat):=tY λi j z=>(of_decide_eq_true z:0<=j/\j<=1000000/\i.natAbs<2^64)
def vV:PV->M PV
 | .int i=>M.ok (.int (-i))
 |_=>none
def k7(f:af->M PV):af->M PV:=λenv=>(f env).bind vV
def BL(ha:PE X a (tE E f)):PE X (.UnaryOp .USub a pos) (tE E (k7 f)) :=
 (EA BH ha).imp fun σ H Q q=>EW q λHs H1 p v s rp h=>by
  cases rp with
  | int i=>exact⟨i,rfl,dX.flat h s (.int _)⟩
  |_=>exact h.elim
def nK:PV->Bool
 | .bz=>true
 |_=>false
def xm(r:Rep H p v):decide (v=.bz)=nK p:=by
 cases r<;>rfl
def lY:PV->PV->M PV
 | p,.bz=>M.ok (.bl (nK p))
 |_,_=>none
def yP:jZ E (λx y H Q=>y=.bz/\Q (.bl (decide (x=.bz))) H) lY:=by
 intro σ Hs H p q v u Q s rp rq h;cases rq with
 | bz =>
  have h':ar (M.ok (PV.bl (nK p))) (dX Hs H Q) (XW (E σ) Hs H):=by cases p<;>exact h
  exact⟨rfl,by rw[xm rp];exact dX.flat h' s (.bl _)⟩
 |_=>cases p<;>exact h.elim
def fM(o o':PV->PV->M PV)(f g h:af->M PV):af->M PV:=λenv=>(f env).bind λp=>(g env).bind λq=>(o p q).bind λz=>(ui z).bind λk=>if k=true then (h env).bind λr=>o' q r else M.ok (.bl false)
def r8{r r':R2}{o o':PV->PV->M PV}(hv:jZ E r o)(KY:jZ E r' o'){Q:VK}(q:tE E (fM o o' f g h) σ H Q):tW r r' (tE E f) (tE E g) (tE E h) σ H Q:=by
 refine b_ (K:=ja Q) ja.g q λB H₀ Hs H1 env p v sr rp hp=>?_;refine⟨B,H₀,Hs,env,sr,(ar.bind hp).imp (λq hq u Im H2 g2 ru=>?_) λe he=>he⟩;have IG:=sr.grow g2;refine hv σ Im H2 p q v u _ IG.gr.sub (rp.mono g2.st) ru ((ar.bind hq).imp (λz hz w JC H3 g3 JX=>?_) λe he=>he.grow g2);obtain⟨k,ek,hk⟩:=ar.Fq (ar.bind hz);subst ek;cases JX;refine⟨k,rfl,?_⟩;have JZ:=IG.grow g3;cases k with
 | false=>exact hk _ _ _ (g2.trans g3) (.bl _)
 | true =>
  have Ka:ar ((h env).bind λr=>o' q r) (ja Q Hs H1) (XW (E σ) Hs H1):=hk;refine⟨B,H₀,JC,env,JZ,(ar.bind Ka).imp (λr hr w Hs4 H4 g4 rw4=>?_) λe he=>he.grow (g2.trans g3)⟩;exact KY σ Hs4 H4 q r u w Q (JZ.grow g4).gr.sub ((ru.mono g3.st).mono g4.st) rw4 (hr.imp (λz hz w' K_ H5 g5 r5=>hz w' K_ H5 ((g2.trans g3).trans (g4.trans g5)) r5) λe he=>he.grow ((g2.trans g3).trans g4))
def rz{JW:CmpOp}{r r':R2}{o o':PV->PV->M PV}(ho:gc X (compareOp op) r)(hv:jZ E r o)(Ju:gc X (compareOp JW) r')(KY:jZ E r' o')(ha:PE X a (tE E f))(hb:PE X b (tE E g))(hc:PE X c (tE E h))(hm:autoParam (lastMarks [op,JW] [b,c]=false) aU._auto_1):PE X (.Compare a [op,JW] [b,c] pos) (tE E (fM o o' f g h)) :=
 (xn ho Ju ha hb hc hm).imp fun σ H Q q=>r8 hv KY q
def se{JW:CmpOp}{r r':R2}{o o':PV->PV->M PV}(ho:gc X (compareOp op) r)(hv:jZ E r o)(Ju:gc X (compareOp JW) r')(KY:jZ E r' o')(ha:PE X a (tE E f))(hb:PE X b (tE E g))(hc:PE X c (tE E h))(hm:autoParam (lastMarks [op,JW] [b,c]=false) aU._auto_1):PT X (.Compare a [op,JW] [b,c] pos) (tT E (bO (fM o o' f g h))) :=
 (yO ho Ju ha hb hc hm).imp fun σ H Q q=>r8 hv KY (mX q)
def cK(u:af->M Bool)(b:af->M Out):Nat->af->M Out
 | 0,_=>none
 | n+1,env=>(u env).bind λt=>if t=true then (b env).bind λo=>match o with
   | .nx HS=>cK u b n HS
   | .ct HS=>cK u b n HS
   | .bk HS=>M.ok (.nx HS)
   | .rt p=>M.ok (.rt p)
  else M.ok (.nx env)
def vQ{E:XK}{u:af->M Bool}{g:af->M Out}(n:af->Nat)(O:dh X λ_=>E)(hc:PT X c (tT (λ_=>E) u))(hb:i7 X body (tS E g)):PS X (.While c body [] pos) (tS E λenv=>cK u g (n env) env):=by
 refine(ya O.own hc hb).imp λD σ H q=>?_;obtain⟨B,H₀,Hs,env,sr,q⟩:=q;refine⟨λm σ H=>∃Hs env,SR B H₀ Hs H σ env/\ar (cK u g m env) (KS D B H₀) (XW E B H₀),⟨n env,Hs,env,sr,q⟩,?_⟩;rintro m σ1 H1 ⟨Iq,env1,K0,q1⟩;cases m with
 | zero=>exact q1.elim
 | succ m =>
  refine⟨B,H₀,Iq,env1,K0,(ar.bind q1).imp (λt ht Im H2 g2=>?_) λe he=>he.grow K0.gr⟩;have IG:=K0.grow g2;cases t with
  | false=>exact ht σ1 Im H2 IG
  | true =>
   refine⟨fun σ' H'=>∃HV HS,SR B H₀ HV H' σ' HS/\ar (cK u g m HS) (KS D B H₀) (XW E B H₀),fun σ' H' z=>⟨m,M_ m,z⟩,B,H₀,Im,env1,IG,(ar.bind ht).imp (λo ho=>?_) λe he=>he⟩;cases o with
   | nx HS=>exact fun σ' HV H' JE=>⟨HV,HS,JE,ho⟩
   | ct HS=>exact fun σ' HV H' JE=>⟨HV,HS,JE,ho⟩
   | bk HS=>exact ho
   |rt p=>exact ho
theorem iB{u:af->M Bool}{g:af->M Out}:∀(n k:Nat)(env:af),cK u g n env≠none->cK u g (n+k) env=cK u g n env
 | 0,_,_,h=>(h rfl).elim
 | n+1,k,env,h=>by
  rw[show n+1+k=(n+k)+1 by lia];unfold cK at h ⊢;cases hu:u env with
  | none=>rfl
  | some z =>
   cases z with
   | error e=>rfl
   | ok t =>
    rw[hu] at h;cases t with
    | false=>rfl
    | true =>
     show M.bind (g env) _=M.bind (g env) _;have h':M.bind (g env) (λo=>match o with
      | .nx HS=>cK u g n HS
      | .ct HS=>cK u g n HS
      | .bk HS=>M.ok (.nx HS)
      | .rt p=>M.ok (.rt p))≠none:=h
     cases hg:g env with
     | none=>rfl
     | some z =>
      cases z with
      | error e=>rfl
      | ok o =>
       rw[hg] at h';cases o with
       | nx HS=>exact iB n k HS h'
       | ct HS=>exact iB n k HS h'
       | bk HS=>rfl
       |rt p=>rfl
def nF(u:af->M Bool)(b:af->M Out)(env:af):M Out:=open Classical in cK u b (if h:∃n,cK u b n env≠none then h.choose else 0) env
def vn{u:af->M Bool}{b:af->M Out}{env:af}(h:cK u b n env≠none):nF u b env=cK u b n env:=by
 have hx:∃n,cK u b n env≠none:=⟨n,h⟩
 unfold nF;rw[dif_pos hx];have h1:=hx.choose_spec;rw[<- iB _ n env h1,<- iB n hx.choose env h,Rm]
def xJ{E:XK}{u:af->M Bool}{g:af->M Out}(O:dh X λ_=>E)(hc:PT X c (tT (λ_=>E) u))(hb:i7 X body (tS E g)):PS X (.While c body [] pos) (tS E (nF u g)) :=
 vQ (λenv=>open Classical in if h:∃n,cK u g n env≠none then h.choose else 0) O hc hb
end
def AE:PV->Option String
 | .bz=>some "NoneType"
 | .bl _=>some "bool"
 | .int _=>some "int"
 | .str _=>some "str"
 | .lst _=>some "list"
 | .eS _=>some "list"
 | .tup _=>some "tuple"
 | .emp=>some "dict"
 |_=>none
def dH(a t:String):Bool:=a==t||(a == "bool" && t == "int")
def lX(K:LI):L6 K (.type "NoneType") (.type "int")=some false:=by with_unfolding_all kernel_rfl
def qQ(K:LI):L6 K (.type "bool") (.type "int")=some true:=by with_unfolding_all kernel_rfl
def tys:List String:=["int","bool","str","list","tuple"]
def DT(K:LI){a t:String}(ha:AE p=some a)(ht:t∈tys):L6 K (.type a) (.type t)=some (dH a t):=by
 have ht2:t="int" \/ t="bool" \/ t="str" \/ t="list" \/ t="tuple" := by simpa [tys] using ht
 cases p<;>cases ha<;>rcases ht2 with rfl|rfl|rfl|rfl|rfl<;>first
  | exact lX K
  | exact kt_NoneType_bool K
  | exact kt_NoneType_str K
  | exact kt_NoneType_list K
  | exact kt_NoneType_tuple K
  | exact qQ K
  | exact kt_bool_bool K
  | exact kt_bool_str K
  | exact kt_bool_list K
  | exact kt_bool_tuple K
  | exact kt_int_int K
  | exact kt_int_bool K
  | exact kt_int_str K
  | exact kt_int_list K
  | exact kt_int_tuple K
  | exact kt_str_int K
  | exact kt_str_bool K
  | exact kt_str_str K
  | exact kt_str_list K
  | exact kt_str_tuple K
  | exact kt_list_int K
  | exact kt_list_bool K
  | exact kt_list_str K
  | exact kt_list_list K
  | exact kt_list_tuple K
  | exact kt_tuple_int K
  | exact kt_tuple_bool K
  | exact kt_tuple_str K
  | exact kt_tuple_list K
  | exact kt_tuple_tuple K
  | exact kt_dict_int K
  | exact kt_dict_bool K
  | exact kt_dict_str K
  | exact kt_dict_list K
  |exact kt_dict_tuple K
def ur{K:LI}{a:String}(s:aZ Hs H)(r:Rep Hs p v)(ha:AE p=some a):iP K H v (.type a):=by
 cases r with
 | bz=>cases ha;exact .bz
 | bl b=>cases ha;exact .bl b
 | int i=>cases ha;exact .int i
 | str x=>cases ha;exact .str x
 | tup h _=>cases ha;exact .tup (s _ _ h)
 | lst h _=>cases ha;exact .lst (s _ _ h)
 | eS h _=>cases ha;exact .lA (s _ _ h)
 | emp h=>cases ha;exact .dK (s _ _ h)
 |_=>cases ha
theorem uK(K:LI){p:PV}{a:String}(ha:AE p=some a):∀{Ts:List String},(∀t∈Ts,t∈tys)->Pj K (.type a) (Ts.map M0)=some (Ts.any λt=>dH a t)
 | [],_=>rfl
 | t::r,h=>by
  have h1:=DT K ha (h t L4);have h2:=uK K ha (Ts:=r) λt q=>h t (LQ _ q);simp only[Mg,Pj,h1,List.any_cons];cases dH a t with
  | true=>rfl
  |false=>exact h2
structure uo (K:LI) (C:Addr):Prop where
 cls:ot K C
 ha:Ms K (.ref C) "__class__"=some (some (.builtin "object.__class__"))
 hn:Ou K (.builtin "object.__class__") "__get__"=some (some (.builtin "getset_descriptor.__get__"))
 DM:OY K (.builtin "object.__class__")=some true
 hm:PB K C (.type "object")=some true
def tJ(b:String->Bool)(ob oe:Addr->Option Bool):PV->M PV
 | .obj C _=>fJ ((ob C).map .bl)
 | .exc C _=>fJ ((oe C).map .bl)
 |p=>fJ ((AE p).map λa=>.bl (b a))
section
variable{p px pt:Pos}{f:af->M PV}{T:String}{ob oe:Addr->Option Bool}
def xH{fo:Option (List (Str×PV))}(s:aZ Hs H)(r:Rep Hs (.exc C fo) v):∃a Ld,v=.ref a/\ExcAt H a C Ld:=by
 cases r with
 | @qk a _ h=>exact⟨a,none,rfl,s _ _ h⟩
 |@ou a _ d _ vs h h2 _=>exact⟨a,some vs,rfl,d,s _ _ h,s _ _ h2⟩
def iV(b:String->Bool)(ob oe:Addr->Option Bool)(f:af->M PV):af->M PV:=λenv=>(f env).bind (tJ b ob oe)
def ni{b:String->Bool}{p:PV}{Q:PV->Prop}{F:EX->Prop}(h:ar (tJ b ob oe p) Q F):(∃a,AE p=some a/\Q (.bl (b a)))\/(∃C fs k,p=.obj C fs/\ob C=some k/\Q (.bl k))\/∃C fo k,p=.exc C fo/\oe C=some k/\Q (.bl k):=by
 cases p with
 | obj C fs =>
  obtain⟨z,e,q⟩:=ar.opt h;obtain⟨k,e2,rfl⟩:=LP.mp e;exact .inr (.inl ⟨C,fs,k,rfl,e2,q⟩)
 | exc C fo =>
  obtain⟨z,e,q⟩:=ar.opt h;obtain⟨k,e2,rfl⟩:=LP.mp e;exact .inr (.inr ⟨C,fo,k,rfl,e2,q⟩)
 | bz=>exact .inl ⟨_,rfl,h⟩
 | bl _=>exact .inl ⟨_,rfl,h⟩
 | int _=>exact .inl ⟨_,rfl,h⟩
 | str _=>exact .inl ⟨_,rfl,h⟩
 | tup _=>exact .inl ⟨_,rfl,h⟩
 | lst _=>exact .inl ⟨_,rfl,h⟩
 | eS _=>exact .inl ⟨_,rfl,h⟩
 | emp=>exact .inl ⟨_,rfl,h⟩
 | tX _=>exact h.elim
 |fn _=>exact h.elim
def t9{K:LI}{fs:List (Str×PV)}(s:aZ Hs H)(r:Rep Hs (.obj C fs) v)(c:uo K C):iP K H v (.ref C):=by
 cases r with
 |obj h _=>exact .ins (s _ _ h) c.cls c.ha c.hn c.DM c.hm
def c_(hg:Gl X "isinstance")(hm:X.mg "isinstance"=none)(hT:PE X (.Name x pt) (tC (.ty T)))(ht:T∈tys)(KC:∀C b,ob C=some b->uo X.K C/\L6 X.K (.ref C) (.type T)=some b)(J8:∀C b,oe C=some b->eU X.K C/\L6 X.K (.ref C) (.type T)=some b)(he:PE X e (tE E f))(h1:autoParam (starEach [e,.Name x pt] X.env=(false,eval e X.env)::starEach [.Name x pt] X.env) aR._auto_1)(h2:autoParam (starEach [.Name x pt] X.env=(false,eval (.Name x pt) X.env)::starEach [] X.env) aR._auto_1)(Iu:autoParam ((backTo pos (starEach [.Name x pt] X.env)).any (·.1)=false) aR._auto_1):PE X (.Call (.Name "isinstance" p) [e,.Name x pt] [] pos) (tE E (iV (λa=>dH a T) ob oe f)):=by
 refine(kr (dn.or xv sj) hg hm uu (bM he (bM hT e9 h2) h1) ↑12 ↑12 h1 Iu).imp fun σ H Q q=>b_ (K:=ja Q) ja.g q λB H₀ Hs H1 env p v sr rp hp=>?_;rcases ni hp with ⟨a,ha,q⟩|⟨C,fs,k,rfl,e,q⟩|⟨C,fo,k,rfl,e,q⟩
 .exact .inl ⟨v,T,_,_,rfl,ur sr.gr.sub rp ha,DT X.K ha ht,dX.flat q sr.gr.sub (.bl _)⟩
 .exact .inl ⟨v,T,_,_,rfl,t9 sr.gr.sub rp (KC C k e).1,(KC C k e).2,dX.flat q sr.gr.sub (.bl _)⟩
 .obtain⟨a,Ld,rfl,hx⟩:=xH sr.gr.sub rp;exact .inr ⟨a,C,Ld,k,(J8 C k e).1,hx,.inl ⟨T,rfl,(J8 C k e).2⟩,dX.flat q sr.gr.sub (.bl _)⟩
def B2(hg:Gl X "isinstance")(hm:X.mg "isinstance"=none)(hT:PE X (.Name x pt) (tC (.ref D)))(hk:∀p a,AE p=some a->L6 X.K (.type a) (.ref D)=some false)(KC:∀C b,ob C=some b->uo X.K C/\L6 X.K (.ref C) (.ref D)=some b)(J8:∀C b,oe C=some b->eU X.K C/\L6 X.K (.ref C) (.ref D)=some b)(he:PE X e (tE E f))(h1:autoParam (starEach [e,.Name x pt] X.env=(false,eval e X.env)::starEach [.Name x pt] X.env) aR._auto_1)(h2:autoParam (starEach [.Name x pt] X.env=(false,eval (.Name x pt) X.env)::starEach [] X.env) aR._auto_1)(Iu:autoParam ((backTo pos (starEach [.Name x pt] X.env)).any (·.1)=false) aR._auto_1):PE X (.Call (.Name "isinstance" p) [e,.Name x pt] [] pos) (tE E (iV (λ_=>false) ob oe f)):=by
 refine(kr (dn.or xB sj) hg hm uu (bM he (bM hT e9 h2) h1) ↑12 ↑12 h1 Iu).imp fun σ H Q q=>b_ (K:=ja Q) ja.g q λB H₀ Hs H1 env p v sr rp hp=>?_;rcases ni hp with ⟨a,ha,q⟩|⟨C,fs,k,rfl,e,q⟩|⟨C,fo,k,rfl,e,q⟩
 .exact .inl ⟨v,D,_,_,rfl,ur sr.gr.sub rp ha,hk p a ha,dX.flat q sr.gr.sub (.bl _)⟩
 .exact .inl ⟨v,D,_,_,rfl,t9 sr.gr.sub rp (KC C k e).1,(KC C k e).2,dX.flat q sr.gr.sub (.bl _)⟩
 .obtain⟨a,Ld,rfl,hx⟩:=xH sr.gr.sub rp;exact .inr ⟨a,C,Ld,k,(J8 C k e).1,hx,.inr ⟨D,rfl,(J8 C k e).2⟩,dX.flat q sr.gr.sub (.bl _)⟩
def mh{e2:Expr}{t2:TE}{Ts:List String}(hg:Gl X "isinstance")(hm:X.mg "isinstance"=none)(hT:PE X e2 t2)(ht2:∀σ H R,(∀p,H p=none->R (.ref p) (upd H p (.tup (Ts.map V.ty))))->t2 σ H R)(ht:∀t∈Ts,t∈tys)(KC:∀C b,ob C=some b->uo X.K C/\Pj X.K (.ref C) (Ts.map M0)=some b)(he:PE X e (tE E f))(h1:autoParam (starEach [e,e2] X.env=(false,eval e X.env)::starEach [e2] X.env) aR._auto_1)(h2:autoParam (starEach [e2] X.env=(false,eval e2 X.env)::starEach [] X.env) aR._auto_1)(Iu:autoParam ((backTo pos (starEach [e2] X.env)).any (·.1)=false) aR._auto_1):PE X (.Call (.Name "isinstance" p) [e,e2] [] pos) (tE E (iV (λa=>Ts.any λt=>dH a t) ob (λ_=>none) f)):=by
 refine(kr vm hg hm uu (bM he (bM hT e9 h2) h1) ↑12 ↑12 h1 Iu).imp fun σ H Q q=>b_ (K:=ja Q) ja.g q λB H₀ Hs H1 env p v sr rp hp=>?_;refine ht2 σ H1 _ λtp hn=>?_;have g:=bc.new (o:=.tup (Ts.map V.ty)) sr.gr.sub hn;rcases ni hp with ⟨a,ha,q⟩|⟨C,fs,k,rfl,e,q⟩|⟨C,fo,k,rfl,e,q⟩
 .exact⟨v,tp,Ts,_,_,rfl,aw,ur g.sub (rp.mono g.st) ha,uK X.K ha ht,q _ _ _ g (.bl _)⟩
 .exact⟨v,tp,Ts,_,_,rfl,aw,t9 g.sub (rp.mono g.st) (KC C k e).1,(KC C k e).2,q _ _ _ g (.bl _)⟩
 .cases e
end
section
open PySem.SeqAt (shaped noMix noMixAll)
mutual
def dat:PV->Option PyData
 | .bz=>some .none
 | .bl b=>some (.bool b)
 | .int i=>some (.int i)
 | .str x=>some (.str x)
 | .tup xs=>(iT xs).map .tuple
 | .lst xs=>(iT xs).map .list
 | .eS xs=>(iT xs).map .list
 | .obj _ _=>none
 | .exc _ _=>none
 | .emp=>none
 | .tX _=>none
 |.fn _=>none
def iT:List PV->Option (List PyData)
 | []=>some []
 |p::r=>(dat p).bind λd=>(iT r).map (d::·)
end
mutual
theorem Rep.reads{Hs:Hp}(I:Inv X HQ σ H s)(sm:aZ Hs H):∀{p:PV}{v:V}{u:Value}{d:PyData},Rep Hs p v->RelV v u->dat p=some d->∃as,Reads s.heap u d as
 | _,_,u,d,.bz,r,e=>by
  cases e;cases (show u=Mt from r);exact⟨_,.none⟩
 | _,_,u,d,.bl b,r,e=>by
  cases e;cases (show u=Mw b from r);exact⟨_,.bool b⟩
 | _,_,u,d,.int i,r,e=>by
  cases e;obtain⟨t,rfl⟩:=(show ∃t,u=PD i t from r);exact⟨_,.int i t⟩
 | _,_,u,d,.str i,r,e=>by
  cases e;obtain⟨t,rfl⟩:=(show ∃t,u=PF i t from r);exact⟨_,.str i t⟩
 | _,_,u,d,.tup (a:=a) ha hx,r,e=>by
  obtain⟨ds,e2,rfl⟩:=LP.mp (show (iT _).map PyData.tuple=some d from e);cases (show u=LS a from r);obtain⟨HW,r1,⟨o,ho,hc,n,hd⟩,_⟩:=I.tuple (gB.of (sm _ _ ha));obtain⟨as,ra⟩:=aM.reads I sm hx r1 e2;exact⟨_,.tuple ho hc hd (by simpa using ra)⟩
 | _,_,u,d,.lst (a:=a) ha hx,r,e=>by
  obtain⟨ds,e2,rfl⟩:=LP.mp (show (iT _).map Sj=some d from e);cases (show u=LS a from r);obtain⟨HW,r1,⟨o,n,ho,hc,_,hd⟩,_⟩:=I.list (gR.of (sm _ _ ha));obtain⟨as,ra⟩:=aM.reads I sm hx r1 e2;exact⟨_,.list ho hc hd (by simpa using ra)⟩
 | _,_,u,d,.eS (a:=a) (o:=ob) ha hx,r,e=>by
  obtain⟨ds,e2,rfl⟩:=LP.mp (show (iT _).map Sj=some d from e);cases (show u=LS a from r);obtain⟨HW,r1,⟨o,n,ho,hc,_,hd⟩,_⟩:=I.list (.inl (.inr ⟨ob,sm _ _ ha⟩));obtain⟨as,ra⟩:=aM.reads I sm hx r1 e2;exact⟨_,.list ho hc hd (by simpa using ra)⟩
 | _,_,u,d,.obj _ _,r,e=>by cases e
 | _,_,u,d,.qk _,r,e=>by cases e
 | _,_,u,d,.ou _ _ _,r,e=>by cases e
 | _,_,u,d,.emp _,r,e=>by cases e
 | _,_,u,d,.tX _ _,r,e=>by cases e
 |_,_,u,d,.fn _,r,e=>by cases e
theorem aM.reads{Hs:Hp}(I:Inv X HQ σ H s)(sm:aZ Hs H):∀{p:List PV}{v:List V}{u:List Value}{d:List PyData},aM Hs p v->Vals v u->iT p=some d->∃as,ReadsAll s.heap u d as
 | _,_,_,_,.nil,.nil,e=>by cases e;exact⟨_,.nil⟩
 | _,_,_,d,.cons (p:=p) (ps:=ps) h hr,.cons r rr,e=>by
  obtain⟨d1,e1,e2⟩:=Ng.mp (show (dat p).bind (λd=>(iT ps).map (d::·))=some d from e);obtain⟨ds,e3,rfl⟩:=LP.mp e2;obtain⟨as,ra⟩:=Rep.reads I sm h r e1;obtain⟨bs,rb⟩:=aM.reads I sm hr rr e3;exact⟨_,.cons ra rb⟩
end
def z0(d e:PyData):M Bool:=cX (shaped d=true/\shaped e=true/\noMix d e=true) (M.ok (same d e))
def lR(o:Bool->PV)(p q:PV):M PV:=match dat p,dat q with
 | some d,some e=>(z0 d e).bind λb=>M.ok (o b)
 |_,_=>none
def gO:PV->PV->M PV:=lR λb=>.bl b
def qF:PV->PV->M PV:=lR λb=>.bl (!b)
def ze(o:Bool->Bool):R2:=λx y H Q=>∃Hs p q d e,aZ Hs H/\Rep Hs p x/\Rep Hs q y/\dat p=some d/\dat q=some e/\shaped d=true/\shaped e=true/\noMix d e=true/\Q (.bl (o (same d e))) H
def yY(hu:X.A.units+64<cLine):gc X (compareOp .Eq) (ze id):=by
 intro HQ s σ H x y v u Q I rx ry h;obtain⟨Hs,p,q,d,e,sm,rp,rq,hd,he,h1,h2,h3,hq⟩:=h;obtain⟨as,ra⟩:=Rep.reads I sm rp rx hd;obtain⟨bs,rb⟩:=Rep.reads I sm rq ry he;exact eq_dataH_same ra rb h1 h2 hu h3 (sT I hq rfl)
def xA(hu:X.A.units+64<cLine):gc X (compareOp .NotEq) (ze not):=by
 intro HQ s σ H x y v u Q I rx ry h;obtain⟨Hs,p,q,d,e,sm,rp,rq,hd,he,h1,h2,h3,hq⟩:=h;obtain⟨as,ra⟩:=Rep.reads I sm rp rx hd;obtain⟨bs,rb⟩:=Rep.reads I sm rq ry he;exact ne_dataH_same ra rb h1 h2 hu h3 (sT I hq rfl)
def yV{o:Bool->Bool}:jZ E (ze o) (lR λb=>.bl (o b)):=by
 intro σ Hs H p q v u Q s rp rq h;unfold lR at h
 split at h
 .rename_i d e hd he;have h':=ar.bind h;obtain⟨⟨h1,h2,h3⟩,h⟩:=ar.cX h';exact⟨Hs,p,q,d,e,s,rp,rq,hd,he,h1,h2,h3,dX.flat h s (.bl _)⟩
 .exact h.elim
def Bc:jZ E (ze id) gO:=yV
def Bq:jZ E (ze not) qF:=yV
def jQ(xs:List PV)(lo hi:Option Int):List PV:=(xs.drop (HT.dJ xs.length 0 lo)).take (HT.dJ xs.length xs.length hi-HT.dJ xs.length 0 lo)
def aM.cut(r:aM H xs vs)(lo hi:Option Int):aM H (jQ xs lo hi) (rR vs lo hi):=by
 unfold jQ rR;rw[r.length];exact(r.drop _).take _
abbrev D0(Q:Option Int->Hp->Prop):Hp->Hp->Option Int->Prop:=λHs H k=>∀HV H',bc Hs H HV H'->Q k H'
def Fg(E:St->XK)(g:af->M (Option Int)):TO:=fun σ H Q=>tG E g (D0 Q) σ H
def PO.imp{e:Option Expr}{t t':TO}(h:PO X e t)(i:∀σ H Q,t' σ H Q->t σ H Q):PO X e t':=λHQ s σ H Q I q=>h HQ s σ H Q I (i σ H Q q)
def EN:PV->M (Option Int)
 | .int i=>M.ok (some i)
 |_=>none
def zL:af->M (Option Int):=λ_=>M.ok none
def qA(f:af->M PV):af->M (Option Int):=λenv=>(f env).bind EN
section
variable{lo hi:Option Expr}{p2:Pos}{f:af->M PV}{gl gh:af->M (Option Int)}
theorem D0.g{Q:Option Int->Hp->Prop}:KG (D0 Q):=λHs H HV H' b k g Im H2 g2=>k Im H2 (g.trans g2)
def uX:PO X none (Fg E zL):=Ad.imp fun σ H Q q=>by
 obtain⟨B,H₀,Hs,env,sr,q⟩:=q;exact q Hs H (.refl sr.gr.sub)
def uP(he:PE X e (tE E f)):PO X (some e) (Fg E (qA f)):=(Am he).imp fun σ H Q q=>b_ (K:=D0 Q) D0.g q λB H₀ Hs H1 env p v sr rp hp=>by
 cases rp with
 | int i=>exact⟨i,rfl,hp Hs H1 (.refl sr.gr.sub)⟩
 |_=>exact hp.elim
end
def gN(xs:List PV):List PV:=xs.mapIdx λi x=>.tup [.int (i:Nat),x]
section
variable{K:LI}{fs:af->M (List PV)}
def oV(hq:∀HV H',aZ Iq HV->aZ HV H'->gR K H' a vs)(hr:aM Iq xs vs):kG (CS K a) Iq (gN xs) where
 stop:=λi Hs H s1 s2 hi=>by
  unfold gN at hi;rw[Ny,hr.length] at hi;exact⟨vs,hq Hs H s1 s2,hi⟩
 go:=λi Hs H s1 s2 hi=>by
  unfold gN at hi;rw[Ny] at hi;obtain⟨v,e,_⟩:=hr.get (LL hi);exact⟨vs,v,hq Hs H s1 s2,e⟩
 tw:=λi Hs H x H2 s1 s2 hi y=>by
  unfold gN at hi;rw[Ny] at hi;obtain⟨v,e,r⟩:=hr.get (LL hi);obtain⟨pa,v',hn,rfl,rfl,y1⟩:=y;have z1:=y1 vs (hq Hs H s1 s2);rw[e] at z1;cases z1;have gr:=bc.new (o:=.tup [.int (i:Nat),v]) s2 hn;refine⟨.tup [.int (i:Nat),xs[i]],_,?_,gr,.tup aw (.cons (.int _) (.cons ((r.mono s1).mono gr.st) .nil))⟩;unfold gN;rw[Qs,LL hi];rfl
end
end
section
variable{K:LI}{fs:af->M (List PV)}
end
section
variable{K:LI}{fs:af->M (List PV)}
end
section
variable{E:XK}{px:Pos}{fs:af->M (List PV)}{f h:af->M PV}
def ownAt(i:Nat)(env:af):M (List PV):=match env[i]? with
 | some (some (.ow xs))=>M.ok xs
 |_=>none
def ar.own{env:af}{Q:List PV->Prop}{F:EX->Prop}(h:ar (ownAt i env) Q F):∃xs,env[i]?=some (some (.ow xs))/\Q xs:=by
 unfold ownAt at h
 split at h
 .exact⟨_,by assumption,h⟩
 .exact h.elim
def Bk(i:Nat)(xs:List PV)(p:PV)(env:af):PV->M Out
 | .int n=>match wW xs.length n with
  | some j=>M.ok (.nx (env.set i (some (.ow (xs.set j p)))))
  | none=>none
 |_=>none
def EY(i:Nat)(g f:af->M PV):af->M Out:=λenv=>(f env).bind λp=>(ownAt i env).bind λxs=>(g env).bind (Bk i xs p env)
def D6{ie:Expr}(hi:X.N[i]?=some x)(hv:p4 X.env.scope x)(hk:PE X ie (tE (λ_=>E) h))(he:PE X e (tE (λ_=>E) f))(hd:autoParam ↑7 aD._auto_1)(II:autoParam ↑6 aD._auto_1)
  (ha:autoParam (∀v,assign (.Subscript (.Name x px) ie pos') X.env v=(do
   let ov <- holding [v] (eval (.Name x px) X.env)
   let iv <- holding [v,ov] (eval ie X.env)
   standAt pos'
   holding [v,ov,iv] (setItem ov iv v)
   release [v,ov,iv] [])) aI._auto_1)
  (hs:autoParam (swapsWithSole [.Subscript (.Name x px) ie pos'] e pos.line X.env=pure false) aR._auto_1) (hw:autoParam (swappedStores [.Subscript (.Name x px) ie pos'] e X.env=pure none) aR._auto_1)
  (h1:autoParam ((assignEach [.Subscript (.Name x px) ie pos'] X.env).map (·.2)=[assign (.Subscript (.Name x px) ie pos') X.env]) aR._auto_1):PS X (.Assign [.Subscript (.Name x px) ie pos'] e pos) (tS E (EY i h f)):=by
 refine(BU he (Dh (jI hi hv hd II) hk set_list ha) hs hw h1).imp λD σ H q=>iY q λB H₀ Hs H1 env p v sr rp hp=>?_;obtain⟨xs,ex,hp⟩:=ar.own (ar.bind hp);obtain⟨a,vs,h1,h2,h3,h4,h5⟩:=sr.ow i xs ex;refine⟨.ref a,h1,B,H₀,Hs,env,sr,(ar.bind hp).imp (λk hk w Im H2 g2 rk=>?_) λe he=>he.grow sr.gr⟩;have IG:=sr.grow g2;cases rk with
 | int n =>
  have Ka:ar (match wW xs.length n with|some j=>M.ok (Out.nx (env.set i (some (.ow (xs.set j p)))))|none=>none) (KS D B H₀) (XW E B H₀):=hk
  split at Ka
  .rename_i j ej;exact⟨a,vs,n,j,rfl,rfl,g2.al _ _ h2,by rwa[<- h5.length],Ka σ Im _ (IG.put ex h1 ((h5.mono g2.st).set (rp.mono g2.st) j))⟩
  .exact Ka.elim
 |_=>exact hk.elim
end
def KO.gr{Q:VK}:KG (KO Q):=λHs H HV H' b k g vs p Im H2 g2 r n=>k vs p Im H2 (g.trans g2) r n
section
variable{sem:List PV->M (List PV)}{p:Pos}{o:Expr}{fs:af->M (List PV)}{g:af->M PV}
end
mutual
def si:PV->Bool
 | .bz=>true
 | .bl _=>true
 | .int _=>true
 | .str _=>true
 | .tup xs=>qr xs
 |_=>false
def qr:List PV->Bool
 | []=>true
 |p::r=>si p&&qr r
end
mutual
theorem Rep.away{Hs:Hp}{a:Addr}{ws:List V}(ha:Hs a=some (.lst ws)):∀{p:PV}{v:V},Rep Hs p v->si p=true->Rep (rem Hs a) p v
 | _,_,.bz,_=>.bz
 | _,_,.bl b,_=>.bl b
 | _,_,.int b,_=>.int b
 | _,_,.str b,_=>.str b
 | _,_,.tup (a:=c) h r,n=>by
  have nc:c≠a:=λz=>by subst z;rw[ha] at h;cases h
  exact .tup (by unfold rem;rwa[if_neg nc]) (r.away ha n)
 | _,_,.lst _ _,n=>by cases n
 | _,_,.eS _ _,n=>by cases n
 | _,_,.obj _ _,n=>by cases n
 | _,_,.qk _,n=>by cases n
 | _,_,.ou _ _ _,n=>by cases n
 | _,_,.emp _,n=>by cases n
 | _,_,.tX _ _,n=>by cases n
 |_,_,.fn _,n=>by cases n
theorem aM.away{Hs:Hp}{a:Addr}{ws:List V}(ha:Hs a=some (.lst ws)):∀{p:List PV}{v:List V},aM Hs p v->qr p=true->aM (rem Hs a) p v
 | _,_,.nil,_=>.nil
 | _,_,.cons h r,n=>by
  have n':=ND.mp (show (si _&&qr _)=true from n);exact .cons (h.away ha n'.1) (r.away ha n'.2)
end
def zb:M PV->M PV
 | some (.ok p)=>cX (si p=true) (M.ok p)
 |_=>none
theorem ar.zb{r:M PV}{Q:PV->Prop}{E:EX->Prop}(h:ar (L2.zb r) Q E):ar r (λp=>si p=true/\Q p) (λ_=>False):=by
 cases r with
 | none=>exact h
 | some r=>cases r with
  | error e=>exact h
  | ok p =>
   obtain⟨n,h⟩:=ar.cX h;exact⟨n,h⟩
def bc.back{HV H':Hp}{ws:List V}(h1:Hs a=none)(hH:H a=some (.lst ws))(s:aZ Hs H)(g:bc (upd Hs a (.lst ws)) H HV H'):bc Hs H (rem HV a) H'/\HV a=some (.lst ws):=by
 have e:HV a=some (.lst ws):=g.st _ _ aw;refine⟨⟨λc u q=>?_,g.al,λc u q=>?_,λc u q1 q2 q3=>?_⟩,e⟩
 .have nc:c≠a:=λz=>by subst z;rw[h1] at q;cases q
  unfold rem;rw[if_neg nc];exact g.st c u (by rwa[aq nc])
 .unfold rem at q
  split at q
  .cases q
  .exact g.sub c u q
 .unfold rem
  by_cases nc:c=a
  .rw[if_pos nc]
  .rw[if_neg nc];exact g.nw c u (by rwa[aq nc]) q2 q3
def SR.lend{B:Hp}{env:af}(r:SR B H₀ Hs H σ env)(e:env[i]?=some (some (.ow xs))):∃a vs,Hs a=none/\H a=some (.lst vs)/\SR B H₀ (upd Hs a (.lst vs)) H σ (p7 i env):=by
 obtain⟨a,vs,h1,h2,h3,_⟩:=r.DV e;unfold p7;rw[e];exact⟨a,vs,h1,h2,h3⟩
def sC(i:Nat)(f:af->M PV):af->M PV:=λenv=>(ownAt i env).bind λ_=>zb (f (p7 i env))
section
variable{f:af->M PV}{u:af->M Bool}
def zG(i:Nat)(he:PE X e (tE E f)):PE X e (tE E (sC i f)):=he.imp fun σ H Q q=>by
 obtain⟨B,H₀,Hs,env,sr,q⟩:=q;obtain⟨xs,ex,q⟩:=ar.own (ar.bind q);obtain⟨a,vs,h3,h2,IG⟩:=sr.lend ex;refine⟨B,H₀,_,_,IG,(ar.zb q).imp (λp hp v HV H' g r=>?_) λ_ z=>z.elim⟩;obtain⟨g2,ea⟩:=bc.back h3 h2 sr.gr.sub g;exact hp.2 v _ _ g2 (r.away ea hp.1)
end
def fG:PV->PV->M PV:=tD (λ_ j=>decide (j≠0/\j.natAbs.log2<9000)) λi j=>i.fdiv j
def da:PV->PV->M PV:=tD (λ_ j=>decide (j≠0)) λi j=>i.fmod j
def rm:PV->PV->M PV:=tD (λi j=>decide (0<=j/\j<=1000000/\i.natAbs<2^64)) λi j=>i^j.toNat
def uQ:PV->PV->M PV:=zk λi j=>decide (i<j)
def we:PV->PV->M PV:=zk λi j=>decide (i<=j)
def Bs:PV->PV->M PV:=zk λi j=>decide (j<i)
def DK:PV->PV->M PV:=zk λi j=>decide (j<=i)
def yv:jZ E (rI yp λi j=>.int (i.fdiv j)) fG:=AF
def zy:jZ E (rI (λ_ j=>j≠0) λi j=>.int (i.fmod j)) da:=BI
def AG:jZ E (rI Cg λi j=>.int (i^j.toNat)) rm:=CZ
def my:jZ E (uN λi j=>.bl (decide (i<j))) uQ:=qv
def jA:jZ E (uN λi j=>.bl (decide (i<=j))) we:=qv
def xQ:jZ E (uN λi j=>.bl (decide (j<i))) Bs:=qv
def yW:jZ E (uN λi j=>.bl (decide (j<=i))) DK:=qv
def aW(n:Nat)(s:List PV->M PV):List PV->M PV:=λps=>cX (ps.length=n) (s ps)
def ky{s:List PV->M PV}{ps:List PV}(h:aW n s ps≠none):ps.length=n:=by
 unfold aW cX at h
 split at h
 .assumption
 .exact(h rfl).elim
variable{dv:Value}
section
variable{K:LI}
def w5{s:List PV->M PV}(F:aT P w K mg base (bB P w) k f fd ps (eT n s)):aT P w K mg base (bB P w) k f fd ps (eT n (aW n s)) where
 len:=λvs H Q E h=>by
  obtain⟨h0,Hs,qs,sm,r,h⟩:=h;exact F.len vs H Q E ⟨h0,Hs,qs,sm,r,(ar.cX h).2⟩
 run:=λA outer s H args us vs Q E hr e hb rv h=>by
  obtain⟨h0,Hs,qs,sm,r,h⟩:=h;exact F.run A outer s H args us vs Q E hr e hb rv ⟨h0,Hs,qs,sm,r,(ar.cX h).2⟩
structure cn (P:Program) (w:World) (K:LI) (mg:Str->Option Value) (base:Heap) (n:Nat) (x:Str) (m:Nat) (sem:List PV->M PV):Prop where
 ex:∃(f:Addr)(fd:FuncData)(ps:List Str),mg x=some (.ref f)/\Mi K (.ref f)=true/\ps.length=m/\Binds K fd ps []/\aT P w K mg base (bB P w) n f fd ps (eT m (aW m sem))
def ba.HC{st:Stmt}{g:af->M Out}(F:ba K x qual st dv f fd)(S:bg N ps (au st))(hb:∀(Ig:Value)(A:Around)(outer:List Env)(s:Shared)(H:Hp)(E:XK),bD k (A.deeper (envOfC qual (au st) s.heap.objs.size f Ig))->dh ((eQ (bB P w) P w K mg base N qual (au st) f Ig A outer s H E).out λ_=>E) (λ_=>E)->i7 ((eQ (bB P w) P w K mg base N qual (au st) f Ig A outer s H E).out λ_=>E) (cR st) (tS E g)):aT P w K mg base (bB P w) (k+1) f fd ps (eT ps.length (aW ps.length (ay N.length g))):=by
 obtain⟨oc,od,kV,doc,pm,an,Ig,ct,J4,rfl,lk,II⟩:=F.ex;exact w5 (Dr lk II S λA outer s H E hr=>hb Ig A outer s H E hr (je rfl rfl))
end
section
variable{m:Nat}{sem:List PV->M PV}{fs:af->M (List PV)}{p:Pos}
def cn.call(F:cn X.prog X.w X.K X.mg X.base n x m sem)(hr:bD k X.A)(hn:n<=k)(hg:Gl X x)(O:dh X E)(ha:PA X (e::es) (tL E fs))(IF:autoParam ↑7 aD._auto_1)(he:autoParam ↑0 aR._auto_1)(Iu:autoParam ↑2 aR._auto_1):PE X (.Call (.Name x p) (e::es) [] pos) (tE E (ah (aW m sem) fs)):=by
 obtain⟨f,fd,ps,h1,h2,h3,h4,h5⟩:=F.ex;have:=u9 (p:=p) (Jb:=[]) h5 (hr.mono hn) hg h1 h2 h4 .nil (λ_=>.nil) O (λJf hp=>by rw[MK] at hp;exact ky hp) ha IF he Iu;refine this.imp fun σ H Q q=>?_;have e:(λps=>aW m sem (ps++[]))=aW m sem:=by funext ps;rw[MK]
 rwa[e]
structure DI (P:Program) (w:World) (K:LI) (mg:Str->Option Value) (base:Heap) (n:Nat) (x:Str) (m:Nat) (Jb:List PV) (sem:List PV->M PV):Prop where
 ex:∃(f:Addr)(fd:FuncData)(ps:List Str)(ds:List Value)(IH:List V),mg x=some (.ref f)/\Mi K (.ref f)=true/\Binds K fd ps ds/\Vals IH ds/\(∀H,aM H Jb IH)/\aT P w K mg base (bB P w) n f fd ps (eT m (aW m sem))
def DI.call(F:DI X.prog X.w X.K X.mg X.base n x m Jb sem)(hr:bD k X.A)(hn:n<=k)(hg:Gl X x)(O:dh X E)(ha:PA X (e::es) (tL E fs))(IF:autoParam ↑7 aD._auto_1)(he:autoParam ↑0 aR._auto_1)(Iu:autoParam ↑2 aR._auto_1):PE X (.Call (.Name x p) (e::es) [] pos) (tE E (ah (λps=>aW m sem (ps++Jb)) fs)):=by
 obtain⟨f,fd,ps,ds,IH,h1,h2,h4,h5,h6,h7⟩:=F.ex;exact u9 (p:=p) (Jb:=Jb) h7 (hr.mono hn) hg h1 h2 h4 h5 h6 O (λJf hp=>by have:=ky hp;rwa [Mp] at this) ha IF he Iu
structure wV (P:Program) (w:World) (K:LI) (mg:Str->Option Value) (base:Heap) (C:Addr) (n:Nat) (x:Str) (m:Nat) (sem:List PV->M PV):Prop where
 ex:∃(f:Addr)(fd:FuncData)(ps:List Str),ot K C/\Meth K C x f/\Binds K fd ps []/\aT P w K mg base (bB P w) n f fd ps (eT m (aW m sem))
def wV.EU{o:Expr}{g:af->M PV}(F:wV X.prog X.w X.K X.mg X.base C n x m sem)(hr:bD k X.A)(hn:n<=k)(O:dh X E)(ho:PE X o (tE E g))
  (ht:autoParam (eval (.Call (.Attribute o x apos) [] [] pos) X.env=(do
   let ov <- eval o X.env
   standAt apos.atName
   let (f,first) <- holding [ov] (getMethod ov x pl)
   callWith pos f first (backTo pos (starEach [] X.env)) (backToKw pos (keywordEach [] X.env)))) aR._auto_1) :
  PE X (.Call (.Attribute o x apos) [] [] pos) (tE E (fQ C x (aW m sem) g ai)):=by
 obtain⟨f,fd,ps,h1,h2,h3,h4⟩:=F.ex;exact yt ho h1 h2 h4 (hr.mono hn) h3 O (λJf hp=>ky hp) ht
end
structure Fd (P:Program) (w:World) (K:LI) (mg:Str->Option Value) (base:Heap) (C:Addr) (n:Nat) (x:Str) (m:Nat) (Jb:List PV) (sem:Addr->List PV->M (List (Str×PV))):Prop where
 ex:∃(f:Addr)(fd:FuncData)(ps:List Str)(ds:List Value)(IH:List V),mg x=some (.ref C)/\Mk K C f/\Binds K fd ps ds/\Vals IH ds/\(∀H,aM H Jb IH)/\aT P w K mg base (bB P w) n f fd ps (CY m C sem)
def sW(m:Nat)(sem:Addr->List PV->M (List (Str×PV))):Addr->List PV->M (List (Str×PV)):=λa ps=>cX (ps.length+1=m) (sem a ps)
def v5{K:LI}{s:Addr->List PV->M (List (Str×PV))}(F:aT P w K mg base (bB P w) k f fd ps (CY n C s)):aT P w K mg base (bB P w) k f fd ps (CY n C (sW n s)) where
 len:=λvs H Q E h=>by
  obtain⟨h0,a,dx,us,Hs,H1,qs,e1,e2,e3,e4,e5,sm,r,h⟩:=h;exact F.len vs H Q E ⟨h0,a,dx,us,Hs,H1,qs,e1,e2,e3,e4,e5,sm,r,(ar.cX h).2⟩
 run:=λA outer s H args us vs Q E hr e hb rv h=>by
  obtain⟨h0,a,dx,us',Hs,H1,qs,e1,e2,e3,e4,e5,sm,r,h⟩:=h;exact F.run A outer s H args us vs Q E hr e hb rv ⟨h0,a,dx,us',Hs,H1,qs,e1,e2,e3,e4,e5,sm,r,(ar.cX h).2⟩
def ba.Hq{K:LI}{st:Stmt}{g:af->M Out}(F:ba K x qual st dv f fd)(S:bg N ps (au st))(hN:0<N.length)(hb:∀(Ig:Value)(A:Around)(outer:List Env)(s:Shared)(H:Hp)(E:XK),bD k (A.deeper (envOfC qual (au st) s.heap.objs.size f Ig))->dh ((eQ (bB P w) P w K mg base N qual (au st) f Ig A outer s H E).out λ_=>E) (λ_=>E)->i7 ((eQ (bB P w) P w K mg base N qual (au st) f Ig A outer s H E).out λ_=>E) (cR st) (tS E g)):aT P w K mg base (bB P w) (k+1) f fd ps (CY ps.length C (sW ps.length (zY N.length g C))):=by
 obtain⟨oc,od,kV,doc,pm,an,Ig,ct,J4,rfl,lk,II⟩:=F.ex;exact v5 <| AR lk II S hN λA outer s H E hr=>hb Ig A outer s H E hr (je rfl rfl)
section
variable{m:Nat}{fs:af->M (List PV)}{p:Pos}
def Fd.make{sem:Addr->List PV->M (List (Str×PV))}(F:Fd X.prog X.w X.K X.mg X.base C n x m Jb (sW m sem))(hr:bD k X.A)(hn:n+1<=k)(hg:Gl X x)(O:dh X E)(ha:PA X (e::es) (tL E fs))(IF:autoParam ↑7 aD._auto_1)(he:autoParam ↑0 aR._auto_1)(Iu:autoParam ↑2 aR._auto_1):PE X (.Call (.Name x p) (e::es) [] pos) (tE E (ah (nZ C (sW m sem) Jb) fs)):=by
 obtain⟨f,fd,ps,ds,IH,h1,h2,h4,h5,h6,h7⟩:=F.ex;refine AU (p:=p) h2 h7 (hr.mono hn) hg h1 h4 h5 h6 O (λa Jf hp=>?_) ha IF he Iu;unfold sW cX at hp
 split at hp
 .rename_i h;rwa [Mp] at h
 .exact(hp rfl).elim
def AA{f:af->M PV}(hg:Gl X "list")(hm:X.mg "list"=none)(he:PE X e (tE E f))(h1:autoParam (starEach [e] X.env=(false,eval e X.env)::starEach [] X.env) aR._auto_1)(Iu:autoParam ((backTo pos (starEach [] X.env)).any (·.1)=false) aR._auto_1):PE X (.Call (.Name "list" p) [e] [] pos) (tO E (yS f)):=by
 refine(o5 kd hg hm fZ (bM he e9 h1) ↑12 ↑12 h1 Iu).imp fun σ H Q q=>b_ (K:=KO Q) KO.gr q λB H₀ Hs H1 env p v sr rp hp=>?_;cases hs:bT p with
 | none=>rw[hs] at hp;exact hp.elim
 | some xs =>
  rw[hs] at hp;obtain⟨a,us,rfl,hq,hx⟩:=tM (K:=X.K) sr.gr.sub rp hs;exact⟨a,us,rfl,hq,λl n=>hp us l Hs H1 (.refl sr.gr.sub) hx n⟩
end
def dF:Addr->Option Bool:=λ_=>none
def cP{P:Addr->Bool->Prop}:∀C b,dF C=some b->P C b:=λ_ _ h=>by cases h
def vr(i:Nat)(hN:autoParam (X.N[i]?=some x) aR._auto_1)(hv:p4 X.env.scope x:=by first|exact .inl rfl|exact .inr (.inl rfl)|exact .inr (.inr rfl))(hd:autoParam ↑7 aD._auto_1)(II:autoParam ↑6 aD._auto_1):PE X (.Name x pos) (tE E (ae i)):=dG hN hv hd II
def Bt{env:Env}(h:(match e with|.Starred ..=>true|_=>false)=false):starEach (e::es) env=(false,eval e env)::starEach es env:=by
 cases e<;>first|rfl|cases h
def ji:List Expr->Option (List Int)
 | []=>some []
 | .Constant (.int i) _ _::r=>(ji r).map (i::·)
 |_=>none
theorem uJ:∀{es:List Expr}{ns:List Int},ji es=some ns->PA X es (tL E λ_=>M.ok (ns.map PV.int))
 | [],_,h=>by cases h;exact jF
 | e::r,ns,h=>by
  obtain⟨i,j,p,rfl,h⟩:∃i j p,e=.Constant (.int i) j p/\(ji r).map (i::·)=some ns:=by
   cases e<;>first
    | (cases h;done)
    | (rename_i c j p;cases c<;>first|(cases h;done)|exact⟨_,_,_,rfl,h⟩)
  obtain⟨ms,h1,rfl⟩:=LP.mp h;exact cA yc (uJ h1) (Bt rfl)
def zB(ns:List Int)(h:autoParam (ji es=some ns) aR._auto_1)(hz:autoParam (ns.length<=1000) aD._auto_1):PE X (.List es pos) (tE E λ_=>M.ok (.lst (ns.map PV.int))):=by
 refine(zm (E:=E) (uJ h)).imp fun σ H Q q=>?_;have e:(iX λ_=>M.ok (ns.map PV.int))=λ_=>M.ok (.lst (ns.map PV.int)):=by
  funext env
  show cX _ _=_;unfold cX;rw[if_pos (by rw[LK];exact MB hz ↑12)]
 rwa[e]
section
variable{a b:Expr}{f g:af->M PV}
end
structure vq (K:LI) (mg:Str->Option Value) (C:Addr) (x:Str):Prop where
 hc:OP K C eY "ValueError.__new__"=true
 c:eU K C
 ht:NV K (.ref C)=some (.type "type")
 kp:Mi K (.ref C)=true
 m:mg x=some (.ref C)
structure oP (P:Program) (w:World) (K:LI) (mg:Str->Option Value) (base:Heap) (C:Addr) (x fl:Str):Prop where
 ex:∃(f:Addr)(fd:FuncData)(ps:List Str),nQ K C "ValueError.__new__" f=true/\N2 K (.ref f)=true/\aT P w K mg base (bB P w) 1 f fd ps (vt K C fl)/\Binds K fd ps []
 c:eU K C
 ht:NV K (.ref C)=some (.type "type")
 kp:Mi K (.ref C)=true
 m:mg x=some (.ref C)
section
variable{E:XK}{p:Pos}{fl:Str}{fs:af->M (List PV)}
def vq.raise(F:vq X.K X.mg C x)(O:dh X λ_=>E)(Ih:X.calm=true)(hg:Gl X x)(ha:PA X (e::es) (tL (λ_=>E) fs))(IF:autoParam ↑7 aD._auto_1)(he:autoParam ↑0 aR._auto_1)(Iu:autoParam ((backTo Ik (starEach es X.env)).any (·.1)=false) aR._auto_1):PS X (.Raise (some (.Call (.Name x p) (e::es) [] Ik)) none pos) (tS E (e7 C fs)):=wO O Ih F.hc F.c F.ht F.kp hg F.m ha IF he Iu
def oP.raise(F:oP X.prog X.w X.K X.mg X.base C x fl)(hr:bD k X.A)(hn:2<=k)(O:dh X λ_=>E)(Ih:X.calm=true)(hg:Gl X x)(ha:PA X [e] (tL (λ_=>E) fs))(IF:autoParam ↑7 aD._auto_1)(he:autoParam (starEach [e] X.env=(false,eval e X.env)::starEach [] X.env) aR._auto_1)(Iu:autoParam ((backTo Ik (starEach [] X.env)).any (·.1)=false) aR._auto_1):PS X (.Raise (some (.Call (.Name x p) [e] [] Ik)) none pos) (tS E (gQ C fl fs)):=by
 obtain⟨f,fd,ps,h1,h2,h3,h4⟩:=F.ex;exact vx O Ih h1 h2 F.c F.ht F.kp h3 (hr.mono hn) h4 hg F.m ha IF he Iu
end
section
variable{cl:List (Str×Addr)}{wi:TI}{it:af->M (List PV)}{g:TG}{set:PV->af->M af}{f:af->M PV}{ts fs:List Str}
variable{E:XK}{py JY:Pos}
def uL(Ih:X.calm=true)(Iw:closureFor scope X.env=pure cl)(hk:scope.kind=.function)(nc:fL scope.names=true)(lo:gF scope.names=true)(fh:gH cl scope.names=true)(ag:eK X cl)(fr:hO X scope cl fs js)(hi:PI X tg iter wi)(hv:yZ (λ_=>E) wi it)(hg:∀C s₀ H₀ ex HQ,PG (n9 X scope cl (ts++fs) C s₀ H₀ ex HQ) tg g)(Kt:∀E,z6 E g set)(so:mL set)(he:∀C s₀ H₀ ex HQ,PE (n9 X scope cl (ts++fs) C s₀ H₀ ex HQ) elt (tE EF f))(hN:X.N.Nodup)(hiy:X.N[i]?=some y)(hy:Loc X.env.scope y)(hs:autoParam ↑5 aI._auto_1)(Lw:autoParam (swapsWith (.ListComp elt [⟨tg,iter,[],0⟩] scope pos) (some (.Name y py)) JY.line X.env=pure true) aR._auto_1)(hf:autoParam (X.fn y=true\/X.env.scope.names.lookup y=some .local) aF._auto_1):PS X (.Assign [.Name y py] (.ListComp elt [⟨tg,iter,[],0⟩] scope pos) JY) (tS E (aX i (eV (dS it set none f ts.length js)))):=by
 refine(Aq hN hiy hy Ih Iw hk nc lo fh ag fr hi hg he hs Lw hf).imp λD σ H q=>?_;refine q_ hv Kt so ?_;obtain⟨B,H₀,Hs,env,sr,q⟩:=q;refine⟨B,H₀,Hs,env,sr,(ar.bind (ar.bind q)).imp (λps hp vs p HV H' g r n=>?_) λe he=>he.grow sr.gr⟩;have gn:=bc.new (o:=.lst vs) g.sub n;exact hp _ _ _ ((sr.grow (g.trans gn)).set (.lst aw (r.mono gn.st)))
end
section
variable{a:Expr}{ta:TA}{p:Pos}
end
section
variable{fs:af->M (List PV)}{a:Expr}{p p2 pos2:Pos}
end
section
open AutoSeq1 (wpAny_loadPart')
def vk(l:Addr)(HR:Array Value)(n:Nat)(tX:Option Addr)(sl:Array (Option Value)):Meets (Builtin.«enumerate.__new__» ⟨[.type "enumerate",.ref l],[]⟩) (λ_ R s=>s.heap.get? l=some { cls:=.type "tuple",dict:=tX,data:=.seq HR n,slots:=sl } ∧R (.ok (.ret (.ref (s.heap.push { cls:=.type "tuple_iterator",data:=.fields #[.ref l,.int 0 0] }).objs.size))) { s with heap:=(s.heap.push { cls:=.type "tuple_iterator",data:=.fields #[.ref l,.int 0 0] }).push { cls:=.type "enumerate",data:=.fields #[.none,.bool false,.ref s.heap.objs.size,rawInt 0,.none,.none] } }) :=
 .of_wp λprog w A R s h=>by
  obtain⟨hp,g,d,tk,os⟩:=s;obtain⟨hl,h⟩:=h;have Ji:=sub_enumerate;have hL:Heap.IsTuple (RL ⟨hp,g,d,tk,os⟩) l HR:=⟨_,hl,rfl,n,rfl⟩
  wp_walk using O1 hl
  refine wpAny_stack_any λst=>LM ?_
  split
  .rename_i c _ _ _ _ _;cases (c==M0 "enumerate")
   .wp_walk using O1 hl,NQ hL
    exact⟨_,rfl,h⟩
   .wp_walk using O1 hl,NQ hL
    exact⟨_,rfl,h⟩
  .wp_walk using O1 hl,NQ hL
   exact⟨_,rfl,h⟩
section
variable{E:Value->Shared->Prop}
def sP(hL:s.heap.IsTuple l HR)(h:∀h',IsEnum h' (s.heap.objs.size+1) s.heap.objs.size 0 .none->h'.IsTupleIter s.heap.objs.size l 0->h'.objs.size=s.heap.objs.size+2 ->(∀b o,s.heap.get? b=some o->h'.get? b=some o)->Q (.ref (s.heap.objs.size+1)) { s with heap:=h' }):wpAny ↑11 A (call (.type "enumerate") [.ref l]) Q E s:=by
 obtain⟨⟨c,tX,dt,sl⟩,hl,hc,n,hd⟩:=hL
 replace hc:c=.type "tuple" := hc
 replace hd:dt=.seq HR n:=hd
 subst hc hd;refine callType_new F.called_enumerate ↑12 (F.typeCall_enumerate_1 _) (F.newCall_enumerate_1 _) (λobj=>F.args_object_init_2 obj _) F.entry_enumerate_new
  (vk l HR n tX sl) ⟨hl,?_⟩
 have hz:(s.heap.push { cls:=.type "tuple_iterator",data:=.fields #[.ref l,.int 0 0] }).objs.size=s.heap.objs.size+1:=MJ ..;show _/\_;rw[hz];have he:IsEnum ((s.heap.push { cls:=.type "tuple_iterator",data:=.fields #[.ref l,.int 0 0] }).push
   { cls:=.type "enumerate",data:=.fields #[.none,.bool false,.ref s.heap.objs.size,rawInt 0,.none,.none] }) (s.heap.objs.size+1) s.heap.objs.size 0 .none:=by
  have:=LV (s.heap.push { cls:=.type "tuple_iterator",data:=.fields #[.ref l,.int 0 0] })
   (o:={ cls:=.type "enumerate",data:=.fields #[.none,.bool false,.ref s.heap.objs.size,rawInt 0,.none,.none] }) rfl
  rwa[hz] at this
 refine⟨⟨_,he,rfl⟩,h _ he ⟨_,LJ _ (LV _ rfl),rfl,rfl⟩ (by rw[MJ,hz]) λb o x=>LJ _ (LJ _ x)⟩
end
def CV(hh:A.handled=none)(it t:Addr)(HR:Array Value):Draws prog w A it [it,t] HR.size (λi v=>HR[i]?=some v) (λi h=>h.IsTupleIter it t i/\h.IsTuple t HR) where
 live:=λ_ _ st=>let ⟨⟨o,ho,_⟩,_⟩:=st;⟨o,ho⟩
 frame:=λ_ _ _ st hk=>by
  obtain⟨⟨o,ho,r⟩,⟨o2,J7,r2⟩⟩:=st;exact⟨⟨o,hk it ↑13 o ho,r⟩,⟨o2,hk t ↑13 o2 J7,r2⟩⟩
 item:=λi s Q E hi st hQ=>by
  obtain⟨st,tt⟩:=st;refine gG st tt (x:=HR[i]) (by simp[hi]) λh' KP K5=>?_;refine hQ _ h' s.toks (by simp[hi]) ⟨KP,?_⟩ K5;obtain⟨o,ho,c1,_⟩:=st;obtain⟨o2,J7,c2,r2⟩:=tt;refine⟨o2,(K5.2 t λz=>?_).trans J7,c2,r2⟩;rw[z,ho] at J7;cases J7;rw[c1] at c2;exact absurd c2 ↑12
 done:=λs Q E st hE=>eX hh st.1 st.2 ↑13 hE
def Cw (K : LI)(a : Addr) : It :=
  ⟨λi H => ∃xs x,gB K H a xs /\ xs[i]? = some x,
   λi H y H' => ∃p x,H p=none /\ y=.ref p /\ H'=upd H p (.tup [.int i,x]) /\ ∀xs,gB K H a xs -> xs[i]? = some x,
   λi H => ∃xs,gB K H a xs /\ xs.length <= i⟩
theorem s_{K:LI}{tp:Pos}(a e it:Addr)(Kd:e≠it):Turn P w K (.Tuple elts x1 tp) (Cw K a) [e,it] e (λi h=>(∃old,IsEnum h e it i old)/\h.IsTupleIter it a i) where
 mem:=by simp
 obj:=λi h st b hb=>by
  obtain⟨⟨old,he⟩,⟨o,e1,c,d⟩⟩:=st;rcases L5.mp hb with z|z
  .subst z;exact⟨_,he,λv z=>by cases z⟩
  .have z':b=it:=by simpa using z
   subst z';exact⟨o,e1,λv z=>by rw[d] at z;cases z⟩
 keep:=λi h h' st k=>by
  obtain⟨⟨old,he⟩,⟨o,ho,r⟩⟩:=st;exact⟨⟨old,k e ↑13 _ he⟩,⟨o,k it ↑13 o ho,r⟩⟩
 item:=by
  intro X hP hw hK hc i HQ s σ H E I hf st hg;subst hP hw hK;obtain⟨xs,x,hq,hx⟩:=hg;obtain⟨HW,rv,p,hz⟩:=I.tuple hq;obtain⟨u,hu,ru⟩:=rv.get hx;obtain⟨⟨old,he⟩,hit⟩:=st;have Kj:e<s.heap.objs.size:=LN he;have KN:it<s.heap.objs.size:=by obtain⟨_,z,_⟩:=hit;exact LN z
  have hea:e ∉ [it,a]:=λz=>by
   rcases L5.mp z with z|z
   .exact Kd z
   .obtain⟨o,ho,c,_⟩:=p;rw[<- Na.mp z,he] at ho;cases ho;exact absurd (show M0 "enumerate"=M0 "tuple" from c) ↑12
  have J_:i<HW.toArray.size:=by
   have:=(MH.mp hu).1;simpa using this
  refine wpAny_pyNext_enum_itemD (CV (A:=X.A.in1) (I.ok.hd hc) it a HW.toArray) he ⟨hit,p⟩ J_ Kd hea λu' h' tk hu' ho Ja hT JD hk=>⟨_,rfl,?_⟩
  have eu:u'=u:=by
   rw[List.getElem?_toArray,hu] at hu';exact(L8 hu').symm
  subst eu;refine Ph (s:={ s with heap:=h',toks:=tk+1 }) ho λh2 he2 JH=>?_;have Ko:∀b o,b ∉ [e,it]->s.heap.get? b=some o->h2.get? b=some o:=λb o hb q=>by
   have n1:b≠e:=λz=>hb (by simp[z]);have n2:b≠it:=λz=>hb (by simp[z]);exact(JH.2 b n1).trans (hk b o n1 n2 q)
  have Ku:h2.get? s.heap.objs.size=some { cls:=.type "tuple",data:=.seq #[.int i tk,u'] }:=(JH.2 _ (NP Kj)).trans hT;have I2:Inv X HQ σ (upd H s.heap.objs.size (.tup [.int i,x])) { s with heap:=h2,toks:=tk+1 } :=
   I.kI (ch:=[e,it]) Ko hf (LR _) (λb hb=>by
    rcases L5.mp hb with z|z
    .subst z;exact⟨_,he⟩
    .have z':b=it:=by simpa using z
     subst z';obtain⟨o,z,_⟩:=hit;exact⟨o,z⟩)
    ⟨by show 2<=sizeLine;decide,[.int i tk,u'],.cons ⟨_,rfl⟩ (.cons ru .nil),⟨_,Ku,rfl,_,rfl⟩⟩
  have Jx:H s.heap.objs.size=none:=I.bf.fresh (LR _);obtain⟨oi,hoi,ri⟩:=Ja.1;refine⟨.ref s.heap.objs.size,_,I2,rfl,⟨_,x,Jx,rfl,rfl,λys hy=>by rwa[I.kK hy hq]⟩,⟨⟨u',by simpa using he2⟩,⟨oi,(JH.2 it (Nk Kd)).trans hoi,ri⟩⟩,λb hb=>?_⟩;have nb:b≠s.heap.objs.size:=by
   rcases L5.mp hb with z|z
   .rw[z];exact L7 Kj
   .have z':b=it:=by simpa using z
    rw[z'];exact L7 KN
  rw[aq nb];exact(hf b hb).1
 done:=by
  intro X hP hw hK hc i HQ s σ H E I hf st hg;subst hP hw hK;obtain⟨xs,hq,hx⟩:=hg;obtain⟨HW,rv,p,hz⟩:=I.tuple hq;have hl:=rv.length;obtain⟨⟨old,he⟩,hit⟩:=st;obtain⟨f0,f1,f2,f3,f4,f5⟩:=hf it ↑13;have hT:s.TypeIs (.ref e) "enumerate" := ⟨_,he,rfl⟩
  unfold pyNext;refine LH (ON (MN (name:=MC "__next__") hT F.slot_enumerate_next
   (Np F.slot_enumerate_next hT F.entry_enumerate_next ?_ (F.args_enumerate_next_1 _))))
  show wpAny _ _ (field (.ref e) 2 >>= _) _ _ _;refine LH (Ml he rfl (x:=.ref it) rfl ?_);refine LH (eX (I.ok.hd hc) hit p (by simp;lia) λh' x he' hx'=>?_);obtain⟨o,ho,Kw⟩:=hx';refine LH (wpAny_isInstance (T := "StopIteration") (b:=true) ⟨o,ho,Kw⟩ isSubtype_stop ?_);exact LM ⟨rfl,I.turned (t':=s.toks) (λb o hb e=>he' b o hb e) f0 f1 f3 f4 f5⟩
 self:=λ_ _ _ _ _ st h=>by
  obtain⟨⟨old,he⟩,_⟩:=st;exact OA he h
def ES(K:LI)(tl:TA):TI:=fun σ H R=>tl σ H λvs H1=>∃a,vs=[.ref a]/\(((∃xs,gR K H1 a xs)/\R (CS K a) H1)\/((∃xs,gB K H1 a xs)/\R (Cw K a) H1))
def xp{tp:Pos}{l:Expr}{p:Pos}(hg:Gl X "enumerate")(hm:X.mg "enumerate"=none)(hl:PA X [l] tl)(hs:autoParam (starEach [l] X.env=[(false,eval l X.env)]) aR._auto_1):PI X (.Tuple elts x1 tp) (.Call (.Name "enumerate" p) [l] [] pos) (ES X.K tl):=by
 intro HQ s σ H R I h;refine Call_ (jO I hg hm PyProof.Rows.boot_enumerate (MZ (cH (hl pos HQ s σ H _ I h) λus s1 ⟨vs,H1,I1,r1,q1⟩=>?_) hs rfl));obtain⟨a,e,q⟩:=q1;subst e;cases r1 with
 | cons r rr =>
  cases rr;cases (show _=LS a from r);have fp:∀b∈[s1.heap.objs.size+1,s1.heap.objs.size],lh X HQ H1 b:=λb hb=>by
   rcases L5.mp hb with z|z
   .subst z;exact I1.t5 (OU _) (I1.bf.fresh (OU _))
   .have z':b=s1.heap.objs.size:=by simpa using z
    subst z';exact I1.t5 (LR _) (I1.bf.fresh (LR _))
  rcases q with ⟨⟨xs,hq⟩,q⟩|⟨⟨xs,hq⟩,q⟩
  .obtain⟨HW,rv,pl,hz⟩:=I1.list hq;refine call_enumerate_list pl.isList λh' he hit JD hk=>?_;refine OA (s:={ s1 with heap:=h' }) he ?_;exact⟨s1.heap.objs.size+1,[s1.heap.objs.size+1,s1.heap.objs.size],_,_,H1,rfl,I1.kept (t':=s1.toks) hk,wA a _ _ (RG _),⟨⟨_,he⟩,hit⟩,fp,q⟩
  .obtain⟨HW,rv,pl,hz⟩:=I1.tuple hq;refine sP pl λh' he hit JD hk=>?_;refine OA (s:={ s1 with heap:=h' }) he ?_;exact⟨s1.heap.objs.size+1,[s1.heap.objs.size+1,s1.heap.objs.size],_,_,H1,rfl,I1.kept (t':=s1.toks) hk,s_ a _ _ (RG _),⟨⟨_,he⟩,hit⟩,fp,q⟩
def GA(p:PV):M (List PV):=match bT p with
 | some xs=>M.ok (gN xs)
 |none=>none
def D3:List PV->M (List PV)
 | [p]=>GA p
 |_=>none
section
variable{K:LI}{fs:af->M (List PV)}
def zd(hq:∀HV H',aZ Iq HV->aZ HV H'->gB K H' a vs)(hr:aM Iq xs vs):kG (Cw K a) Iq (gN xs) where
 stop:=λi Hs H s1 s2 hi=>by
  unfold gN at hi;rw[Ny,hr.length] at hi;exact⟨vs,hq Hs H s1 s2,hi⟩
 go:=λi Hs H s1 s2 hi=>by
  unfold gN at hi;rw[Ny] at hi;obtain⟨v,e,_⟩:=hr.get (LL hi);exact⟨vs,v,hq Hs H s1 s2,e⟩
 tw:=λi Hs H x H2 s1 s2 hi y=>by
  unfold gN at hi;rw[Ny] at hi;obtain⟨v,e,r⟩:=hr.get (LL hi);obtain⟨pa,v',hn,rfl,rfl,y1⟩:=y;have z1:=y1 vs (hq Hs H s1 s2);rw[e] at z1;cases z1;have gr:=bc.new (o:=.tup [.int (i:Nat),v]) s2 hn;refine⟨.tup [.int (i:Nat),xs[i]],_,?_,gr,.tup aw (.cons (.int _) (.cons ((r.mono s1).mono gr.st) .nil))⟩;unfold gN;rw[Qs,LL hi];rfl
def vg:yZ E (ES K (tL E fs)) (k8 D3 fs):=by
 intro σ H R q;refine dQ (K:=KI R) KI.g q λB H₀ Hs H1 env ps v sr rp hp=>?_
 match ps,rp,hp with
 | [],_,hp=>exact hp.elim
 | _::_::_,_,hp=>exact hp.elim
 | [p],rp,hp =>
  obtain⟨w,rfl,JX⟩:=rp.one;cases JX with
  | lst ha hx=>exact⟨_,rfl,.inl ⟨⟨_,gR.of (sr.gr.sub _ _ ha)⟩,hp _ Hs H1 (.refl sr.gr.sub) (oV (λHV H' s1 s2=>gR.of (s2 _ _ (s1 _ _ ha))) hx)⟩⟩
  | eS ha hx=>exact⟨_,rfl,.inl ⟨⟨_,.inl (.inr ⟨_,sr.gr.sub _ _ ha⟩)⟩,hp _ Hs H1 (.refl sr.gr.sub) (oV (λHV H' s1 s2=>.inl (.inr ⟨_,s2 _ _ (s1 _ _ ha)⟩)) hx)⟩⟩
  | tup ha hx=>exact⟨_,rfl,.inr ⟨⟨_,gB.of (sr.gr.sub _ _ ha)⟩,hp _ Hs H1 (.refl sr.gr.sub) (zd (λHV H' s1 s2=>gB.of (s2 _ _ (s1 _ _ ha))) hx)⟩⟩
  |_=>exact hp.elim
end
end
def Gr(E:St->XK)(f:af->M Out):TS:=λD σ H=>∃B H₀ Hs env,SR B H₀ Hs H σ env/\ar (f env) (KS D B H₀) (XW (E σ) Hs H)
def wd{f:af->M PV}{g:af->PV->M Out}{D:Ends}{R:VK}(h:Gr E (λenv=>(f env).bind (g env)) D σ H)(k:∀B H₀ Hs H1 env p v,SR B H₀ Hs H1 σ env->Rep Hs p v->ar (g env p) (KS D B H₀) (λ_=>True)->R v H1):tE E f σ H R:=by
 obtain⟨B,H₀,Hs,env,sr,h⟩:=h;refine⟨B,H₀,Hs,env,sr,(ar.bind h).imp (λp hp v HV H' g r=>?_) λe he=>he⟩;exact k B H₀ HV H' env p v (sr.grow g) r (hp.imp (λ_ z=>z) λ_ _=>trivial)
section
variable{f:af->M PV}
end
def SR.unset{B:Hp}{env:af}(r:SR B H₀ Hs H σ env):SR B H₀ Hs H (σ.set i none) (env.set i none) :=
 r.chg r.gr (λ_ _ q=>q) (λ_ e=>nomatch e) (λ_ _ _ _ _ _ _ _ h1 h2 _=>⟨h1,h2⟩) λ_ e=>nomatch e
section
variable{f:af->M PV}
def Cf(hN:X.N.Nodup)(hi:X.N[i]?=some x)(hx:Loc X.env.scope x)(he:PE X e (tE E f))(hs:autoParam (swapsWith e (some (.Name x pos')) pos.line X.env=pure false) aR._auto_1)(hf:autoParam ↑1 aF._auto_1):i7 X [.Assign [.Name x pos'] e pos] (Gr E (aX i f)):=by
 intro HQ s σ H D I q;exact rO (ug hN hi hx he hs hf) uw HQ s σ H D I (wd q λB H₀ Hs H1 env p v sr rp hp=>hp _ Hs H1 (sr.set rp))
end
abbrev Cx.jn(X:Cx)(pn:List (Addr×Obj)):Cx:={ X with pn:=pn }
abbrev Cx.hand(X:Cx)(ea:Addr):Cx:={ X with A:=X.A.mark (some (.ref ea)),calm:=false,xe:=λ_ _=>False }
section
variable{JO:List (Addr×Obj)}{ea:Addr}
theorem Cx.Ok.jn(ok:X.Ok)(pn:List (Addr×Obj)):(X.jn pn).Ok:=⟨ok.mod,ok.kind,ok.glob,ok.blt,ok.above,ok.inj,ok.has,ok.zJ,ok.hd,ok.frames,ok.Ds,ok.DH,ok.bs,ok.wU,ok.qm,ok.sE,ok.i9,ok.xC⟩
def Cx.Ok.mB{pn:List (Addr×Obj)}(ok:(X.jn pn).Ok):X.Ok:=⟨ok.mod,ok.kind,ok.glob,ok.blt,ok.above,ok.inj,ok.has,ok.zJ,ok.hd,ok.frames,ok.Ds,ok.DH,ok.bs,ok.wU,ok.qm,ok.sE,ok.i9,ok.xC⟩
theorem Cx.Ok.hand(ok:X.Ok)(ea:Addr):(X.hand ea).Ok:=⟨ok.mod,ok.kind,ok.glob,ok.blt,ok.above,ok.inj,ok.has,ok.zJ,(λz=>nomatch z),ok.frames,ok.Ds,ok.DH,ok.bs,ok.wU,ok.qm,ok.sE,ok.i9,ok.xC⟩
theorem Inv.jn(I:Inv X HQ σ H s):Inv (X.jn (X.pn++HQ)) [] σ H s:=⟨I.ok.jn _,I.os,I.bare,I.base,I.loc,I.cell,I.free,I.eW,(λp hp=>I.pin p (by rwa[MK] at hp)),I.bf,I.len⟩
theorem Inv.mB(I:Inv (X.jn (X.pn++HQ)) JO σ H s):Inv X HQ σ H s:=⟨I.ok.mB,I.os,I.bare,I.base,I.loc,I.cell,I.free,I.eW,(λp hp=>I.pin p (OR _ hp)),I.bf,I.len⟩
theorem Inv.hand(I:Inv X HQ σ H s)(ea:Addr):Inv (X.hand ea) HQ σ H s:=⟨I.ok.hand ea,I.os,I.bare,I.base,I.loc,I.cell,I.free,I.eW,I.pin,I.bf,I.len⟩
def Inv.gW(I:Inv (X.hand ea) HQ σ H s)(ok:X.Ok):Inv X HQ σ H s:=⟨ok,I.os,I.bare,I.base,I.loc,I.cell,I.free,I.eW,I.pin,I.bf,I.len⟩
def Inv.xU(I:Inv X HQ σ (kF Hc ea T C dd fl) s)(h1:Hc ea=some (gC C dd ea))(h2:Hc T=none)(h3:T≠ea):Inv X HQ σ Hc s:=by
 have no:∀b,kF Hc ea T C dd fl b=none->Hc b=none:=λb e=>by
  by_cases z:b=ea
  .rw[z,mI] at e;cases e
  .by_cases z2:b=T
   .rw[z2];exact h2
   .rw[iF z z2] at e;exact e
 have so:∀b o,kF Hc ea T C dd fl b=some o->(∀φ,o≠.ext φ)->Hc b=some o:=λb o e n=>by
  by_cases z:b=ea
  .rw[z,mI] at e;cases e;exact absurd rfl (n _)
  .by_cases z2:b=T
   .rw[z2,nU h3] at e;cases e;exact absurd rfl (n _)
   .rw[iF z z2] at e;exact e
 refine⟨I.ok,I.os,I.bare,⟨I.base.keep,I.base.slot,λb o e n hx=>no b (I.base.free b o e n hx),I.base.there,λb xs e=>so b _ (I.base.mq b xs e) (λ_ z=>nomatch z),λb o u e=>so b _ (I.base.jP b o u e) (λ_ z=>nomatch z),λb ps e=>?_⟩,I.loc,I.cell,no _ I.free,λx c e=>no _ (I.eW x c e),λp hp=>?_,λb o e=>?_,I.len⟩
 .exact so b _ (I.base.jq b ps e) λ_ z=>nomatch z
 .obtain⟨e,n,r⟩:=I.pin p hp;exact⟨e,no _ n,r⟩
 .by_cases z:b=ea
  .subst z;rw[h1] at e;cases e;obtain⟨vs,_,_,hx,_⟩:=I.wF h3;exact As hx
  .by_cases z2:b=T
   .rw[z2,h2] at e;cases e
   .refine(I.bf b o (by rwa[iF z z2])).jR (λ_ _ _ q=>q) (λc q=>so c _ q λ_ z=>nomatch z) (λc xs q=>so c _ q λ_ z=>nomatch z) λc t q=>so c _ q λ_ z=>nomatch z
def Inv.gone{E:Value->Shared->Prop}{n:Str}{Q:Unit->Shared->Prop}(I:Inv X HQ σ H s)(hN:X.N.Nodup)(hi:X.N[i]?=some n)(hx:X.env.scope.names.lookup n=some .local)
  (h:∀s',Inv X HQ (σ.set i none) H s'->Q () s'):wpAny ↑8 A (do bindName X.env n .none;unbindBehindTheSuite X.env n pos) Q E s:=by
 obtain⟨m,hn,hl⟩:=id I.loc;have wQ:=I.wQ;refine wpAny_nameGoes_keeps hx hn (by rw[I.ok.kind];rfl) λh' v Lo hs=>?_;obtain⟨oL,_,_,hoL,_⟩:=id hn;have tracked:kX X.prog X.w H h':=λb ob e=>by
  refine(I.bf b ob e).jR (λc w' hc q=>(hs.2 c ?_).trans q) (λ_ q=>q) λ_ _ q=>q;rintro rfl;rcases hc with z|hc
  .rw[<- z,I.free] at e;cases e
  .rw[I.free] at hc;cases hc
 refine h _ ⟨I.ok,I.os,I.bare,⟨λb o e n hb hx=>?_,λb o e n hb hx=>?_,I.base.free,λb o e hx=>?_,I.base.mq,I.base.jP,I.base.jq⟩,⟨_,Lo,λj y v' e1 e2 e3=>?_⟩,λy c e=>?_,I.free,I.eW,λp hp=>?_,tracked,by simpa using I.len⟩
 .exact(hs.2 b (L7 (LU (LN e) I.ok.above))).trans (I.base.keep b o e n hb hx)
 .obtain⟨sl,e1⟩:=I.base.slot b o e n hb hx;exact⟨sl,(hs.2 b (L7 (LU (LN e) I.ok.above))).trans e1⟩
 .obtain⟨o',e1⟩:=I.base.there b o e hx;exact⟨o',(hs.2 b (L7 (LU (LN e) I.ok.above))).trans e1⟩
 .have hj:i≠j:=λz=>by
   subst z;rw[M5,if_pos rfl] at e2
   split at e2<;>cases e2
  rw[OS hj] at e2;obtain⟨u',r',q⟩:=hl j y v' e1 e2 e3;refine⟨u',r',?_⟩;rcases q with ⟨k,e⟩|⟨k,c,e,z⟩
  .refine .inl ⟨k,?_⟩;have:y≠n:=λe=>hj (nu hN hi (e▸e1));simp[this,e]
  .exact .inr ⟨k,c,e,z.sameBut hs (wQ y c e)⟩
 .obtain⟨w',z⟩:=I.cell y c e;exact⟨w',z.sameBut hs (wQ y c e)⟩
 .obtain⟨e,n,ne,nf,d⟩:=I.pin p hp;exact⟨(hs.2 p.1 ne).trans e,n,ne,nf,d⟩
end
abbrev Hd:=(Addr->Option Bool)×Option Nat×(af->M Out)
def yR(i:Nat):Out->Out
 | .nx e=>.nx (e.set i none)
 | .bk e=>.bk (e.set i none)
 | .ct e=>.ct (e.set i none)
 |.rt p=>.rt p
def ll(o:Option Nat)(h:af->M Out)(x:EX)(env:af):M Out:=match o with
 | none=>zp (h env)
 |some i=>(zp (h (env.set i (some (.sh (.exc x.1 x.2)))))).bind λout=>M.ok (yR i out)
def qj(b:Option Bool)(x y:M Out):M Out:=match b with
 | some true=>x
 | some false=>y
 |none=>none
def iO:List Hd->EX->af->M Out
 | [],_,_=>none
 |(t,o,h)::r,x,env=>qj (t x.1) (ll o h x env) (iO r x env)
def tQ(r:M Out)(k:EX->M Out):M Out:=match r with
 | some (.error x)=>k x
 |r=>r
def zK(f:af->M Out)(hs:List Hd):af->M Out:=λenv=>tQ (f env) λx=>iO hs x env
inductive Bo (X:Cx) (E:XK):List ExceptHandler->List Hd->Prop where
 | nil:Bo X E [] []
 | D1 {x:Str} {np pos:Pos} {b₀:Stmt} {Jt:List Stmt} {rest:List ExceptHandler} {t:Addr->Option Bool} {h:af->M Out} {hs:List Hd} {D:Addr} (hg:Gl X x) (hm:X.mg x=some (.ref D)) (hd:(x==("__debug__" : Str))=false)
   (ht:∀C b,t C=some b->OC X.K (.ref C) (.ref D)=some b) (hb:∀ea,i7 (X.hand ea) (b₀::Jt) (tS E h)) (r:Bo X E rest hs):Bo X E (.ExceptHandler (some (.Name x np)) none (b₀::Jt) pos::rest) ((t,none,h)::hs)
 | A6 {x n:Str} {i:Nat} {np pos:Pos} {b₀:Stmt} {Jt:List Stmt} {rest:List ExceptHandler} {t:Addr->Option Bool} {h:af->M Out} {hs:List Hd} {D:Addr} (hg:Gl X x) (hm:X.mg x=some (.ref D)) (hd:(x==("__debug__" : Str))=false)
   (hN:X.N.Nodup) (hi:X.N[i]?=some n) (hx:X.env.scope.names.lookup n=some .local)
   (ht:∀C b,t C=some b->OC X.K (.ref C) (.ref D)=some b) (hb:∀ea,i7 (X.hand ea) (b₀::Jt) (tS E h)) (r:Bo X E rest hs):Bo X E (.ExceptHandler (some (.Name x np)) (some n) (b₀::Jt) pos::rest) ((t,some i,h)::hs)
variable{hd:List Hd}{hls:List ExceptHandler}
section
variable{B:Hp}{ea:Addr}{E:XK}{env:af}{fo:Option (List (Str×PV))}{D:Ends}{F:Value->Shared->Prop}
theorem SP.gW{D:Ends}{f:Flow}{s':Shared}(h:SP (X.hand ea) HQ D f s')(ok:X.Ok):SP X HQ D f s':=by
 cases f with
 | next=>obtain⟨σ',H',I,q⟩:=h;exact⟨σ',H',I.gW ok,q⟩
 | brk=>obtain⟨σ',H',I,q⟩:=h;exact⟨σ',H',I.gW ok,q⟩
 | cont=>obtain⟨σ',H',I,q⟩:=h;exact⟨σ',H',I.gW ok,q⟩
 |ret u=>obtain⟨v,σ',H',I,r,q⟩:=h;exact⟨v,σ',H',I.gW ok,r,q⟩
def ar.err{r:M α}{Q:α->Prop}(h:ar r Q (λ_=>False)):ar r Q E':=h.imp (λ_ z=>z) λ_ z=>z.elim
def Ends.gone(D:Ends)(i:Nat):Ends:=⟨fun σ H=>D.nx (σ.set i none) H,D.rt,fun σ H=>D.bk (σ.set i none) H,fun σ H=>D.ct (σ.set i none) H⟩
theorem KS.gone{i:Nat}{o:Out}(h:KS D B H₀ (yR i o)):KS (D.gone i) B H₀ o:=by
 cases o with
 | nx e=>exact fun σ Hs H sr=>h _ Hs H sr.unset
 | bk e=>exact fun σ Hs H sr=>h _ Hs H sr.unset
 | ct e=>exact fun σ Hs H sr=>h _ Hs H sr.unset
 |rt p=>exact h
def zi{M:Model}{o:Obj}(hx:s.heap.get? ea=some o):Ob M s.heap (typeOf (.ref ea)) o.cls:=by
 intro A Q E s' k q;exact yF (k _ _ hx) q
def Bo.run(hh:Bo X E hls hd):∀{s:Shared},Inv X HQ σ (kF Hc ea T C dd .none) s->Hc ea=some (gC C dd ea)->Hc T=none->T≠ea->SR B H₀ Hs Hc σ env->Rep Hs (.exc C fo) (.ref ea) ->ar (iO hd (C,fo) env) (KS D B H₀) Z->wpAny ↑8 X.A (handleBy (.ref ea) X.env hls) (SP X HQ D) F s:=by
 induction hh with
 | nil=>intro s I h1 h2 h3 sr rp q;exact q.elim
 | @D1 x np pos b₀ Jt rest t h hs Dc hg hm hd ht hb r ih =>
  intro s I h1 h2 h3 sr rp q;obtain⟨vs,oT,ts,hx,_⟩:=I.wF h3;refine QC (Qk (f_ (I.hand ea) hg hm ?_ hd)) (λq=>nomatch q);have LT:=zi (M:=model X.prog X.w) hx;cases e:t C with
  | none=>simp only[iO,e,qj] at q;exact q.elim
  | some b =>
   refine(RV I.h9 LT (ht C b e)).here ?_;cases b with
   | false =>
    simp only[iO,e,qj] at q;exact ih I h1 h2 h3 sr rp q
   | true =>
    simp only[iO,e,qj,ll] at q;refine codeAny_handlers_suite ((I.hand ea).mx (fr:=none) h3 λh' I2=>?_);refine MS (hb ea HQ _ σ Hc D (I2.xU h1 h2 h3) ⟨B,H₀,Hs,env,sr,(ar.zp q).err⟩) (λf s' z=>z.gW I.ok) λ_ _ z=>z.elim
 | @A6 x n i np pos b₀ Jt rest t h hs Dc hg hm hd hN hi hxn ht hb r ih =>
  intro s I h1 h2 h3 sr rp q;obtain⟨vs,oT,ts,hx,_⟩:=I.wF h3;refine QC (Qk (f_ (I.hand ea) hg hm ?_ hd)) (λq=>nomatch q);have LT:=zi (M:=model X.prog X.w) hx;cases e:t C with
  | none=>simp only[iO,e,qj] at q;exact q.elim
  | some b =>
   refine(RV I.h9 LT (ht C b e)).here ?_;cases b with
   | false =>
    simp only[iO,e,qj] at q;exact ih I h1 h2 h3 sr rp q
   | true =>
    simp only[iO,e,qj,ll] at q;refine codeAny_handlers_suite_as ((I.hand ea).mx (fr:=none) h3 λh' I2=>?_);refine mQ (X:=X.hand ea) (v:=.ref ea) (i:=i) (I2.xU h1 h2 h3) hN hi (.inl hxn) rfl (λs3 I3=>?_) (.inr hxn);refine MS (hb ea HQ _ _ Hc (D.gone i) I3 ⟨B,H₀,Hs,_,sr.set rp,(ar.zp (E:=Z) ?_).err⟩) (λf s' z=>?_) λ_ _ z=>z.elim
    .exact(ar.bind q).imp (λo z=>KS.gone z) λ_ z=>z
    .cases f with
     | next=>obtain⟨σ',H',I4,d⟩:=z;exact(I4.gW I.ok).gone hN hi hxn λs5 I5=>⟨_,H',I5,d⟩
     | brk=>obtain⟨σ',H',I4,d⟩:=z;exact(I4.gW I.ok).gone hN hi hxn λs5 I5=>⟨_,H',I5,d⟩
     | cont=>obtain⟨σ',H',I4,d⟩:=z;exact(I4.gW I.ok).gone hN hi hxn λs5 I5=>⟨_,H',I5,d⟩
     |ret u=>obtain⟨v,σ',H',I4,rv,d⟩:=z;exact(I4.gW I.ok).gone hN hi hxn λs5 I5=>⟨v,_,H',I5,rv,d⟩
def DF{h₀:ExceptHandler}{f:af->M Out}(Ja:X.stack=X.env::X.outer)(hf:X.env.frame=some X.env.locals)(hb:∀(pn:List (Addr×Obj))(E2:St->XK),dh ((X.jn pn).out E2) E2->i7 ((X.jn pn).out E2) body (Gr E2 f))(hh:Bo X E (h₀::hls) hd):PS X (.Try body (h₀::hls) [] [] pos) (tS E (zK f hd)):=by
 intro HQ s σ H D I q;obtain⟨B,H₀,Hs,env,sr,q⟩:=q;refine wpAny_Try_except ?_
 let E2:St->XK:=fun σ v _ Hc=>∃Hs C fo ea,v=.ref ea/\SR B H₀ Hs Hc σ env/\Rep Hs (.exc C fo) (.ref ea)/\ar (iO hd (C,fo) env) (KS D B H₀) (XW E B H₀)
 have q1:ar (f env) (KS D B H₀) (XW (E2 σ) Hs H):=by
  unfold zK at q;cases e:f env with
  | none=>rwa[e] at q
  | some r =>
   rw[e] at q;cases r with
   | ok o=>exact q
   | error x=>exact λea HV H' g rp=>⟨HV,x.1,x.2,ea,rfl,sr.grow g,rp,q⟩
 refine MS (hb (X.pn++HQ) E2 (je Ja hf) [] s σ H D (I.jn.k6 _) ⟨B,H₀,Hs,env,sr,q1⟩) (λfl s1 hq=>?_) (λe s1 z=>?_)
 .cases fl with
  | next=>obtain⟨σ',H',I',d⟩:=hq;exact Od ⟨σ',H',I'.cJ.mB,d⟩
  | brk=>obtain⟨σ',H',I',d⟩:=hq;exact⟨σ',H',I'.cJ.mB,d⟩
  | cont=>obtain⟨σ',H',I',d⟩:=hq;exact⟨σ',H',I'.cJ.mB,d⟩
  | ret u=>obtain⟨v,σ',H',I',r,d⟩:=hq;exact⟨v,σ',H',I'.cJ.mB,r,d⟩
 .refine Zx.note (X:=X.jn (X.pn++HQ)) z Ja hf λs' ea C dd JO σ' Hc T he I2 h1 h2 h3 h4=>?_;subst he;refine I2.mx (fr:=none) h3 λh' I3=>?_;obtain⟨HV,C',fo,ea',ee,JE,rp,hp⟩:=h4;cases ee;have I4:=I3.xU h1 h2 h3;have eC:C'=C:=by
   obtain⟨vs,hx⟩:=I4.nR h1;cases rp with
   | qk hr =>
    obtain⟨vs2,Jp⟩:=I4.nR (JE.gr.sub _ _ hr);rw[hx] at Jp;injection Jp with Jp;injection Jp with Jp;injection Jp with Jp;exact Jp.symm
   | ou hr _ _ =>
    obtain⟨vs2,Jp⟩:=I4.nR (JE.gr.sub _ _ hr);rw[hx] at Jp;injection Jp with Jp;injection Jp with Jp;injection Jp with Jp;exact Jp.symm
  subst eC;exact hh.run I3.mB h1 h2 h3 JE rp hp
end
def lC(ys ns:List Addr)(C:Addr):Option Bool:=if ys.contains C=true then some true else if ns.contains C=true then some false else none
variable{ns:List Addr}
def m_{ys:List Addr}(h:lC ys ns C=some b):(b=true/\C∈ys)\/(b=false/\C∈ns):=by
 unfold lC at h
 by_cases h1:ys.contains C=true
 .rw[if_pos h1] at h;cases h;exact .inl ⟨rfl,by simpa using h1⟩
 .rw[if_neg h1] at h
  by_cases h2:ns.contains C=true
  .rw[if_pos h2] at h;cases h;exact .inr ⟨rfl,by simpa using h2⟩
  .rw[if_neg h2] at h;cases h
def wR(f:Addr->Option Bool)(ys ns:List Addr):Bool:=ys.all (λC=>f C==some true)&&ns.all λC=>f C==some false
def sS{f:Addr->Option Bool}{ys:List Addr}(h:wR f ys ns=true)(e:lC ys ns C=some b):f C=some b:=by
 unfold wR at h;rw[My,Me,Me] at h;rcases m_ e with ⟨rfl,m⟩|⟨rfl,m⟩
 .exact eq_of_beq (h.1 C m)
 .exact eq_of_beq (h.2 C m)
structure GB (K:LI) (mg:Str->Option Value) (x:Str) (D:Addr) (ys ns:List Addr):Prop where
 mg:mg x=some (.ref D)
 ok:∀C b,lC ys ns C=some b->OC K (.ref C) (.ref D)=some b
def GB.of{K:LI}{ys:List Addr}(h1:mg x=some (.ref D))(h2:wR (λC=>OC K (.ref C) (.ref D)) ys ns=true):GB K mg x D ys ns:=⟨h1,λ_ _ e=>sS h2 e⟩
def kS{p:α->Prop}:∀x∈([]:List α),p x:=λ_ h=>nomatch h
def o6{p:α->Prop}{a:α}{l:List α}(h:p a)(r:∀x∈l,p x):∀x∈a::l,p x:=λx m=>by
 rcases L5.mp m with rfl|m
 .exact h
 .exact r x m
def zl:List String:=["NoneType","bool","int","str","tuple","list","dict"]
def zW{a:String}(h:AE p=some a):a∈zl:=by
 cases p<;>first|(cases h;decide)|cases h
structure Di (K:LI) (mg:Str->Option Value) (x:Str) (D:Addr) (ys ns yo no:List Addr):Prop where
 mg:mg x=some (.ref D)
 ty:∀p a,AE p=some a->L6 K (.type a) (.ref D)=some false
 ob:∀C b,lC yo no C=some b->uo K C/\L6 K (.ref C) (.ref D)=some b
 oe:∀C b,lC ys ns C=some b->eU K C/\L6 K (.ref C) (.ref D)=some b
def Di.of{K:LI}{ys yo no:List Addr}(h1:mg x=some (.ref D))(h2:(zl.all λa=>L6 K (.type a) (.ref D)==some false)=true)(h3:wR (λC=>L6 K (.ref C) (.ref D)) yo no=true)(h4:wR (λC=>L6 K (.ref C) (.ref D)) ys ns=true)(o1:∀C∈yo,uo K C)(o2:∀C∈no,uo K C)(e1:∀C∈ys,eU K C)(e2:∀C∈ns,eU K C):Di K mg x D ys ns yo no where
 mg:=h1
 ty:=λp a h=>by
  rw[Me] at h2;exact eq_of_beq (h2 a (zW h))
 ob:=λC b h=>⟨by rcases m_ h with ⟨_,m⟩|⟨_,m⟩<;>first|exact o1 C m|exact o2 C m,sS h3 h⟩
 oe:=λC b h=>⟨by rcases m_ h with ⟨_,m⟩|⟨_,m⟩<;>first|exact e1 C m|exact e2 C m,sS h4 h⟩
section
variable{p px pt:Pos}{f:af->M PV}{ys yo no:List Addr}
def Di.is(c:Di X.K X.mg x D ys ns yo no)(hg:Gl X "isinstance")(hm:X.mg "isinstance"=none)(hx:Gl X x)(he:PE X e (tE E f))(hd:autoParam ↑7 aD._auto_1)(h1:autoParam (starEach [e,.Name x pt] X.env=(false,eval e X.env)::starEach [.Name x pt] X.env) aR._auto_1)(h2:autoParam (starEach [.Name x pt] X.env=(false,eval (.Name x pt) X.env)::starEach [] X.env) aR._auto_1)(Iu:autoParam ((backTo pos (starEach [.Name x pt] X.env)).any (·.1)=false) aR._auto_1):PE X (.Call (.Name "isinstance" p) [e,.Name x pt] [] pos) (tE E (iV (λ_=>false) (lC yo no) (lC ys ns) f)) :=
 B2 hg hm (uC hx c.mg rfl hd) c.ty c.ob c.oe he h1 h2 Iu
end
section
variable{o:Expr}{f g:af->M PV}
def En(K:LI):V->List V->Hp->VK->Prop:=λx vs H Q=>∃(l:Addr)(bs:List Bool)(b:Bool)(j:Nat),x=.ref l/\vs=[.bl b]/\gR K H l (bs.map V.bl)/\bs.findIdx? (·==b)=some j/\Q (.int j) H
def Vals.DJ{bs:List Bool}(r:Vals (bs.map V.bl) us):us=bs.map Mw:=by
 induction bs generalizing us with
 | nil=>cases r;rfl
 | cons a t ih =>
  cases r with
  | cons h r =>
   cases (show _=Mw a from h);rw[ih r];rfl
theorem y8:FQ X "list.index" (En X.K):=by
 intro HQ s σ H x vs v us Q I rx rv h;obtain⟨l,bs,b,j,rfl,rfl,hq,hj,q⟩:=h;cases rx;obtain⟨u,rfl,ru⟩:=rv.one;cases ru;obtain⟨HW,r,⟨ob,n,e,c,hdd,hd⟩,hz⟩:=I.list hq;obtain rfl:=r.DJ;obtain⟨oc,od,dt,sl⟩:=ob;simp only at c hd;subst c hd;obtain⟨hj1,hj2,hj3⟩:=List.findIdx?_eq_some_iff_getElem.mp hj;have hl:j<(bs.map Mw).toArray.size:=by simpa using hj1
 have Ke:bs.length<=sizeLine:=by simpa using hz
 have hs:(j:Int)<2^63-1:=by
  have:sizeLine<2^40:=by decide
  lia
 refine NY F.slot_list_index ⟨_,e,rfl⟩ F.entry_list_index (F.args_list_index_2 _ _) (SeqAt.list_indexAt l (bs.map Mw).toArray n od sl (.bool b) (λy=>y==.bool b) j hl hs ?_ ?_) ⟨e,λy hy=>?_,?_⟩
 .have:=eq_of_beq hj2;simp[this]
 .intro m hm h2;have:=hj3 m h2;simpa using this
 .obtain⟨a,ha,rfl⟩:∃a,a∈bs/\Mw a=y:=by simpa using hy
  have:=Qt (A:=X.A.in1) (s:=s) a b;have e2:(Mw a==Mw b)=(a==b):=by cases a<;>cases b<;>rfl
  rw[e2];exact this
 .exact⟨.int j,H,I.kept (t':=s.toks+1) λ_ _ z=>z,⟨_,rfl⟩,q⟩
def Bg(p q:PV):M PV:=match p,q with
 | .lst xs,.bl b=>fJ ((t6 xs).bind λbs=>(bs.findIdx? (·==b)).map λ(j:Nat)=>.int (j:Int))
 |_,_=>none
def GI(p:PV)(k:M PV):M PV:=match p with
 | .lst xs=>k.bind λq=>Bg (.lst xs) q
 |_=>none
def yB(f g:af->M PV):af->M PV:=λenv=>(f env).bind λp=>GI p (g env)
def yK(ho:PE X o (tE E f))(ha:PE X e (tE E g))(Jm:autoParam (attributeBase o "index" X.env (eval o X.env)=eval o X.env) aR._auto_1)(JT:autoParam (((backTo Ik (starEach [e] X.env)).all (λx=>!x.1)&&(backToKw Ik (keywordEach [] X.env)).all (λx=>x.1.isSome)&&decide ([e].length+([]:List Keyword).length+(if ([]:List Keyword).isEmpty then 0 else 1)<30))=true) aR._auto_1)(Jn:autoParam ((apos.endLine==Ik.line)=true) aR._auto_1)(hs:autoParam (starEach [e] X.env=(false,eval e X.env)::starEach [] X.env) aR._auto_1)(IT:autoParam ((backTo Ik (starEach [] X.env)).any (·.1)=false) aR._auto_1):PE X (.Call (.Attribute o "index" apos) [e] [] Ik) (tE E (yB f g)):=by
 refine(xR Oj PySem.F.slot_list_index PySem.F.type_list_index y8 ho (bM ha e9 hs) Jm JT Jn hs IT).imp fun σ H Q q=>?_;refine me q λB H₀ Hs H1 env p v sr rp hp=>?_;cases rp with
 | @lst a _ vs K2 hx =>
  refine⟨.inl ⟨rfl,_,gR.of (sr.gr.sub _ _ K2)⟩,B,H₀,Hs,env,sr,(ar.bind hp).imp (λq2 hq u HV H' g' ru=>?_) λe he=>he⟩;cases ru with
  | bl b =>
   obtain⟨z,ez,Jo⟩:=ar.opt hq;obtain⟨bs,e1,e2⟩:=Ng.mp ez;obtain⟨j,e3,rfl⟩:=LP.mp e2;obtain rfl:=pN e1;obtain rfl:=hx.DJ;exact⟨a,bs,b,j,rfl,rfl,gR.of ((sr.grow g').gr.sub _ _ (g'.st _ _ K2)),e3,Jo _ _ _ g' (.int _)⟩
  | _=>exact hq.elim
 |_=>exact hp.elim
end
section
open PySem PySem.Spec PyProof.Rows _root_.HT
section
variable{E:Value->Shared->Prop}
def j9{t sl:Addr}{vl vu:Value}{lo hi:Option Int}(ht:IsTup s.heap t HR)(hs:s.heap.IsSliceOf sl vl vu .none)(pl:IsPart vl lo)(pu:IsPart vu hi)(hw:dJ HR.size 0 lo=0/\dJ HR.size HR.size hi=HR.size)(h:Q (.ref t) s):wpAny ↑11 A (getItem (.ref t) (.ref sl)) Q E s:=by
 obtain⟨os,KW,hcs,Lj⟩:=id hs;have hTs:s.TypeIs (.ref sl) "slice" := ⟨os,KW,hcs⟩
 unfold getItem
 try with_reducible refine Nb ?_
 first|refine LH (LM ?_)|skip
 refine LH (Ri ht.typeIs ↑12 ?_);refine LH (MN (name:=MC "__getitem__") ht.typeIs ME
  (Np ME ht.typeIs Qz ?_ (QT _ _)))
 show wpAny _ _ (Pf (.ref t) >>= _) _ _ s;refine LH (tupleItemsOf_ ht ?_);refine LH (Rj hTs ?_);rw[if_pos ↑12];refine LH (hV hs pl pu ?_);have hyes:(((dJ HR.size 0 lo:Nat):Int)==0&&(1:Int)==1&&(dJ HR.size HR.size hi-dJ HR.size 0 lo)==HR.size)=true:=by
  rw[hw.1,hw.2];simp
 show wpAny _ _ (if (((dJ HR.size 0 lo:Nat):Int)==0&&(1:Int)==1&&(dJ HR.size HR.size hi-dJ HR.size 0 lo)==HR.size)=true then _ else _) _ _ s;rw[if_pos hyes];unfold Builtin.Tuple.tupleIsExact;refine LH (LH (Rj ht.typeIs (LM ?_)));rw[if_pos (show ((M0 "tuple" == M0 "tuple")=true) from beq_self_eq_true _)];refine LH (QU ?_)
 first
  | exact LH (LM (LM ⟨_,rfl,LM h⟩))
  | exact LH (LM ⟨_,rfl,LM h⟩)
  |exact LM ⟨_,rfl,LM h⟩
end
section
variable{lo hi:Option Expr}{p2:Pos}{f:af->M PV}{gl gh:af->M (Option Int)}
def Gx(K:LI):V->Option Int->Option Int->Hp->VK->Prop:=λx lo hi H Q=>∃a xs,x=.ref a/\gB K H a xs/\(dJ xs.length 0 lo=0/\dJ xs.length xs.length hi=xs.length)/\Q (.ref a) H
def zO:zo X (Gx X.K):=by
 intro HQ s σ H x v vl vu lo hi sl Q I rx hs pl pu h;obtain⟨a,xs,rfl,hx,hw,q⟩:=h;cases rx;obtain⟨HW,r,ht,hz⟩:=I.tuple hx;have hlen:HW.toArray.size=xs.length:=by rw[LW];exact r.length.symm
 refine⟨"tuple",_,ME.lookup,ht.typeIs,?_⟩;exact j9 ht hs pl pu (by rwa[hlen]) ⟨.ref a,H,I,rfl,q⟩
def G5(p:PV)(lo hi:Option Int):M PV:=match p with
 | .tup xs=>M.ok (.tup (jQ xs lo hi))
 | .lst xs=>M.ok (.lst (jQ xs lo hi))
 | .eS xs=>M.ok (.lst (jQ xs lo hi))
 |_=>none
def pV(f:af->M PV)(lo hi:af->M (Option Int)):af->M PV:=λenv=>(f env).bind λp=>(lo env).bind λl=>(hi env).bind λh=>G5 p l h
def pe(he:PE X e (tE E f))(hl:PO X lo (Fg E gl))(hh:PO X hi (Fg E gh)):PE X (.Subscript e (.Slice lo hi none p2) pos) (tE E (pV f gl gh)):=by
 refine(xc (zo.or Cr (zo.or zO zx)) he hl hh).imp fun σ H Q q=>b_ (K:=ja Q) ja.g q λB H₀ Hs H1 env p v sr rp hp=>?_;refine⟨B,H₀,Hs,env,sr,(ar.bind hp).imp (λl hl Im H2 g2=>?_) λe he=>he⟩;have IG:=sr.grow g2;refine⟨B,H₀,Im,env,IG,(ar.bind hl).imp (λh hh JC H3 g3=>?_) λe he=>he.grow g2⟩;have JZ:=IG.grow g3;have hz:ar (G5 p l h) (dX JC H3 Q) (λ_=>True):=hh.imp (λz hz w Hs4 H4 g4 r=>hz w Hs4 H4 ((g2.trans g3).trans g4) r) λ_ _=>trivial;have rp3:=(rp.mono g2.st).mono g3.st;cases rp3 with
 | @tup a xs vs ha hx =>
  by_cases hn:dJ xs.length 0 l=0/\dJ xs.length xs.length h=xs.length
  .refine .inr (.inl ⟨_,_,rfl,gB.of (JZ.gr.sub _ _ ha),by rwa[<- hx.length],?_⟩);have e:jQ xs l h=xs:=by
    unfold jQ;rw[hn.1,hn.2,List.drop_zero,Nat.sub_zero,List.take_length]
   have Ke:dX JC H3 Q (.tup xs):=by
    have z:dX JC H3 Q (.tup (jQ xs l h)):=hz;rwa[e] at z
   exact dX.flat Ke JZ.gr.sub (.tup ha hx)
  .exact .inl ⟨_,_,rfl,gB.of (JZ.gr.sub _ _ ha),by rwa[<- hx.length],dX.tup hz JZ.gr.sub (hx.cut l h)⟩
 | lst ha hx=>exact .inr (.inr ⟨_,_,rfl,gR.of (JZ.gr.sub _ _ ha),dX.lst hz JZ.gr.sub (hx.cut l h)⟩)
 | eS ha hx=>exact .inr (.inr ⟨_,_,rfl,.inl (.inr ⟨_,JZ.gr.sub _ _ ha⟩),dX.lst hz JZ.gr.sub (hx.cut l h)⟩)
 |_=>exact hz.elim
end
end
def GC(ys:List Addr)(f:Str):PV->M PV
 | .exc C (some fs)=>cX (ys.contains C=true) (fJ (fs.lookup f))
 |_=>none
def FG(ys:List Addr)(f:Str)(g:af->M PV):af->M PV:=λenv=>(g env).bind (GC ys f)
def Ea{g:af->M PV}{ys:List Addr}{f:Str}(he:PE X e (tE E g))(hy:∀C∈ys,eU X.K C/\cF X.K C f)(hb:attributeBase e f X.env (eval e X.env)=eval e X.env):PE X (.Attribute e f pos) (tE E (FG ys f g)):=by
 refine(Af he hb).imp fun σ H Q q=>b_ (K:=ja Q) ja.g q λB H₀ Hs H1 env p v sr rp hp=>?_;cases p with
 | exc C fo =>
  cases fo with
  | none=>exact hp.elim
  | some fs =>
   obtain⟨m,hp⟩:=ar.cX hp;obtain⟨x,ex,hp⟩:=ar.opt hp;have m':C∈ys:=by simpa using m
   cases rp with
   | @ou a _ d _ vs h1 h2 h3 =>
    obtain⟨u,h4,h5⟩:=h3.look ex;exact⟨a,C,vs,u,rfl,⟨d,sr.gr.sub _ _ h1,sr.gr.sub _ _ h2⟩,(hy C m').1,(hy C m').2,h4,dX.flat hp sr.gr.sub h5⟩
 |_=>exact hp.elim
section
variable{o:Expr}{g:af->M PV}{fs:af->M (List PV)}{L:List (Addr×(List PV->M PV))}{K:LI}
end
section
open PySem.SeqAt (shaped EqAt RcAt RcNeAt)
section
variable{b:Addr}
end
end
end L2
namespace HT
open PySem PyProof.Rows
variable{E:Value->Shared->Prop}{A:Around}{w:World}{prog:Program}
section
variable{a b v:Value}{k:Bool}{I S ax:Addr}{t:Shared}{n:Nat}{R:Result->Shared->Prop}
end
section
open PySem.SeqAt
open PySem.AutoSeq1 (wpAny_loadPart')
open PySem.MeetsSeq PySem.MeetsSeq2 PySem.MeetsSeq3
end
section
variable{s:Shared}
end
end HT
namespace L2
open PySem PySem.Spec PyProof.Rows
variable{E:St->XK}{X:Cx}
variable{js:List Nat}{f:af->M PV}{it:af->M (List PV)}{wi:TI}{pos:Pos}{scope:Scope}
variable{y:Str}{i:Nat}
section
variable{tg elt iter c:Expr}{cl:List (Str×Addr)}{g:TG}{set:PV->af->M af}{ts fs:List Str}
variable{E:XK}{py JY:Pos}
end
section
variable{tg elt iter c:Expr}{cl:List (Str×Addr)}{g:TG}{set:PV->af->M af}{u:af->M Bool}{ts fs:List Str}
variable{E:XK}{py JY:Pos}
end
section
variable{o:Expr}{apos Ik:Pos}
end
section
open PySem.SeqAt (shaped)
end
end L2
local macro_rules|`(tactic| walk_at "u1")=>`(tactic| unfold $(Lean.mkIdent (Lean.mkPrivateNameCore `PySem.Builtin.List.W1All `PySem.Builtin.gallop)):ident)
namespace Srt
open PySem PyProof.Rows
section
variable{prog:Program}{w:World}{A:Around}{E:Value->Shared->Prop}{s:Shared}{κ:KeyKind}{k:SortKind}
end
end Srt
namespace Srt
open PySem PyProof.Rows
variable{R:Keyed->Keyed->Prop}{tot A B A1 A2 out:List Keyed}
section
variable{prog:Program}{w:World}{A:Around}{E:Value->Shared->Prop}{s:Shared}{κ:KeyKind}{k:SortKind}
end
end Srt
local macro_rules|`(tactic| walk_at "u2")=>`(tactic| unfold $(Lean.mkIdent (Lean.mkPrivateNameCore `PySem.Builtin.List.W1All `PySem.Builtin.mergeLo)):ident)
namespace Srt
open PySem PyProof.Rows
section
variable{κ:KeyKind}{a b out:Array Keyed}{ia ib m:Nat}
end
section
variable{prog:Program}{w:World}{A:Around}{E:Value->Shared->Prop}{s:Shared}{κ:KeyKind}{k:SortKind}
end
end Srt
local macro_rules|`(tactic| walk_at "u3")=>`(tactic| unfold $(Lean.mkIdent (Lean.mkPrivateNameCore `PySem.Builtin.List.W1All `PySem.Builtin.mergeHi)):ident)
namespace Srt
open PySem PyProof.Rows
section
variable{κ:KeyKind}{a b out:Array Keyed}{na nb m:Nat}
end
section
variable{prog:Program}{w:World}{A:Around}{E:Value->Shared->Prop}{s:Shared}{κ:KeyKind}{k:SortKind}
end
end Srt
local macro_rules|`(tactic| walk_at "u4")=>`(tactic| unfold $(Lean.mkIdent (Lean.mkPrivateNameCore `PySem.Builtin.List.W1All `PySem.Builtin.countRun)):ident)
local macro_rules|`(tactic| walk_at "u5")=>`(tactic| unfold $(Lean.mkIdent (Lean.mkPrivateNameCore `PySem.Builtin.List.W1All `PySem.Builtin.binarySort)):ident)
namespace Srt
open PySem PyProof.Rows
section
variable{κ:KeyKind}{st Ky Ks:SortSt}{lo hi:Nat}
end
section
variable{prog:Program}{w:World}{A:Around}{E:Value->Shared->Prop}{s:Shared}{κ:KeyKind}{k:SortKind}
end
end Srt
local macro_rules|`(tactic| walk_at "u6")=>`(tactic| unfold $(Lean.mkIdent (Lean.mkPrivateNameCore `PySem.Builtin.List.W1All `PySem.Builtin.mergeAt)):ident)
namespace Srt
open PySem PyProof.Rows
section
variable{prog:Program}{w:World}{A:Around}{E:Value->Shared->Prop}{s:Shared}{κ:KeyKind}{k:SortKind}
end
end Srt
local macro_rules|`(tactic| walk_at "u7")=>`(tactic| unfold $(Lean.mkIdent (Lean.mkPrivateNameCore `PySem.Builtin.List.W1All `PySem.Builtin.sortRuns)):ident)
namespace Srt
open PySem PyProof.Rows
section
variable{κ:KeyKind}{a a':Array Keyed}
end
section
variable{prog:Program}{w:World}{A:Around}{E:Value->Shared->Prop}{s:Shared}{κ:KeyKind}{k:SortKind}{a0:Array Keyed}
end
end Srt
local macro_rules|`(tactic| walk_at "u8")=>`(tactic| unfold $(Lean.mkIdent (Lean.mkPrivateNameCore `PySem.Builtin.List.W1All `PySem.Builtin.keyLt)):ident)
namespace Srt
open PySem PyProof.Rows
section
variable{prog:Program}{w:World}{A:Around}{E:Value->Shared->Prop}{s:Shared}
end
end Srt
namespace Srt
open PySem PyProof.Rows
section
variable{prog:Program}{w:World}{A:Around}{E:Value->Shared->Prop}{s:Shared}
end
end Srt
namespace L2
open PySem PySem.Spec PyProof.Rows
variable{x:Str}{i:Nat}{pos:Pos}{e:Expr}{X:Cx}
section
variable{E:XK}{f:af->M PV}
end
variable{d:Addr}{s:Shared}{w:World}{prog:Program}
section
variable{A:Around}{E:Value->Shared->Prop}{it:Addr}{es:Array DictEntry}{ep:Nat}
end
variable{vs:List V}{xs:List PV}{σ:St}{H:Hp}{a:Addr}
section
variable{iL iS ic:Nat}{b0 b1:Addr}{B H₀ Hs:Hp}{env:af}{ys:List PV}{ws:List V}
end
variable{wi:TI}
section
variable{E:XK}{st1 Ks:Stmt}{rest:List Stmt}{iL iS ic:Nat}{it:af->M (List PV)}{fi fv:af->M PV}{g:af->M Out}
end
section
variable{κ:Type}[DecidableEq κ]
end
section
variable(sm:List Int->List Int->List Int)(z r:List Int)
end
section
variable{p:Addr}{H':Hp}{IE kvs':List (List Key×V)}{vs vs':List Int}
end
variable{E:St->XK}
section
variable{K:LI}{sem:List PV->M PV}{sm:List Int->List Int->List Int}{S:List Int}
end
variable{base:Heap}{mg:Str->Option Value}{P:Program}
section
variable{K:LI}
end
variable{px:Pos}
section
variable{a b:Expr}{f g:af->M PV}
end
section
variable{E:XK}{ie:Expr}{pos':Pos}{f g h:af->M PV}
end
section
variable{ie:Expr}{pos':Pos}{f g h:af->M PV}
end
variable{tg:Expr}
section
variable{f:af->M PV}{p:Pos}
end
section
variable{A:Around}{E:Value->Shared->Prop}{es:Array DictEntry}{ep:Nat}
end
section
variable{f:af->M PV}
end
section
variable{E:XK}{f:af->M PV}{p1 p2 LG:Pos}{j:Nat}
end
section
variable{E:XK}{st:Stmt}{rest:List Stmt}{f:af->M Out}{g:af->M (List PV)}
end
section
variable{E:XK}{st:List Stmt}{g:af->M (List PV)}
end
variable{es:List Expr}{ps:List Str}{fd:FuncData}{f:Addr}{k n:Nat}
section
variable{sem:List PV->M (List PV)}{p:Pos}{fs:af->M (List PV)}
end
variable{apos Ik:Pos}
section
variable{E:XK}
end
variable{o:Expr}
section
variable{a:Expr}{f g:af->M PV}{name:Str}{id:String}{r:V->List V->Hp->VK->Prop}{op:Str->PV->M PV}
end
variable{m:Nat}
def aT.no{K:LI}:aT P w K mg base (bB P w) k f fd ps (eT m (aW m λ_=>none)) where
 len:=λvs H Q E h=>by
  obtain⟨_,Hs,qs,sm,r,h⟩:=h;exact(ar.cX h).2.elim
 run:=λA outer s H args us vs Q E hr e hb rv h=>by
  obtain⟨_,Hs,qs,sm,r,h⟩:=h;exact(ar.cX h).2.elim
section
variable{a:Expr}{f g:af->M PV}
end
def Co(K:LI):V->List V->Hp->VK->Prop:=λx xs H Q=>∃(a:Addr)(bs:List Bool)(b:Bool),x=.ref a/\xs=[.bl b]/\gR K H a (bs.map V.bl)/\Q (.int (bs.countP λc=>c==b:Nat)) H
theorem n8:∀{bs:List Bool}{us:List Value},Vals (bs.map V.bl) us->us=bs.map Mw
 | [],_,.nil=>rfl
 | b::r,_,.cons e h=>by
  rw[n8 h,e];rfl
def xE:FQ X "list.count" (Co X.K):=by
 intro HQ s σ H x xs v us Q I rx rs h;obtain⟨a,bs,b,rfl,rfl,hq,q⟩:=h;cases rx;obtain⟨u,rfl,ru⟩:=vals1 rs;cases ru;obtain⟨HW,r,pl,hz⟩:=I.list hq;have e:=n8 r;subst e;obtain⟨⟨cls,dd,data,sl⟩,ho,hc,n,hd⟩:=id pl.isList;simp only at hc hd;subst hc hd;refine NY F.slot_list_count ⟨_,ho,rfl⟩ F.entry_list_count (F.args_list_count_2 _ _) (SeqAt.list_countAt a (bs.map Mw).toArray n dd sl (.bool b) λy=>match y with|.bool c=>c==b|_=>false) ⟨ho,λy hy=>?_,?_⟩
 .obtain⟨c,_,rfl⟩:=M6.mp (by simpa using hy:y∈bs.map Mw);exact Qt c b
 .refine⟨.int _,H,I.tok _,⟨_,rfl⟩,?_⟩;have z:((bs.map Mw).toArray.toList.countP λy=>match y with|.bool c=>c==b|_=>false)=bs.countP λc=>c==b:=by
   rw[List.toList_toArray,List.countP_map];rfl
  rwa[z]
def C8:PV->PV->M PV
 | .lst xs,.bl b=>fJ ((t6 xs).map λbs=>.int (bs.countP λc=>c==b:Nat))
 |_,_=>none
def Ce(f g:af->M PV):af->M PV:=λenv=>(f env).bind λp=>match p with
 | .lst xs=>(g env).bind (C8 (.lst xs))
 |_=>none
section
variable{a:Expr}{f g:af->M PV}
def yI(ho:PE X o (tE E f))(ha:PE X a (tE E g))(Jm:autoParam (attributeBase o "count" X.env (eval o X.env)=eval o X.env) aR._auto_1)(JT:autoParam (((backTo Ik (starEach [a] X.env)).all (λx=>!x.1)&&(backToKw Ik (keywordEach [] X.env)).all (λx=>x.1.isSome) && decide (([a]:List Expr).length+([]:List Keyword).length+(if ([]:List Keyword).isEmpty then 0 else 1)<30))=true) aR._auto_1)(Jn:autoParam ((apos.endLine==Ik.line)=true) aR._auto_1)(hs:autoParam (starEach [a] X.env=(false,eval a X.env)::starEach [] X.env) aR._auto_1)(IT:autoParam ((backTo Ik (starEach [] X.env)).any (·.1)=false) aR._auto_1):PE X (.Call (.Attribute o "count" apos) [a] [] Ik) (tE E (Ce f g)):=by
 refine(xR Oj PySem.F.slot_list_count PySem.F.type_list_count xE ho (bM ha e9 hs) Jm JT Jn hs IT).imp fun σ H Q q=>me q λB H₀ Hs H1 env p v sr rp hp=>?_;cases rp with
 | @lst c xs vs hc hx =>
  refine⟨.inl ⟨rfl,_,gR.of (sr.gr.sub _ _ hc)⟩,B,H₀,Hs,env,sr,(ar.bind hp).imp (λz hz u HV H' g r'=>?_) λe he=>he⟩;cases r' with
  | bl b =>
   obtain⟨x,ex,hz⟩:=ar.opt hz;obtain⟨bs,hn,rfl⟩:=LP.mp ex;rw[pN hn] at hx;exact⟨c,bs,b,rfl,rfl,hx.DJ▸gR.of (g.sub _ _ (g.st _ _ hc)),hz _ HV H' g (.int _)⟩
  | _=>exact hz.elim
 |_=>exact hp.elim
end
section
variable{B H₀ Hs HV H':Hp}{env:af}{as:List Addr}
end
variable{js:List Nat}
section
variable{it:af->M (List PV)}{g:TG}{set:PV->af->M af}{fo:af->M (List PV)}{ts fs:List Str}
end
section
variable{ih:Nat}{D:Addr}{as:List Addr}{zs:List PV}{B H₀ Hs HV H':Hp}{env:af}
end
section
variable{E:XK}{st1:Stmt}{e2 e3 e4:Expr}{rest body:List Stmt}{ih ig:Nat}{it:af->M (List PV)}{g:TG}{set:PV->af->M af}{fo:af->M (List PV)}{ts:List Str}{g2:af->M PV}{u3:af->M Bool}{fb f:af->M Out}{Ks K8 st4:Stmt}
end
mutual
def rZ:PV->Bool
 | .eS _=>false
 | .tup xs=>mF xs
 | .lst xs=>mF xs
 | .obj _ fs=>nM fs
 | .exc _ (some fs)=>nM fs
 | .tX _=>false
 |_=>true
def mF:List PV->Bool
 | []=>true
 |p::r=>rZ p&&mF r
def nM:List (Str×PV)->Bool
 | []=>true
 |p::r=>rZ p.2&&nM r
end
mutual
theorem Rep.jt{Hs:Hp}{a:Addr}{ob:Obj}{ws:List V}(ha:Hs a=some (.lA ob (.lst ws))):∀{p:PV}{v:V},Rep Hs p v->rZ p=true->Rep (rem Hs a) p v
 | _,_,.bz,_=>.bz
 | _,_,.bl b,_=>.bl b
 | _,_,.int b,_=>.int b
 | _,_,.str b,_=>.str b
 | _,_,.fn b,_=>.fn b
 | _,_,.tup h r,n=>.tup (by rwa[gX (λz=>by rw[z,ha] at h;cases h)]) (r.jt ha n)
 | _,_,.lst h r,n=>.lst (by rwa[gX (λz=>by rw[z,ha] at h;cases h)]) (r.jt ha n)
 | _,_,.obj h r,n=>.obj (by rwa[gX (λz=>by rw[z,ha] at h;cases h)]) (r.jt ha n)
 | _,_,.qk h,n=>.qk (by rwa[gX (λz=>by rw[z,ha] at h;cases h)])
 | _,_,.ou h h2 r,n=>.ou (by rwa[gX (λz=>by rw[z,ha] at h;cases h)]) (by rwa[gX (λz=>by rw[z,ha] at h2;cases h2)]) (r.jt ha n)
 | _,_,.emp h,n=>.emp (by rwa[gX (λz=>by rw[z,ha] at h;cases h)])
 | _,_,.eS _ _,n=>by cases n
 |_,_,.tX _ _,n=>by cases n
theorem aM.jt{Hs:Hp}{a:Addr}{ob:Obj}{ws:List V}(ha:Hs a=some (.lA ob (.lst ws))):∀{p:List PV}{v:List V},aM Hs p v->mF p=true->aM (rem Hs a) p v
 | _,_,.nil,_=>.nil
 | _,_,.cons h r,n=>by
  have n':=ND.mp (show (rZ _&&mF _)=true from n);exact .cons (h.jt ha n'.1) (r.jt ha n'.2)
theorem fS.jt{Hs:Hp}{a:Addr}{ob:Obj}{ws:List V}(ha:Hs a=some (.lA ob (.lst ws))):∀{p:List (Str×PV)}{v:List (Str×V)},fS Hs p v->nM p=true->fS (rem Hs a) p v
 | _,_,.nil,_=>.nil
 | _,_,.cons h r,n=>by
  have n':=ND.mp (show (rZ _&&nM _)=true from n);exact .cons (h.jt ha n'.1) (r.jt ha n'.2)
end
variable{HQ:List (Addr×Obj)}
section
variable{p:Pos}{g:af->M PV}{fs:af->M (List PV)}{L:List (Addr×(List PV->M PV))}{K:LI}
end
theorem rC{a b:Int}{c:Value}:∀(l:List Value),TriplesOk l->TriplesOk (l++[rawInt a,rawInt b,c])/\∀pos cv,codeAmong pos (l++[rawInt a,rawInt b,c])=some cv->codeAmong pos l=some cv\/cv=c
 | [],_=>by
  refine⟨trivial,λpos cv e=>.inr ?_⟩;have e':(if (a==(pos.line:Int)&&b==(pos.col:Int))=true then some c else codeAmong pos [])=some cv:=e
  split at e'
  .exact(L8 e').symm
  .cases e'
 | .int i t::.int j u::x::rest,h=>by
  obtain⟨h1,h2⟩:=rC (a:=a) (b:=b) (c:=c) rest h;refine⟨h1,λpos cv e=>?_⟩;have e':(if (i==(pos.line:Int)&&j==(pos.col:Int))=true then some x else codeAmong pos (rest++[rawInt a,rawInt b,c]))=some cv:=e;show (if (i==(pos.line:Int)&&j==(pos.col:Int))=true then some x else codeAmong pos rest)=some cv\/_
  split at e'
  .rename_i z;rw[if_pos z];exact .inl e'
  .rename_i z;rw[if_neg z];exact h2 pos cv e'
def Bm(mg:Str->Option Value)(base:Heap):Prop:=∃bm o,mg "__builtins__"=some (.ref bm)/\bm≠builtinsNs/\bm≠mainGlobals/\base.get? bm=some o/\o.cls=.type "module" /\ o.dict=some builtinsNs/\o.data=.plain
inductive Tg (H:Hp):Hp->Prop where
 | same:Tg H H
 |new {c:Addr} {o:Obj}:H c=none->Tg H (upd H c (.gT (.inr o)))
abbrev k9(q:Str)(params:Arguments)(body:Expr)(scope:Scope)(cl:List (Str×Addr))(pm:Value)(c':Addr)(Iz:Value):Obj:=PySem.W.kla_obj "<lambda>" q params body scope cl pm c' Iz
variable{scope:Scope}{body:Expr}{params:Arguments}{q:Str}{c:Addr}
section
variable{σ:List (Option V)}
def Inv.lam{A:Around}{P:Addr}{cl:List (Str×Addr)}{Q:Value->Shared->Prop}{E:Value->Shared->Prop}(I:Inv X HQ σ H s)(hd:defaultsOf params X.env=([],[]))(KA:closureFor scope X.env=pure cl)(Jg:X.env.code=.ref c)(C:MD X.base c P)(hq:X.env.qual ++ "<lambda>"=q)(hT:X.H₀ P=some (.gT (.inl q)))(hb:Bm X.mg X.base)(h:∀H1 f c' o vs t Iz s',Tg H H1->H1 c'=some (.gT (.inr o))->o.data=.fields vs->vs[1]?=some (.str q t)->H1 f=none->Inv X HQ σ (upd H1 f (.gT (.inr (k9 q params body scope cl ((X.mg "__name__").getD .none) c' Iz)))) s'->Q (.ref f) s'):wpAny ↑8 A (eval (.Lambda params body scope pos) X.env) Q E s:=by
 refine PySem.W.kla_eval hd ?_;rw[hq];have hP:=I.base.jq P _ hT;obtain⟨ps,eP,A9,ent⟩:=(show bN X.prog X.w H s.heap P (.gT (.inl q)) from I.bf P _ hP)
 have nP:∀b,H b=none->b≠P:=λb n z=>by rw[z,hP] at n;cases n
 have hg:s.heap.Ns mainGlobals X.mg:=I.mod.glob.keeps I.bk;have hgP:mainGlobals≠P:=by
  obtain⟨o,_,_,e,_⟩:=I.mod.glob;exact nP _ (I.bs _ o e).2
 have hbA:s.heap.BuiltinsAt X.mg P:=by
  obtain⟨bm,o,b1,b2,b3,b4,b5⟩:=hb;exact⟨bm,o,b1,b2,b3,nP _ (I.bs _ o b4).2,(I.bs _ o b4).1,b5⟩
 cases hc:codeAmong pos ps.toList with
 | some cv =>
  obtain⟨c',o,vs,t,rfl,e1,e2,e3⟩:=ent pos cv hc;refine PySem.W.kla_makeFunctionHit KA I.ok.glob hg Jg (C.keeps I.bk) eP A9 hc hbA λIz h' tk k sz=>?_;have kk:∀b u,s.heap.get? b=some u->(h'.push (k9 q params body scope cl ((X.mg "__name__").getD .none) c' Iz)).get? b=some u:=λb u e=>LJ _ (k b u e);have hn:s.heap.get? h'.objs.size=none:=Nd sz;exact h H _ c' o vs t Iz _ .same e1 e2 e3 (I.lg hn) (I.vb kk hn (LV _ rfl))
 | none =>
  refine PySem.W.kla_makeFunction KA I.ok.glob hg Jg (C.keeps I.bk) eP A9 hc hgP hbA λc' Iz h' tk hx hge I_ hrec htb=>?_;obtain⟨c2,oc,vs,t,ez,K4,hd2,hv⟩:=hrec;cases ez;have fresh:H c'=none:=I.bf.fresh hge;have nc:∀b u,H b=some u->b≠c':=λb u e z=>by rw[z,fresh] at e;cases e
  have ncs:∀b u,s.heap.get? b=some u->b≠c':=λb u e=>L7 (LU (LN e) hge);have I1:Inv X HQ σ (upd H c' (.gT (.inr oc))) { s with heap:=h',toks:=tk }:=by
   refine I.un ⟨λb o e n _ _=>hx b o (nP b n) e,λb o e n _ _=>⟨o.slots,hx b o (nP b n) e⟩,λb o e n _=>by rwa[aq (ncs b o e)],λb o e _=>?_,λb xs e=>by rwa[aq (nc b _ e)],λb o u e=>by rwa[aq (nc b _ e)],λb t e=>by rwa[aq (nc b _ e)]⟩ λb u e=>?_
   .by_cases z:b=P
    .rw[z];exact⟨_,htb⟩
    .exact⟨o,hx b o z e⟩
   .by_cases z:b=c'
    .subst z;rw[aw] at e;cases e;exact K4
    .rw[aq z] at e
     by_cases z2:b=P
     .subst z2;rw[hP] at e;cases e;obtain⟨t1,t2⟩:=rC (a:=(pos.line:Int)) (b:=(pos.col:Int)) (c:=.ref c') ps.toList A9;have el:(ps++#[rawInt (pos.line:Int),rawInt (pos.col:Int),LS c']).toList=ps.toList++[rawInt (pos.line:Int),rawInt (pos.col:Int),LS c']:=by simp
      refine⟨_,htb,by rwa[el],λpos' cv z=>?_⟩;rw[el] at z;rcases t2 pos' cv z with z|rfl
      .obtain⟨d,o,ws,t',w1,w2,w3⟩:=ent pos' cv z;exact⟨d,o,ws,t',w1,by rwa[aq (nc d _ w2)],w3⟩
      .exact⟨c',oc,vs,t,rfl,aw,hd2,hv⟩
     .refine(I.bf b u e).jR (λd v hc q=>hx d v ?_ q) (λd q=>by rwa[aq (nc d _ q)]) (λd xs q=>by rwa[aq (nc d _ q)]) λd t q=>by rwa[aq (nc d _ q)]
      rcases hc with w|w
      .rw[w];exact z2
      .intro w2;rw[w2,hP] at w;cases w
  have hn:h'.get? h'.objs.size=none:=Nd (LR _);have I2:=I1.vb (t':=tk) (o:=.gT (.inr (k9 q params body scope cl ((X.mg "__name__").getD .none) c' Iz))) (h':=h'.push (k9 q params body scope cl ((X.mg "__name__").getD .none) c' Iz)) (λb u e=>LJ _ e) hn (LV _ rfl);exact h _ _ c' oc vs t Iz _ (.new fresh) aw hd2 hv (I1.lg hn) I2
end
def zr(CX:Cp)(P:Program)(w:World)(K:LI)(mg:Str->Option Value)(base:Heap)(N:List Str)(q:Str)(scope:Scope)(f:Addr)(cd:Value)(cl:List (Str×Addr))(A:Around)(outer:List Env)(s:Shared)(H:Hp)(E:XK):Cx where
 prog:=P
 w:=w
 K:=K
 mg:=mg
 base:=base
 A:=A.deeper (N5 q scope s.heap.objs.size f cd cl)
 N:=N
 s₀:=s
 H₀:=H
 env:=N5 q scope s.heap.objs.size f cd cl
 outer:=outer
 stack:=N5 q scope s.heap.objs.size f cd cl::outer
 ex:=[]
 calm:=true
 fn:=λ_=>false
 pn:=[]
 xe:=λe s'=>wpAny (model P w) (A.deeper (N5 q scope s.heap.objs.size f cd cl)) (leaving (N5 q scope s.heap.objs.size f cd cl) e) (λ_ KJ=>CX outer H s E e KJ) (λe' KJ=>CX outer H s E e' KJ) s'
structure qg (h:Heap) (H:Hp) (cl:List (Str×Addr)) (N:List Str) (vs:List V):Prop where
 len:vs.length=N.length
 inj:∀x y c,cl.lookup x=some c->cl.lookup y=some c->x=y
 cell:∀x c,cl.lookup x=some c->∃v,h.IsCell c v
 free:∀x c,cl.lookup x=some c->H c=none
 val:∀(i:Nat)(x:Str)(v:V),N[i]?=some x->vs[i]?=some v->∃c u,cl.lookup x=some c/\h.IsCell c (some u)/\RelV v u
structure gi (N:List Str) (sc:Scope) (cl:List (Str×Addr)):Prop where
 kind:sc.kind=.function
 co:sc.isCoroutine=false
 gen:sc.isGenerator=false
 sM:∀x∈sc.names,x.2≠.cell
 has:∀x,sc.names.lookup x=some .free->∃c,cl.lookup x=some c
 fr:∀x∈N,sc.names.lookup x=some .free
variable{outer:List Env}{N:List Str}
def Al{CX:Cp}{K:LI}{cd:Value}{cl:List (Str×Addr)}{A:Around}{E:XK}{h':Heap}{tk:Nat}(S:gi N scope cl)(hd:A.handled=none)(e0:oy P w K mg base A outer s H)(c:qg s.heap H cl N vs)(hn:h'.Ns s.heap.objs.size λ_=>none)(hk:∀b o,s.heap.get? b=some o->h'.get? b=some o):Inv (zr CX P w K mg base N q scope f cd cl A outer s H E) [] (vs.map some) H { s with heap:=h',toks:=tk }:=by
 have dF:∀b:Addr,b ∉ (zr CX P w K mg base N q scope f cd cl A outer s H E).ex:=λb z=>absurd (show b∈([]:List Addr) from z) ↑13;have ck:∀{c v},s.heap.IsCell c v->h'.IsCell c v:=λ{c v} ⟨o,e,d⟩=>⟨o,hk _ _ e,d⟩
 refine⟨⟨e0.mod,S.kind,rfl,rfl,LR _,c.inj,λy hy=>?_,λy c z=>(nomatch z),λ_=>hd,Qo e0.frames,.inr ⟨rfl,rfl⟩,λb z=>absurd z (dF b),e0.bs,e0.wU,λb _ _=>dF b,λb z=>absurd z (dF b),e0.i9,e0.xC⟩,
  rfl,e0.bare,Un.kept hk,⟨_,hn,λi y v h1 h2 h3=>?_⟩,λy a z=>?_,e0.bf.fresh (LR _),c.free,λp hp=>absurd (show p∈([]:List (Addr×Obj)) from hp) ↑13,e0.bf.kept hk,by rw[LK];exact c.len⟩
 .have hy:scope.names.lookup y=some .cell\/scope.names.lookup y=some .free:=hy;rcases hy with hy|hy
  .exact absurd rfl (S.sM _ (M7 hy))
  .exact S.has y hy
 .rw[L_] at h2;obtain⟨v',e1,e2⟩:=LP.mp h2;cases e2;obtain⟨a,u,z1,z2,z3⟩:=c.val i y v h1 e1;exact⟨u,z3,.inr ⟨.inr (S.fr y (OT h1)),a,z1,ck z2⟩⟩
 .obtain⟨v,z⟩:=c.cell y a z;exact⟨v,ck z⟩
variable{pm:Value}
def AB{K:LI}{c':Addr}{Iz:Value}{cl:List (Str×Addr)}{A:Around}{E:XK}{oc:Obj}{ws:Array Value}{tk:Tok}{t:TE}{Q:VK}(S:gi N scope cl)(hr:bD (k+1) A)(e0:oy P w K mg base A outer s H)(c:qg s.heap H cl N vs)(ho:H f=some (.gT (.inr (k9 q params body scope cl pm c' Iz))))(hc:H c'=some (.gT (.inr oc)))(hd:oc.data=.fields ws)(hv:ws[1]?=some (.str q tk))(hb:bindArgs (NN "<lambda>" q params body scope cl pm (.ref c') Iz) ⟨[],[]⟩=pure [])(he:bD k (A.deeper (N5 q scope s.heap.objs.size f (.ref c') cl))->PE ((zr (bB P w) P w K mg base N q scope f (.ref c') cl A outer s H E).out λ_=>E) body t)(ht:t (vs.map some) H Q):codeAny (model P w) A (.call (.ref f) ⟨[],[]⟩) (CR (bB P w) outer P w H s Q E) s:=by
 have lim:s.heap.NoLimit:=e0.mod.nolimit.keeps λb o e=>(e0.bs b o e).1;have hf:s.heap.get? f=some (k9 q params body scope cl pm c' Iz):=e0.bf f _ ho;have K4:s.heap.get? c'=some oc:=e0.bf c' _ hc;refine PySem.W.kla_callFunE hr.depth hf rfl S.co S.gen rfl ⟨c',oc,ws,tk,rfl,K4,hd,hv⟩ ?_;rw[hb];refine LM (Qp S.sM (λx hx=>nomatch hx) (λh' hn hs=>?_) S.kind);have hk:∀b o,s.heap.get? b=some o->h'.get? b=some o:=λb o e=>hs.extBut b o (L7 (LN e)) (LJ _ e);refine⟨lim.keeps hk,PySem.W.kla_codeExpr ?_⟩;have I:Inv (zr (bB P w) P w K mg base N q scope f (.ref c') cl A outer s H E) [] (vs.map some) H { s with heap:=h',toks:=s.toks+0 }:=Al S hr.hd e0 c hn hk;refine MS (he (hr.deeper _) [] _ (vs.map some) H Q (I.k6 _) ht) (λu s' z=>?_) λe s' z=>?_
 .obtain⟨v,H',J,rv,qq⟩:=z;exact⟨v,H',J.cJ.os,J.cJ.bare,J.cJ.base,J.cJ.bf,rv,qq⟩
 .exact z.uc rfl rfl rfl
structure pD (h:Heap) (H:Hp) (fs:List Addr) (f:Addr) (q:Str) (params:Arguments) (body:Expr) (scope:Scope) (cl:List (Str×Addr)) (pm:Value) (N:List Str) (vs:List V):Prop where
 fo:∃(c':Addr)(Iz:Value)(oc:Obj)(ws:Array Value)(tk:Tok),H f=some (.gT (.inr (k9 q params body scope cl pm c' Iz)))/\H c'=some (.gT (.inr oc))/\oc.data=.fields ws/\ws[1]?=some (.str q tk)
 cells:qg h H cl N vs
 sc:gi N scope cl
 nf:∀x c,cl.lookup x=some c->c ∉ fs
section
variable{cl:List (Str×Addr)}
def pD.now(a:pD X.s₀.heap X.H₀ X.fs f q params body scope cl pm N vs)(I:Inv X HQ σ H s)(hex:X.ex=[]):pD s.heap H X.fs f q params body scope cl pm N vs:=by
 obtain⟨c',Iz,oc,ws,tk,h1,h2,h3,h4⟩:=a.fo;have kc:∀x c v,cl.lookup x=some c->X.s₀.heap.IsCell c v->s.heap.IsCell c v:=λx c v e ⟨o,ho,hd⟩=>by
  exact⟨o,I.base.keep c o ho (a.cells.free x c e) (a.nf x c e) (by rw[hex];simp),hd⟩
 refine⟨⟨c',Iz,oc,ws,tk,I.base.jq _ _ h1,I.base.jq _ _ h2,h3,h4⟩,⟨a.cells.len,a.cells.inj,λx c e=>?_,λx c e=>?_,λi x v e1 e2=>?_⟩,a.sc,a.nf⟩
 .obtain⟨v,z⟩:=a.cells.cell x c e;exact⟨v,kc x c v e z⟩
 .obtain⟨v,o,ho,hd⟩:=a.cells.cell x c e;exact I.base.free c o ho (a.cells.free x c e) (by rw[hex];simp)
 .obtain⟨c,u,z1,z2,z3⟩:=a.cells.val i x v e1 e2;exact⟨c,u,z1,kc x c _ z1 z2,z3⟩
end
structure ki (P:Program) (w:World) (K:LI) (mg:Str->Option Value) (base:Heap) (k:Nat) (N:List Str) (q:Str) (params:Arguments) (body:Expr) (scope:Scope) (fb:af->M PV):Prop where
 run:∀(cl:List (Str×Addr))(f c':Addr)(A:Around)(outer:List Env)(s:Shared)(H:Hp)(E:XK),bD k (A.deeper (N5 q scope s.heap.objs.size f (.ref c') cl))->PE ((zr (bB P w) P w K mg base N q scope f (.ref c') cl A outer s H E).out λ_=>E) body (tE (λ_=>E) fb)
 bind:∀(cl:List (Str×Addr))(pm cd Iz:Value),bindArgs (NN "<lambda>" q params body scope cl pm cd Iz) ⟨[],[]⟩=pure []
def AN(env:af):Nat->List PV->List V->Prop
 | _,[],[]=>True
 | j,p::ps,v::vs=>env[j]?=some (some (.gh p v))/\AN env (j+1) ps vs
 |_,_,_=>False
open Classical in
def oa(i j:Nat)(f:Addr)(ps:List PV)(vs:List V)(ask:M PV):af->M PV:=λenv=>cX (env[i]?=some (some (.sh (.fn f)))/\AN env j ps vs) ask
theorem AN.rep{B H₀ Hs H:Hp}{σ:St}{env:af}(sr:SR B H₀ Hs H σ env):∀{j:Nat}{ps:List PV}{vs:List V},AN env j ps vs->aM Hs ps vs
 | _,[],[],_=>.nil
 | j,p::ps,v::vs,h=>by
  obtain⟨u,_,e,r⟩:=sr.at_ j _ h.1;subst e;exact .cons r (AN.rep sr h.2)
theorem aM.at_{Hs:Hp}:∀{ps:List PV}{vs:List V},aM Hs ps vs->∀(i:Nat)(p:PV),ps[i]?=some p->∃v,vs[i]?=some v/\Rep Hs p v
 | _,_,.nil,i,p,e=>by simp at e
 | _,_,.cons r t,0,p,e=>by cases e;exact⟨_,rfl,r⟩
 |_,_,.cons r t,i+1,p,e=>aM.at_ t i p (by simpa using e)
def SR.Dp{B H₀ Hs:Hp}{env:af}{ps:List PV}(sr:SR B H₀ Hs H σ env)(r:aM Hs ps vs):SR B H₀ Hs H (vs.map some) (ps.map λp=>some (.sh p)):=by
 have key:∀(i:Nat)(x:SV),(ps.map λp=>some (SV.sh p))[i]?=some (some x)->∃p,x=.sh p/\ps[i]?=some p:=λi x e=>by
  rw[L_] at e;obtain⟨p,e1,e2⟩:=LP.mp e;cases e2;exact⟨p,rfl,e1⟩
 refine⟨sr.gr,by rw[LK,LK,r.length],λi x e=>?_,λi j x y a _ e _ o=>?_⟩
 .obtain⟨p,rfl,e1⟩:=key i x e;obtain⟨v,e2,e3⟩:=r.at_ i p e1;exact⟨v,by rw[L_,e2];rfl,e3⟩
 .obtain⟨p,rfl,_⟩:=key i x e;cases o
section
variable{j:Nat}{cl:List (Str×Addr)}{ps:List PV}{fb:af->M PV}{p:Pos}
def Cq(a:pD X.s₀.heap X.H₀ X.fs f q params body scope cl pm N vs)(L:ki X.prog X.w X.K X.mg X.base k N q params body scope fb)(hr:bD (k+1) X.A)(hex:X.ex=[])(O:dh X E)(hi:X.N[i]?=some x)(hv:p4 X.env.scope x)(hd:autoParam ↑7 aD._auto_1)(II:autoParam ↑6 aD._auto_1):PE X (.Call (.Name x p) [] [] pos) (tE E (oa i j f ps vs (fb (ps.map λp=>some (.sh p))))):=by
 intro HQ s σ H Q I h;obtain⟨B,H₀,Hs,env,sr,hp⟩:=h;unfold oa at hp;obtain⟨⟨g1,g2⟩,hp⟩:=by classical exact ar.cX hp
 obtain⟨v,e1,rv⟩:=sr.at_ i _ g1;have ev:v=.ref f:=by
  have rv':Rep Hs (.fn f) v:=rv;cases rv';rfl
 subst ev;have rl:=g2.rep sr;refine MQ (cH (jI hi hv hd II HQ s σ H (λv H1=>v=.ref f/\H1=H) I ⟨_,e1,rfl,rfl⟩) λu s1 ⟨v,H1,I1,rx,ez,eH⟩=>?_);subst ez;subst eH;obtain rfl:u=LS f:=rx;have an:=a.now I1 hex;obtain⟨c',Iz,oc,ws,tk,h1,h2,h3,h4⟩:=an.fo;have hf:s1.heap.get? f=some (k9 q params body scope cl pm c' Iz):=I1.bf f _ h1;refine PySem.W.callWith_F0 ⟨_,_,_,_,hf⟩ (Oh (N3 (AB (E:=E σ) (Q:=Q) (t:=tE (λ_=>E σ) fb) an.sc hr I1.i_ an.cells h1 h2 h3 h4 (L.bind _ _ _ _) (λLr=>L.run _ _ _ _ _ _ _ _ Lr) ⟨B,H₀,Hs,_,sr.Dp rl,hp⟩) λr s' hq=>?_));cases r with
 | error e=>exact O.pass HQ σ H1 s1 e s' I1 hq
 | ok fl =>
  cases fl with
  | ret u=>exact I1.after hq
  | next=>exact Mx hq
  | brk=>exact Mx hq
  |cont=>exact Mx hq
end
def Inv.ghost{σ':St}(I:Inv X HQ σ H s)(hl:σ'.length=σ.length)(h:∀(i:Nat)(x:Str)(v:V),X.N[i]?=some x->p4 X.env.scope x->σ'[i]?=some (some v)->σ[i]?=some (some v)):Inv X HQ σ' H s :=
 ⟨I.ok,I.os,I.bare,I.base,let ⟨m,hn,hl⟩:=I.loc;⟨m,hn,λi x v e1 e2 e3=>hl i x v e1 (h i x v e1 e3 e2) e3⟩,I.cell,I.free,I.eW,I.pin,I.bf,by rw[hl];exact I.len⟩
def Bv(m:Nat)(f:Addr)(vs:List V)(r:Nat):St:=some (.ref f)::(LO m none++(vs.map some++LO r none))
def p_(m:Nat)(f:Addr)(ps:List PV)(vs:List V)(r:Nat):af:=some (.sh (.fn f))::(LO m none++(N4 (λp v=>some (.gh p v)) ps vs++LO r none))
theorem SR.B5{Hs:Hp}{r:Nat}{ps:List PV}(s:aZ Hs H)(rl:aM Hs ps vs):SR Hs H Hs H (Bv m f vs r) (p_ m f ps vs r):=by
 have key:∀(i:Nat)(x:SV),(p_ m f ps vs r)[i]?=some (some x)->∃v,(Bv m f vs r)[i]?=some (some v)/\Ho H Hs H x v/\gA x=false:=λi x e=>by
  unfold p_ at e;unfold Bv;cases i with
  | zero=>cases e;exact⟨_,rfl,.fn f,rfl⟩
  | succ i =>
   rw[PR] at e ⊢
   by_cases h1:i<m
   .rw[Mr (by simpa using h1),MY,if_pos h1] at e;cases e
   .rw[Mj (by simpa using Rz h1),OG] at e ⊢
    by_cases h2:i-m<vs.length
    .rw[Mr (by simp[rl.length];exact h2),Qj] at e;rw[Mr (by simpa using h2),L_];cases ep:ps[i-m]? with
     | none=>rw[ep] at e;cases e
     | some p =>
      obtain⟨v,ev,rp⟩:=rl.at_ _ p ep;rw[ep,ev] at e;rw[ev];cases e;exact⟨v,rfl,⟨rfl,rp⟩,rfl⟩
    .rw[Mj (by simp[rl.length];lia),MY] at e
     split at e<;>cases e
 refine⟨.refl s,by unfold Bv p_;simp[rl.length],λi x e=>let ⟨v,h1,h2,_⟩:=key i x e;⟨v,h1,h2⟩,λi j x y a _ e _ o=>?_⟩;obtain⟨_,_,_,z⟩:=key i x e;rw[z] at o;cases o
structure fR (P:Program) (w:World) (K:LI) (mg:Str->Option Value) (base:Heap) (n:Nat) (x:Str) (sem:M PV->M PV):Prop where
 ex:∃(fo:Addr),mg x=some (.ref fo)/\Mi K (.ref fo)=true ∧
  ∀ {k:Nat} {N:List Str} {q:Str} {params:Arguments} {body:Expr} {scope:Scope} {fb:af->M PV},ki P w K mg base k N q params body scope fb->k+2<=n->N.length<=4 ->
   ∀ (A:Around) (outer:List Env) (s:Shared) (H:Hp) (f:Addr) (cl:List (Str×Addr)) (pm:Value) (vs:List V) (ps:List PV) (Hs:Hp) (Q:VK) (E:XK),bD n A->oy P w K mg base A outer s H->pD s.heap H (qI outer) f q params body scope cl pm N vs->aZ Hs H->aM Hs ps vs ->
    ar (sem (fb (ps.map λp=>some (.sh p)))) (dX Hs H Q) (XW E Hs H)->codeAny (model P w) A (.call (.ref fo) ⟨[.ref f],[]⟩) (CR (bB P w) outer P w H s Q E) s
variable{dv:Value}{qual:Str}
theorem ba.HA{K:LI}{y:Str}{st:Stmt}{g:(af->M PV)->af->M Out}{sem:M PV->M PV}(F:ba K x qual st dv f fd)(hm:mg x=some (.ref f))(hB:Binds K fd [y] [])(S:bg N [y] (au st))(hN:N.length=1+m+4)(hvy:p4 (au st) y)(hgh:∀(i:Nat)(z:Str),N[i]?=some z->1<=i->m+1<=i->¬ p4 (au st) z)(hy:N[0]?=some y)(hd:(y==("__debug__" : Str))=false)(hcd':(y==("__classdict__" : Str))=false)(JI:∀(f:Addr)(ps:List PV)(vs:List V)(r:Nat)(ask:M PV),ps.length=vs.length->vs.length+r=4->(g (oa 0 (1+m) f ps vs ask) (p_ m f ps vs r)).bind iU=sem ask)(hb:∀(Ig:Value)(A:Around)(outer:List Env)(s:Shared)(H:Hp)(E:XK)(av:af->M PV),bD n (A.deeper (envOfC qual (au st) s.heap.objs.size f Ig))->dh ((eQ (bB P w) P w K mg base N qual (au st) f Ig A outer s H E).out λ_=>E) (λ_=>E) ->(∀(pn:List (Addr×Obj))(E2:St->XK),dh ((((eQ (bB P w) P w K mg base N qual (au st) f Ig A outer s H E).out λ_=>E).jn pn).out E2) E2->∀p pos,PE ((((eQ (bB P w) P w K mg base N qual (au st) f Ig A outer s H E).out λ_=>E).jn pn).out E2) (.Call (.Name y p) [] [] pos) (tE E2 av))->i7 ((eQ (bB P w) P w K mg base N qual (au st) f Ig A outer s H E).out λ_=>E) (cR st) (tS E (g av))):fR P w K mg base (n+1) x sem:=by
 have kp:=F.kp;obtain⟨oc,od,kV,doc,pm,an,Ig,ct,J4,rfl,lk,II⟩:=F.ex;refine⟨f,hm,kp,λ{k N' q params body scope fb} L hk hl A outer s H f' cl pm' vs ps Hs Q E hr e0 a sm rl hp=>?_⟩;have KX:K.In s.heap:=e0.mod.zq.keeps λb o e=>(e0.bs b o e).1;have lim:s.heap.NoLimit:=e0.mod.nolimit.keeps λb o e=>(e0.bs b o e).1;have Km:∀z∈[y].zip [LS f'],(au st).names.lookup z.1=some .local\/((au st).names.lookup z.1=some .cell/\((cellsFrom (s.heap.objs.size+1) (au st).names []).lookup z.1).isSome=true):=λ⟨n,v⟩ hy=>by
  rcases S.par n (MW hy).1 with q|q
  .exact .inl q
  .exact .inr ⟨q,Ox _ _ _ (.inl q)⟩
 refine Qi hr.depth (KX _ _ lk) rfl S.co S.gen rfl (QS KX II) (hB s [.ref f'] KX rfl _ _ _ _ ?_);refine Pd S.kind Km λenv he s1 x1=>?_;subst he;refine⟨lim.keeps x1.toInCall.keep,codeAny_func ?_⟩;have I0:Inv (eQ (bB P w) P w K mg base N qual (au st) f Ig A outer s H E) [] (start N [.ref f']) H s1:=oR S hr.hd e0 rfl (.cons rfl .nil) x1;have vl:=a.cells.len;obtain⟨r,hr4⟩:∃r,vs.length+r=4:=⟨4-vs.length,by lia⟩
 have I:Inv (eQ (bB P w) P w K mg base N qual (au st) f Ig A outer s H E) [] (Bv m f' vs r) H s1:=by
  refine I0.ghost ?_ λi z v e1 e2 e3=>?_
  .unfold Bv start;simp;lia
  .cases i with
   | zero=>exact e3
   | succ i =>
    exfalso;unfold Bv at e3;rw[PR] at e3
    by_cases h1:i<m
    .rw[Mr (by simpa using h1),MY,if_pos h1] at e3;cases e3
    .exact hgh (i+1) z e1 ⋯ ⋯ e2
 have O:dh ((eQ (bB P w) P w K mg base N qual (au st) f Ig A outer s H E).out λ_=>E) (λ_=>E):=je rfl rfl;have KH:bD n (A.deeper (envOfC qual (au st) s.heap.objs.size f Ig)):=hr.deeper _;have pask:∀(pn:List (Addr×Obj))(E2:St->XK),dh ((((eQ (bB P w) P w K mg base N qual (au st) f Ig A outer s H E).out λ_=>E).jn pn).out E2) E2->∀p pos,PE ((((eQ (bB P w) P w K mg base N qual (au st) f Ig A outer s H E).out λ_=>E).jn pn).out E2) (.Call (.Name y p) [] [] pos) (tE E2 (oa 0 (1+m) f' ps vs (fb (ps.map λp=>some (.sh p))))):=λpn E2 O2 p pos =>
  Cq (X:=(((eQ (bB P w) P w K mg base N qual (au st) f Ig A outer s H E).out λ_=>E).jn pn).out E2) (i:=0) (j:=1+m) a L (KH.mono ⋯) rfl O2 hy hvy hd hcd'
 have ht:=hb Ig A outer s H E _ KH O pask;have st0:tS E (g (oa 0 (1+m) f' ps vs (fb (ps.map λp=>some (.sh p))))) { nx:=λ_ H'=>Q .bz H',rt:=Q } (Bv m f' vs r) H:=by
  have e:=JI f' ps vs r (fb (ps.map λp=>some (.sh p))) rl.length hr4;rw[<- e] at hp;refine⟨Hs,H,Hs,_,SR.B5 sm rl,(ar.bind hp).imp (λo ho=>?_) λe he=>he⟩;cases o with
  | rt p=>exact λv HV H' gr rv=>ho v HV H' gr rv
  | nx env=>exact fun σ HV H' sr=>ho .bz HV H' sr.gr .bz
  | bk env=>exact ho.elim
  | ct env=>exact ho.elim
 refine MS (ht [] s1 _ H _ (I.k6 _) st0) (λfl s' hs=>?_) λe s' z=>z.uc rfl rfl rfl;have fin:∀{σ':St}{H':Hp}{v:V}{u:Value},Inv (eQ (bB P w) P w K mg base N qual (au st) f Ig A outer s H E) [] σ' H' s'->RelV v u->Q v H'->CE outer P w H s Q u s' :=
  λ{σ' H' v u} J rv q=>⟨v,H',J.os,J.bare,J.base,J.bf,rv,q⟩
 cases fl with
 | ret u =>
  obtain⟨v,σ',H',J,rv,q⟩:=hs;exact fin J.cJ rv q
 | next =>
  obtain⟨σ',H',J,q⟩:=hs;exact fin (v:=V.bz) (u:=Mt) J.cJ rfl q
 | brk =>
  obtain⟨_,_,_,q⟩:=hs;exact Mx q
 | cont =>
  obtain⟨_,_,_,q⟩:=hs;exact Mx q
def i8:List Nat->af->M (List PV)
 | [],_=>M.ok []
 |j::js,env=>(ae j env).bind λp=>(i8 js env).bind λps=>M.ok (p::ps)
def h_(js:List Nat)(sem:M PV->M PV)(fb:af->M PV):af->M PV:=λenv=>(i8 js env).bind λps=>sem (fb (ps.map λp=>some (.sh p)))
theorem uT{B H₀ Hs H:Hp}{σ:St}{env:af}(sr:SR B H₀ Hs H σ env):∀{js:List Nat}{Q:List PV->Prop}{E:EX->Prop},ar (i8 js env) Q E->∃ps vs,i8 js env=M.ok ps/\Q ps/\aM Hs ps vs/\vs.length=js.length/\∀(i j:Nat),js[i]?=some j->∃v,vs[i]?=some v/\σ[j]?=some (some v)
 | [],Q,E,h=>⟨[],[],rfl,h,.nil,rfl,λi j e=>by simp at e⟩
 | j::js,Q,E,h=>by
  have h1:=ar.bind (show ar ((ae j env).bind λp=>(i8 js env).bind λps=>M.ok (p::ps)) Q E from h);cases e:env[j]? with
  | none=>simp only[ae,e] at h1;exact h1.elim
  | some o =>
   cases o with
   | none=>simp only[ae,e] at h1;exact h1.elim
   | some x =>
    cases x with
    | sh p =>
     have eg:ae j env=M.ok p:=by unfold ae;rw[e]
     rw[eg] at h1;obtain⟨ps,vs,e1,hq,r,l,k⟩:=uT sr (ar.bind h1);obtain⟨v,ev,rv⟩:=sr.at_ j _ e;refine⟨p::ps,v::vs,?_,hq,.cons rv r,by simp[l],λi j' ej=>?_⟩
     .show (ae j env).bind _=_;rw[eg];show (i8 js env).bind _=_;rw[e1];rfl
     .cases i with
      | zero=>cases ej;exact⟨v,rfl,ev⟩
      | succ i=>exact k i j' (by simpa using ej)
    |_=>simp only[ae,e] at h1;exact h1.elim
def Tg.Eo{H1:Hp}(t:Tg H H1):aZ H H1:=λa o e=>by
 cases t with
 | same=>exact e
 |new n=>rwa[aq (λz=>by rw[z,n] at e;cases e)]
variable{Pt:Addr}
section
variable{k0:Nat}{sem:M PV->M PV}{cl:List (Str×Addr)}{fb:af->M PV}{p lp:Pos}
def GH(X:Cx)(q:Str)(params:Arguments)(body:Expr)(scope:Scope)(cl:List (Str×Addr)):TE:=fun σ H Q=>∀(H1:Hp)(f c':Addr)(o:Obj)(vs:Array Value)(t:Tok)(Iz:Value),Tg H H1->H1 c'=some (.gT (.inr o))->o.data=.fields vs->vs[1]?=some (.str q t)->H1 f=none->Q (.ref f) (upd H1 f (.gT (.inr (k9 q params body scope cl ((X.mg "__name__").getD .none) c' Iz))))
def CC(hd:defaultsOf params X.env=([],[]))(KA:closureFor scope X.env=pure cl)(Jg:X.env.code=.ref c)(C:MD X.base c Pt)(hq:X.env.qual ++ "<lambda>"=q)(hT:X.H₀ Pt=some (.gT (.inl q)))(hb:Bm X.mg X.base):PE X (.Lambda params body scope lp) (GH X q params body scope cl):=by
 intro HQ s σ H Q I h;exact I.lam hd KA Jg C hq hT hb λH1 f c' o vs t Iz s' g h1 h2 h3 h4 J=>⟨.ref f,_,J,rfl,h H1 f c' o vs t Iz g h1 h2 h3 h4⟩
def fR.call(F:fR X.prog X.w X.K X.mg X.base n x sem)(hr:bD k0 X.A)(hn:n<=k0)(hg:Gl X x)(O:dh X E)(L:ki X.prog X.w X.K X.mg X.base k N q params body scope fb)(hk:k+2<=n)(hN4:N.length<=4)(hd:defaultsOf params X.env=([],[]))(KA:closureFor scope X.env=pure cl)(Jg:X.env.code=.ref c)(C:MD X.base c Pt)(hq:X.env.qual ++ "<lambda>"=q)(hT:X.H₀ Pt=some (.gT (.inl q)))(Jw:Bm X.mg X.base)(S:gi N scope cl)(Ji:∀y a,cl.lookup y=some a->X.env.cells.lookup y=some a/\X.fn y=true)(hjs:js.length=N.length)(hnj:∀(i:Nat)(y:Str),N[i]?=some y->∃j,js[i]?=some j/\X.N[j]?=some y/\X.env.scope.names.lookup y=some .cell)(IF:autoParam ↑7 aD._auto_1)(he:autoParam (starEach [.Lambda params body scope lp] X.env=(false,eval (.Lambda params body scope lp) X.env)::starEach [] X.env) aR._auto_1)(Iu:autoParam ((backTo pos (starEach [] X.env)).any (·.1)=false) aR._auto_1):PE X (.Call (.Name x p) [.Lambda params body scope lp] [] pos) (tE E (h_ js sem fb)):=by
 intro HQ s σ H Q I h;obtain⟨B,H₀,Hs,env,sr,hp⟩:=h;obtain⟨ps,vs,_,hp,rl,vl,vat⟩:=uT sr (ar.bind hp);obtain⟨fo,hm,kp,run⟩:=F.ex;refine MQ (f_ I hg hm ?_ IF);refine Nx (h₀:=X.base) I.ok.mod.zq kp (cH (bM (CC hd KA Jg C hq hT Jw) e9 he pos HQ s σ H (λus H'=>∃(H1:Hp)(f c':Addr)(o:Obj)(ws:Array Value)(t:Tok)(Iz:Value),us=[.ref f]/\H'=upd H1 f (.gT (.inr (k9 q params body scope cl ((X.mg "__name__").getD .none) c' Iz)))/\Tg H H1/\H1 c'=some (.gT (.inr o))/\o.data=.fields ws/\ws[1]?=some (.str q t)/\H1 f=none) I (λH1 f c' o ws t Iz g h1 h2 h3 h4=>⟨H1,f,c',o,ws,t,Iz,rfl,rfl,g,h1,h2,h3,h4⟩)) λus s1 ⟨vs',H',I1,r,q⟩=>⟨I1.h9,?_⟩) he Iu;obtain⟨H1,f,c',o,ws,t,Iz,rfl,rfl,g,h1,h2,h3,h4⟩:=q;obtain⟨u,rfl⟩:∃u,us=[u]:=by
  cases r with
  | cons a b=>cases b;exact⟨_,rfl⟩
 obtain rfl:u=LS f:=by
  cases r with
  | cons a b=>exact a
 have cf:c'≠f:=λz=>by rw[z,h4] at h1;cases h1
 have sH:aZ H (upd H1 f (.gT (.inr (k9 q params body scope cl ((X.mg "__name__").getD .none) c' Iz)))):=λa o e=>by
  have:=g.Eo a o e;rw[aq (λz=>by rw[z,h4] at this;cases this)];exact this
 have gr:bc Hs H Hs (upd H1 f (.gT (.inr (k9 q params body scope cl ((X.mg "__name__").getD .none) c' Iz)))):=⟨λ_ _ e=>e,sH,λa o e=>sH a o (sr.gr.sub a o e),λ_ _ e _ _=>e⟩
 have vis:∀y,X.env.scope.names.lookup y=some .cell->p4 X.env.scope y:=λy e=>.inr (.inl e);have ask:pD s1.heap (upd H1 f (.gT (.inr (k9 q params body scope cl ((X.mg "__name__").getD .none) c' Iz)))) (qI X.stack) f q params body scope cl ((X.mg "__name__").getD .none) N vs:=by
  refine⟨⟨c',Iz,o,ws,t,aw,by rwa[aq cf],h2,h3⟩,⟨by rw[vl,hjs],λa b d e1 e2=>I1.ok.inj a b d (Ji a d e1).1 (Ji b d e2).1,λy a e=>I1.cell y a (Ji y a e).1,λy a e=>I1.eW y a (Ji y a e).1,λi y v e1 e2=>?_⟩,S,λy a e hb=>?_⟩
  .obtain⟨j,j1,j2,j3⟩:=hnj i y e1;obtain⟨v',w1,w2⟩:=vat i j j1;rw[e2] at w1;cases w1;obtain⟨m,_,hl⟩:=I1.loc;obtain⟨u,ru,lk⟩:=hl j y v j2 w2 (vis y j3);obtain⟨a,ea⟩:=S.has y (S.fr y (OT e1));rcases lk with ⟨z,_⟩|⟨_,d,z1,z2⟩
   .have z':X.env.scope.names.lookup y=some .local:=z;rw[j3] at z';cases z'
   .rw[(Ji y a ea).1] at z1;cases z1;exact⟨a,u,ea,z2,ru⟩
  .rcases L5.mp (I1.mK a hb) with z|z
   .exact I1.wQ y a (Ji y a e).1 z
   .obtain⟨_,o',Ju,_⟩:=I1.ok.i9.mem z;exact absurd (LU (LN Ju) (I1.ok.zJ y a (Ji y a e).2 (Ji y a e).1)) (Nl _)
 refine Oh (N3 (run L hk hN4 X.A X.stack s1 _ f cl _ vs ps Hs Q (E σ) (hr.mono hn) I1.i_ ask (λa o e=>sH a o (sr.gr.sub a o e)) rl (hp.imp (λz hz w HV H' g' rw_=>hz w HV H' (gr.trans g') rw_) λe he=>he.grow gr)) λr s' hq=>?_);cases r with
 | error e=>exact O.pass HQ σ _ s1 e s' I1 hq
 | ok fl =>
  cases fl with
  | ret u=>exact I1.after hq
  | next=>exact Mx hq
  | brk=>exact Mx hq
  |cont=>exact Mx hq
end
def spT(Pt:Addr)(q:Str)(sp:Sp):Sp:=λvs H Q E=>H Pt=some (.gT (.inl q))/\sp vs H Q E
structure kb (P:Program) (w:World) (K:LI) (mg:Str->Option Value) (base:Heap) (n:Nat) (x:Str) (m:Nat) (Pt:Addr) (q:Str) (sem:List PV->M PV):Prop where
 ex:∃(f:Addr)(fd:FuncData)(ps:List Str),mg x=some (.ref f)/\Mi K (.ref f)=true/\ps.length=m/\Binds K fd ps []/\aT P w K mg base (bB P w) n f fd ps (spT Pt q (eT m (aW m sem)))
def ba.zU{K:LI}{st:Stmt}{g:af->M Out}(F:ba K x qual st dv f fd)(S:bg N ps (au st))(hc:fd.code=.ref c)(hb:∀(A:Around)(outer:List Env)(s:Shared)(H:Hp)(E:XK),H Pt=some (.gT (.inl q))->bD k (A.deeper (envOfC qual (au st) s.heap.objs.size f (.ref c)))->dh ((eQ (bB P w) P w K mg base N qual (au st) f (.ref c) A outer s H E).out λ_=>E) (λ_=>E)->i7 ((eQ (bB P w) P w K mg base N qual (au st) f (.ref c) A outer s H E).out λ_=>E) (cR st) (tS E g)):aT P w K mg base (bB P w) (k+1) f fd ps (spT Pt q (eT ps.length (aW ps.length (ay N.length g)))):=by
 obtain⟨oc,od,kV,doc,pm,an,Ig,ct,J4,rfl,lk,II⟩:=F.ex;obtain rfl:Ig=.ref c:=hc;refine nt lk II S (λvs H Q E h=>h.2.1) λA outer s H vs Q E hr hs=>⟨_,hb A outer s H E hs.1 hr (je rfl rfl),?_⟩
 obtain⟨_,_,Hs,Jf,sm,r,h⟩:=hs;obtain⟨_,h⟩:=ar.cX (show ar (cX (Jf.length=ps.length) (ay N.length g Jf)) _ _ from h);refine⟨Hs,H,Hs,_,SR.start sm r,(ar.bind h).imp (λo ho=>?_) λe he=>he⟩;cases o with
 | rt p=>exact λv HV H' gr rv=>ho v HV H' gr rv
 | nx env=>exact fun σ HV H' sr=>ho .bz HV H' sr.gr .bz
 | bk env=>exact ho.elim
 |ct env=>exact ho.elim
def kb.call{sem:List PV->M PV}{fs:af->M (List PV)}{p:Pos}(F:kb X.prog X.w X.K X.mg X.base n x m Pt q sem)(hT:X.H₀ Pt=some (.gT (.inl q)))(hr:bD k X.A)(hn:n<=k)(hg:Gl X x)(O:dh X E)(ha:PA X (e::es) (tL E fs))(IF:autoParam ↑7 aD._auto_1)(he:autoParam ↑0 aR._auto_1)(Iu:autoParam ↑2 aR._auto_1):PE X (.Call (.Name x p) (e::es) [] pos) (tE E (ah (aW m sem) fs)):=by
 obtain⟨f,fd,ps,h1,h2,h3,h4,h5⟩:=F.ex;intro HQ s σ H Q I h;have h':tL E fs σ H λvs H1=>eT m (aW m sem) (vs++[]) H1 Q (E σ):=dQ (K:=ja Q) ja.g h λB H₀ Hs H1 env Jf v sr rp hp=>by
  have hn:aW m sem Jf≠none:=λz=>by rwa[z] at hp
  rw[MK];exact⟨by rw[<- rp.length];exact ky hn,Hs,Jf,sr.gr.sub,rp,hp⟩
 refine MQ (f_ I hg h1 ?_ IF);refine Nx (h₀:=X.base) I.ok.mod.zq h2 (cH (ha pos HQ s σ H _ I h') λus s1 ⟨vs,H1,I1,r,q⟩=>⟨I1.h9,?_⟩) he Iu;exact pM h5 (hr.mono hn) h4 .nil O I1 r ⟨I1.base.jq _ _ hT,q⟩
variable{α β:Type}
variable{x0:Option SV}
variable{p:PV}
variable{j:Int}
section
open PySem.SeqAt (shaped noMix noMixAll)
def M.aS(a:α)(f:α->M β):M.bind (M.ok a) f=f a:=Mm rfl rfl
def M.xS(e:EX)(f:α->M β):M.bind (some (Except.error e)) f=some (.error e):=Mm rfl rfl
def M.bind_none(f:α->M β):M.bind none f=none:=Mm rfl rfl
def M.bind_some(a:α)(f:α->M β):M.bind (some (Except.ok a)) f=f a:=Mm rfl rfl
def M.bind_assoc{γ:Type}(x:M α)(f:α->M β)(g:β->M γ):M.bind (M.bind x f) g=M.bind x λa=>M.bind (f a) g:=by
 cases x with
 | none=>rfl
 |some x=>cases x<;>rfl
def aA{c:Prop}[Decidable c]{x:M α}(h:c):cX c x=x:=if_pos h
def Dj(a:α):zp (M.ok a)=M.ok a:=Mm rfl rfl
def vP(x:PV):fJ (some x)=M.ok x:=Mm rfl rfl
def qU(g:af->M Out)(env:af):lK g (.nx env)=g env:=Mm rfl rfl
def rG(g:af->M Out)(p:PV):lK g (.rt p)=M.ok (.rt p):=Mm rfl rfl
def zC(b:Bool):ui (.bl b)=M.ok b:=Mm rfl rfl
def AZ(p:PV):iU (.rt p)=M.ok p:=Mm rfl rfl
def AW(e:af):iU (.nx e)=M.ok .bz:=Mm rfl rfl
def tI(xs:List Int):PV:=.tup (xs.map PV.int)
def lI(xs:List Int):PV:=.lst (xs.map PV.int)
def z8(xs:List Int):bT (tI xs)=some (xs.map PV.int):=Mm rfl rfl
def Au(xs:List Int):bT (lI xs)=some (xs.map PV.int):=Mm rfl rfl
def x8(xs:List PV):bT (.tup xs)=some xs:=Mm rfl rfl
def xi(xs:List PV):bT (.lst xs)=some xs:=Mm rfl rfl
def yb(xs:List PV):bT (.eS xs)=some xs:=Mm rfl rfl
def zE(xs:List Int):qx (tI xs)=M.ok (.int xs.length):=by simp[qx,tI,bT,fJ]
def z_(xs:List Int):qx (lI xs)=M.ok (.int xs.length):=by simp[qx,lI,bT,fJ]
def y_(xs:List PV):qx (.tup xs)=M.ok (.int xs.length):=Mm rfl rfl
def xb(xs:List PV):qx (.lst xs)=M.ok (.int xs.length):=Mm rfl rfl
def xO(xs:List PV):qx (.eS xs)=M.ok (.int xs.length):=Mm rfl rfl
def qK(xs:List Bool):sD [.lst (xs.map PV.bl)]=M.ok (.bl (xs.all id)):=by simp[sD,all1,rQ,fJ]
def kY{f:af->M PV}{inj h:α->PV}{rest:af}(xs:List α)(H:∀a∈xs,f (some (.sh (inj a))::rest)=M.ok (h a)):cY (dg 0) none f (xs.map inj) (x0::rest)=M.ok (xs.map h):=by
 induction xs generalizing x0 with
 | nil=>rfl
 | cons a r ih =>
  rw[Mg,cY];show M.bind (M.ok ((x0::rest).set 0 (some (.sh (inj a))))) _=_;rw[M.aS,NR];show M.bind (f _) _=_;rw[H a L4,M.aS,ih λb hb=>H b (LQ _ hb)];rfl
def uq{f:af->M PV}{p q h:α->PV}{rest:af}{x1:Option SV}(xs:List α)(H:∀a∈xs,f (some (.sh (p a))::some (.sh (q a))::rest)=M.ok (h a)):cY (gP 0 1) none f (xs.map λa=>.tup [p a,q a]) (x0::x1::rest)=M.ok (xs.map h):=by
 induction xs generalizing x0 x1 with
 | nil=>rfl
 | cons a r ih =>
  rw[Mg,cY];show M.bind (M.ok (((x0::x1::rest).set 0 (some (.sh (p a)))).set 1 (some (.sh (q a))))) _=_;rw[M.aS,NR,List.set_cons_succ,NR];show M.bind (f _) _=_;rw[H a L4,M.aS,ih λb hb=>H b (LQ _ hb)];rfl
def kC{f:α->PV}{g:β->PV}{q:PV}(xs:List α)(ys:List β)(hp:bT p=some (xs.map f))(hq:bT q=some (ys.map g)):zip2 [p,q]=M.ok ((xs.zip ys).map λz=>.tup [f z.1,g z.2]):=by
 simp only[zip2,hp,hq];congr 2;rw[List.zipWith_map,List.zip_eq_zipWith,RH]
def vW{f:α->PV}(xs:List α):gN (xs.map f)=(xs.zipIdx).map λz=>.tup [.int (z.2:Int),f z.1]:=by
 unfold gN;rw[List.mapIdx_eq_zipIdx_map,List.zipIdx_map,Nc];rfl
theorem kl{set:PV->af->M af}{body:af->M Out}{α:Type}{inj:α->PV}(J:List α->af->Prop)(H:∀a r env,J (a::r) env->∃e' HS,set (inj a) env=M.ok e'/\body e'=M.ok (.nx HS)/\J r HS):∀(xs:List α)(env:af),J xs env->∃HS,hG set body (xs.map inj) env=M.ok (.nx HS)/\J [] HS
 | [],env,h=>⟨env,rfl,h⟩
 | a::r,env,h=>by
  obtain⟨e',HS,h1,h2,h3⟩:=H a r env h;obtain⟨JL,h4,h5⟩:=kl J H r HS h3;refine⟨JL,?_,h5⟩;rwa[Mg,hG,h1,M.aS,h2,M.aS]
theorem vF{u:af->M Bool}{b:af->M Out}(J:af->Prop)(m:af->Nat)(H:∀env,J env->(u env=M.ok false)\/(u env=M.ok true/\∃HS,b env=M.ok (.nx HS)/\J HS/\m HS<m env))(env:af)(h:J env):∃HS,nF u b env=M.ok (.nx HS)/\J HS/\u HS=M.ok false:=by
 have key:∀(n:Nat)(env:af),J env->m env<n->∃HS,cK u b n env=M.ok (.nx HS)/\J HS/\u HS=M.ok false:=by
  intro n
  induction n with
  | zero=>intro env _ hn;lia
  | succ n ih =>
   intro env h hn;rcases H env h with hu|⟨hu,HS,hb,hj,hm⟩
   .exact⟨env,by rw[cK,hu,M.aS];rfl,h,hu⟩
   .obtain⟨JL,h1,h2,h3⟩:=ih HS hj ⋯;exact⟨JL,by rwa[cK,hu,M.aS,if_pos rfl,hb,M.aS],h2,h3⟩
 obtain⟨HS,h1,h2,h3⟩:=key (m env+1) env h (M_ _);refine⟨HS,?_,h2,h3⟩;rw[vn (n:=m env+1) (by rw[h1];exact λz=>nomatch z),h1]
theorem log2_small{i:Int}(h:i.natAbs<2^k)(hk:k<=9000):i.natAbs.log2<67108864:=by
 by_cases z:i.natAbs=0
 .rw[z];decide
 .have:=(RM z).mpr h;lia
def bR{i:Int}{l:Nat}(hi:i.natAbs<2^k)(hj:j.natAbs<2^l)(hk:autoParam (k<=9000) aD._auto_1)(hl:autoParam (l<=9000) aD._auto_1):cG (.int i) (.int j)=M.ok (.int (i*j)):=by
 rw[cG,aA ⟨log2_small hi hk,log2_small hj hl⟩]
theorem o7{i:Int}(h0:j≠0)(h:j.natAbs<2^9000):fG (.int i) (.int j)=M.ok (.int (i.fdiv j)):=by
 show cX _ _=_;refine aA (decide_eq_true ⟨h0,(RM ⋯).mpr h⟩)
def y3{i:Int}(h0:j≠0):da (.int i) (.int j)=M.ok (.int (i.fmod j)):=by
 show cX _ _=_;exact aA (decide_eq_true h0)
theorem bx{i:Int}(h0:0<j)(h:j<2^64):fG (.int i) (.int j)=M.ok (.int (i/j)):=by
 rw[o7 ⋯ (LU (show j.natAbs<2^64 by lia) (OW ↑12 ↑12)),NZ _ ⋯]
theorem aB{i:Int}(h0:0<j):da (.int i) (.int j)=M.ok (.int (i%j)):=by
 rw[y3 ⋯,Int.fmod_eq_emod_of_nonneg _ ⋯]
def cW{j:Nat}{x:PV}(hs:bT p=some xs)(h:xs[j]?=some x):aO p (.int (j:Int))=M.ok x:=by
 cases p with
 | tup ys=>cases hs;simp only[aO,qt h,fJ]
 | lst ys=>cases hs;simp only[aO,qt h,fJ]
 | eS ys=>cases hs;simp only[aO,qt h,fJ]
 |_=>cases hs
section
variable{b:String->Bool}{ob oe:Addr->Option Bool}
def Dw(xs:List Int):tJ b ob oe (tI xs)=M.ok (.bl (b "tuple")):=Mm rfl rfl
def C3(xs:List Int):tJ b ob oe (lI xs)=M.ok (.bl (b "list")):=Mm rfl rfl
def AK(xs:List PV):tJ b ob oe (.tup xs)=M.ok (.bl (b "tuple")):=Mm rfl rfl
def Av(xs:List PV):tJ b ob oe (.lst xs)=M.ok (.bl (b "list")):=Mm rfl rfl
def Ag(i:Int):tJ b ob oe (.int i)=M.ok (.bl (b "int")):=Mm rfl rfl
def CT(i:Bool):tJ b ob oe (.bl i)=M.ok (.bl (b "bool")):=Mm rfl rfl
def zz:tJ b ob oe .bz=M.ok (.bl (b "NoneType")):=Mm rfl rfl
def zV(x:Str):tJ b ob oe (.str x)=M.ok (.bl (b "str")):=Mm rfl rfl
def Ay:tJ b ob oe .emp=M.ok (.bl (b "dict")):=Mm rfl rfl
end
def Ao(i j:Int):qF (.int i) (.int j)=M.ok (.bl (!decide (i=j))):=by
 simp only[qF,lR,dat,z0,shaped,Po,P8,noMix];rw[aA ⟨rfl,rfl,trivial⟩];unfold same;rw[M.aS];congr
def zQ(i j:Int):gO (.int i) (.int j)=M.ok (.bl (decide (i=j))):=by
 simp only[gO,lR,dat,z0,shaped,Po,P8,noMix];rw[aA ⟨rfl,rfl,trivial⟩];unfold same;rw[M.aS];congr
def Ck(i j:Bool):qF (.bl i) (.bl j)=M.ok (.bl (!decide (i=j))):=by
 simp only[qF,lR,dat,z0,shaped,Po,P8,noMix];rw[aA ⟨rfl,rfl,trivial⟩];unfold same;rw[M.aS];congr
def BP(i j:Bool):gO (.bl i) (.bl j)=M.ok (.bl (decide (i=j))):=by
 simp only[gO,lR,dat,z0,shaped,Po,P8,noMix];rw[aA ⟨rfl,rfl,trivial⟩];unfold same;rw[M.aS];congr
def zP(i j:Int):uQ (.int i) (.int j)=M.ok (.bl (decide (i<j))):=Mm rfl rfl
def Ai(i j:Int):we (.int i) (.int j)=M.ok (.bl (decide (i<=j))):=Mm rfl rfl
def Ap(i j:Int):Bs (.int i) (.int j)=M.ok (.bl (decide (j<i))):=Mm rfl rfl
def zT(i j:Int):DK (.int i) (.int j)=M.ok (.bl (decide (j<=i))):=Mm rfl rfl
def xW(i j:Int):dC (.int i) (.int j)=M.ok (.int (i+j)):=Mm rfl rfl
def zh(i j:Int):jN (.int i) (.int j)=M.ok (.int (i-j)):=Mm rfl rfl
theorem xN{n:Int}(h:0<=n)(h2:n<2^62):ip [.int n]=M.ok ((LZ n.toNat).map λ(i:Nat)=>.int (i:Int)):=by
 show cX (-(2^62)<=n/\n<2^62) _=_;rw[aA ⋯];simp
def hU{set:PV->af->M af}{body:af->M Out}{inj:α->PV}{k:Out->M β}{r:M β}(xs:List α)(J:List α->af->Prop){env:af}(h:J xs env)(H:∀a r env,J (a::r) env->∃e' HS,set (inj a) env=M.ok e'/\body e'=M.ok (.nx HS)/\J r HS)(hk:∀HS,J [] HS->k (.nx HS)=r):M.bind (hG set body (xs.map inj) env) k=r:=by
 obtain⟨HS,e,h'⟩:=kl J H xs env h;rw[e,M.aS];exact hk HS h'
def aV(h:n<=1000):n<=sizeLine:=Ol (pv h)
def tupK(ps:List PV):M PV:=cX (ps.length<=sizeLine) (M.ok (.tup ps))
def lstK(ps:List PV):M PV:=cX (ps.length<=sizeLine) (M.ok (.lst ps))
def Ae(fs:af->M (List PV))(env:af):de fs env=(fs env).bind tupK:=rfl
def zS(fs:af->M (List PV))(env:af):iX fs env=(fs env).bind lstK:=rfl
def BA:tupK []=M.ok (.tup []):=aA (aV (show 0<=1000 by decide))
def BV:lstK []=M.ok (.lst []):=aA (aV (show 0<=1000 by decide))
def Dm(a:PV):tupK [a]=M.ok (.tup [a]):=aA (aV (show 1<=1000 by decide))
def Ca(a:PV):lstK [a]=M.ok (.lst [a]):=aA (aV (show 1<=1000 by decide))
def BE(a b:PV):tupK [a,b]=M.ok (.tup [a,b]):=aA (aV (show 2<=1000 by decide))
def Bz(a b:PV):lstK [a,b]=M.ok (.lst [a,b]):=aA (aV (show 2<=1000 by decide))
def CJ(a b c:PV):tupK [a,b,c]=M.ok (.tup [a,b,c]):=aA (aV (show 3<=1000 by decide))
def Dz(a b c:PV):lstK [a,b,c]=M.ok (.lst [a,b,c]):=aA (aV (show 3<=1000 by decide))
def Ct(a b c d:PV):tupK [a,b,c,d]=M.ok (.tup [a,b,c,d]):=aA (aV (show 4<=1000 by decide))
def BW(a b c d:PV):lstK [a,b,c,d]=M.ok (.lst [a,b,c,d]):=aA (aV (show 4<=1000 by decide))
def CL(a b c d e:PV):tupK [a,b,c,d,e]=M.ok (.tup [a,b,c,d,e]):=aA (aV (show 5<=1000 by decide))
def BO(a b c d e:PV):lstK [a,b,c,d,e]=M.ok (.lst [a,b,c,d,e]):=aA (aV (show 5<=1000 by decide))
def B6(a b c d e f:PV):tupK [a,b,c,d,e,f]=M.ok (.tup [a,b,c,d,e,f]):=aA (aV (show 6<=1000 by decide))
def Cj(a b c d e f:PV):lstK [a,b,c,d,e,f]=M.ok (.lst [a,b,c,d,e,f]):=aA (aV (show 6<=1000 by decide))
end
def jV(m:M α)(Q:α->Prop):Prop:=∃a,m=M.ok a/\Q a
section
variable{γ:Type}{Q Q':α->Prop}{m:M α}
end
def E5(i:Nat)(env:af)(xs:List PV)(p:PV):M Out:=if xs.length<sizeLine then M.ok (.nx (env.set i (some (.ow (xs++[p]))))) else none
def uE(i:Nat)(f:af->M PV)(env:af):tK i f env=(ownAt i env).bind λxs=>(f env).bind λp=>E5 i env xs p:=by
 unfold tK ownAt;rcases env[i]? with _|_|(_|_|_)<;>rfl
def vd{env:af}(h:xs.length<1000):E5 i env xs p=M.ok (.nx (env.set i (some (.ow (xs++[p]))))):=if_pos (pv (Ol h))
def uO{f:α->PV}(xs:List α)(h:bT p=some (xs.map f)):D3 [p]=M.ok (xs.zipIdx.map λz=>.tup [.int (z.2:Int),f z.1]):=by
 show GA p=_;unfold GA;rw[h];show M.ok (gN _)=_;rw[vW]
def zI{f:α->PV}(xs:List α):D3 [.lst (xs.map f)]=M.ok (xs.zipIdx.map λz=>.tup [.int (z.2:Int),f z.1]):=uO xs rfl
def G8{us:List α}(h:us.length=1):∃a,us=[a]:=by
 cases us with
 | nil=>cases h
 | cons a t=>cases t with
  | nil=>exact⟨a,rfl⟩
  |cons b t=>cases h
def ln2{us:List α}(h:us.length=2):∃a b,us=[a,b]:=by
 cases us with
 | nil=>cases h
 |cons a t=>obtain⟨b,rfl⟩:=G8 (P9 h);exact⟨a,b,rfl⟩
def Fl{us:List α}(h:us.length=3):∃a b c,us=[a,b,c]:=by
 cases us with
 | nil=>cases h
 |cons a t=>obtain⟨b,c,rfl⟩:=ln2 (P9 h);exact⟨a,b,c,rfl⟩
def Hb{us:List α}(h:us.length=4):∃a b c d,us=[a,b,c,d]:=by
 cases us with
 | nil=>cases h
 |cons a t=>obtain⟨b,c,d,rfl⟩:=Fl (P9 h);exact⟨a,b,c,d,rfl⟩
def qL(K:LI):Bool:=K.all λp=>match p.2.cls with
 | .type t=>t != "list"
 |_=>true
def zc{K:LI}(h:qL K=true){o:Obj}(e:K.lookup a=some o):o.cls≠.type "list" := by
 induction K with
 | nil=>cases e
 | cons p r ih =>
  obtain⟨b,u⟩:=p;rw[qL,QF,My] at h;rw[MG] at e;cases q:a==b with
  | true =>
   rw[q] at e;cases e;intro z;have h1:=h.1;simp only[z] at h1;exact absurd h1 ↑12
  |false=>rw[q] at e;exact ih h.2 e
theorem pA{H:Hp}:∀ns:List Int,aM H (ns.map PV.int) (ns.map V.int)
 | []=>.nil
 |i::r=>.cons (.int i) (pA r)
abbrev qH(x q:Str)(t:Stmt)(s:Value)(c:Addr):FuncData:=MM x q (f9 t) (cR t) (au t) .none .none .none s none (.ref c) .none
variable{t:Stmt}
def ba.of{K:LI}{kV doc:Value}{an:Option Addr}{Ig ct:Value}(h1:K.lookup f=some ⟨.type "function",none,.func (MM x q (f9 t) (cR t) (au t) dv kV doc pm an Ig ct),⟨[]⟩⟩)(h2:Nf K Ig q=true)(h3:Mi K (.ref f)=true):ba K x q t dv f (MM x q (f9 t) (cR t) (au t) dv kV doc pm an Ig ct):=⟨⟨_,_,_,_,_,_,_,_,_,rfl,h1,h2⟩,h3⟩
section
variable{P:List α->Prop}
def Hm(h:∀a,P [a]):∀us,us.length=1->P us:=λus hl=>by obtain⟨a,rfl⟩:=G8 hl;exact h a
def Fh(h:∀a b,P [a,b]):∀us,us.length=2->P us:=λus hl=>by obtain⟨a,b,rfl⟩:=ln2 hl;exact h a b
def He(h:∀a b c,P [a,b,c]):∀us,us.length=3->P us:=λus hl=>by obtain⟨a,b,c,rfl⟩:=Fl hl;exact h a b c
def Hk(h:∀a b c d,P [a,b,c,d]):∀us,us.length=4->P us:=λus hl=>by obtain⟨a,b,c,d,rfl⟩:=Hb hl;exact h a b c d
end
variable{sc:Scope}
def bg.of{P:List Str}(h1:autoParam (sc.kind=.function) aR._auto_1)(h2:autoParam (sc.isCoroutine=false) aR._auto_1)(h3:autoParam (sc.isGenerator=false) aR._auto_1)(h4:autoParam (N.Nodup) aN._auto_1)(h5:autoParam (N.take P.length=P) aR._auto_1)(h6:autoParam (∀x∈P,sc.names.lookup x=some .local\/sc.names.lookup x=some .cell) aN._auto_1)(h7:autoParam (∀y∈sc.names,y.2≠.free) aN._auto_1):bg N P sc:=⟨h1,h2,h3,h4,h5,h6,h7⟩
def bS(hN:X.N.Nodup)(hi:autoParam (X.N[i]?=some x) aR._auto_1)(hx:autoParam (Loc X.env.scope x) aG._auto_1)(hf:autoParam ↑1 aG._auto_1):PG X (.Name x pos) (br i):=AM hN hi hx hf
abbrev oG:=List (Addr×Addr×Str)
structure q0 (ts:oG) (h:Heap):Prop where
 hd:∀t∈ts,MD h t.1 t.2.1
 tb:∀t∈ts,h.get? t.2.1=some (OD #[])
def zF(ts:oG)(b:Addr):Option HO:=(ts.find? λt=>t.2.1==b).map λt=>.gT (.inl t.2.2)
def vN{ts:oG}{b:Addr}{u:HO}(e:zF ts b=some u):∃t∈ts,t.2.1=b/\u=.gT (.inl t.2.2):=by
 obtain⟨t,e1,e2⟩:=LP.mp e;exact⟨t,List.mem_of_find?_eq_some e1,beq_iff_eq.mp (List.find?_some (p:=λt:Addr×Addr×Str=>t.2.1==b) e1),e2.symm⟩
def xl(ts:oG)(sp:Sp):Sp:=λvs H Q E=>(∀t∈ts,H t.2.1=some (.gT (.inl t.2.2)))/\sp vs H Q E
def ba.FR{K:LI}{st:Stmt}{ts:oG}{g:af->M Out}(F:ba K x qual st dv f fd)(S:bg N ps (au st))(hb:∀(Ig:Value)(A:Around)(outer:List Env)(s:Shared)(H:Hp)(E:XK),(∀t∈ts,H t.2.1=some (.gT (.inl t.2.2)))->bD k (A.deeper (envOfC qual (au st) s.heap.objs.size f Ig))->dh ((eQ (bB P w) P w K mg base N qual (au st) f Ig A outer s H E).out λ_=>E) (λ_=>E)->i7 ((eQ (bB P w) P w K mg base N qual (au st) f Ig A outer s H E).out λ_=>E) (cR st) (tS E g)):aT P w K mg base (bB P w) (k+1) f fd ps (xl ts (eT ps.length (aW ps.length (ay N.length g)))):=by
 obtain⟨oc,od,kV,doc,pm,an,Ig,ct,J4,rfl,lk,II⟩:=F.ex;refine nt lk II S (λvs H Q E h=>h.2.1) λA outer s H vs Q E hr hs=>⟨_,hb Ig A outer s H E hs.1 hr (je rfl rfl),?_⟩
 obtain⟨_,_,Hs,Jf,sm,r,h⟩:=hs;obtain⟨_,h⟩:=ar.cX (show ar (cX (Jf.length=ps.length) (ay N.length g Jf)) _ _ from h);refine⟨Hs,H,Hs,_,SR.start sm r,(ar.bind h).imp (λo ho=>?_) λe he=>he⟩;cases o with
 | rt p=>exact λv HV H' gr rv=>ho v HV H' gr rv
 | nx env=>exact fun σ HV H' sr=>ho .bz HV H' sr.gr .bz
 | bk env=>exact ho.elim
 |ct env=>exact ho.elim
theorem qS{t:Addr×Addr×Str}:∀{ts:oG},(ts.map λt=>t.2.1).Nodup->t∈ts->ts.find? (λt'=>t'.2.1==t.2.1)=some t
 | [],_,ht=>nomatch ht
 | t0::r,KU,ht=>by
  rw[Mg,Of] at KU;rw[List.find?_cons];rcases L5.mp ht with rfl|ht
  .simp
  .have ne:(t0.2.1==t.2.1)=false:=by
    cases e:t0.2.1==t.2.1 with
    | false=>rfl
    | true=>exact absurd (M6.mpr ⟨t,ht,(beq_iff_eq.mp e).symm⟩) KU.1
   rw[ne];exact qS KU.2 ht
def vD{K:LI}(h:Pp K=true){o:Obj}(e:K.lookup a=some o)(ps:Array Value):o≠OD ps:=λz=>by
 have:=Me.mp h (a,o) (PySem.W.mem_of_lookupK e);subst z;cases this
variable{mb:Str->Option Value}
def wM{K:LI}{fa:Addr}{sem:List PV->M PV}{s₁:Shared}{vs:List Value}{ns:List Int}{ts:oG}(KX:K.In s₁.heap)(hns:s₁.heap.Ns mainGlobals mg)(hb:s₁.heap.Ns builtinsNs mb)(hbb:∀x:Str,x ≠ "__name__" -> mb x=bootBuiltins x)(hlim:s₁.heap.NoLimit)(hg:s₁.gens=#[])(ha:s₁.heap.get? a=some { cls:=.type "list",data:=.seq vs.toArray })(hi:IntsAre vs ns)(hl:ns.length<=sizeLine)(hr:bD k callerA)(hT:q0 ts s₁.heap)(KU:(ts.map λt=>t.2.1).Nodup)(hKt:Pp K=true)(hKl:qL K=true)(Jw:Bm mg s₁.heap)(F:∀base:Heap,K.In base->base.Ns mainGlobals mg->(∀t∈ts,MD base t.1 t.2.1)->Bm mg base->aT P w K mg base (bB P w) k fa fd [x] (xl ts (eT 1 sem)))(Le:∀(s:Shared)(u:Value),BindsTo s fd ⟨[u],[]⟩ [(x,u)])(JI:sem [.eS (ns.map PV.int)]=M.ok (.bl true)):codeAny (model P w) callerA (.call (.ref fa) ⟨[.ref a],[]⟩) (λr s'=>r=.ok (.ret (.bool true))/\OldK s₁.heap s'.heap/\s'.os=s₁.os/\AllBare s'.gens) s₁:=by
 have rv:=pf hi;have lenV:=hi.length
 let so:Obj:={ cls:=.type "list",data:=.seq vs.toArray }
 obtain⟨H,hH⟩:∃H:Hp,H=λb=>if b=a then some (.lA so (.lst (ns.map V.int))) else zF ts b:=⟨_,rfl⟩
 have Ha:H a=some (.lA so (.lst (ns.map V.int))):=by rw[hH];exact if_pos rfl
 have Hne:∀b,b≠a->H b=zF ts b:=λb n=>by rw[hH];exact if_neg n
 have tna:∀t∈ts,t.2.1≠a:=λt ht z=>by
  have:=hT.tb t ht;rw[z,ha] at this;cases this
 have Ht:∀t∈ts,H t.2.1=some (.gT (.inl t.2.2)):=λt ht=>by
  rw[Hne _ (tna t ht)];unfold zF;have this:=qS KU ht;rw[this];rfl
 have Hc:∀b u,H b=some u->(b=a/\u=.lA so (.lst (ns.map V.int)))\/∃t∈ts,t.2.1=b/\u=.gT (.inl t.2.2):=λb u e=>by
  by_cases z:b=a
  .subst z;rw[Ha] at e;cases e;exact .inl ⟨rfl,rfl⟩
  .rw[Hne b z] at e;exact .inr (vN e)
 have noH:∀{b:Addr}{o:Obj},s₁.heap.get? b=some o->o≠so->(∀ps,o≠OD ps)->H b=none:=λ{b o} e n1 n2=>by
  cases q:H b with
  | none=>rfl
  | some u =>
   rcases Hc b u q with ⟨z,_⟩|⟨t,ht,z,_⟩
   .rw[z,ha] at e;exact absurd (L8 e).symm n1
   .have:=hT.tb t ht;rw[z,e] at this;exact absurd (L8 this) (n2 _)
 have Jj:∀{b:Addr}{o:Obj},s₁.heap.get? b=some o->H b=none->(nB s₁.heap H).get? b=some o:=λe n=>xu e n;have dF:∀{b:Addr}{o:Obj}{es:Array DictEntry}{ep:Nat},s₁.heap.get? b=some o->o.data=.dict es ep->H b=none:=λ{b o es ep} e d=>noH e (λz=>by rw[z] at d;cases d) λps z=>by rw[z] at d;cases d
 have nsK:∀{b:Addr}{m:Str->Option Value},s₁.heap.Ns b m->(nB s₁.heap H).Ns b m:=λ{b m} ⟨o,es,ep,e,d,r⟩=>⟨o,es,ep,Jj e (dF e d),d,r⟩
 have hKb:K.In (nB s₁.heap H):=λb o e=>Jj (KX b o e) (noH (KX b o e) (λz=>zc hKl e (by rw[z])) λps=>vD hKt e ps);have hcb:∀t∈ts,MD (nB s₁.heap H) t.1 t.2.1:=λt ht=>by
  obtain⟨o,ws,file,tf,flags,tg,inF,text,tt,e,c,r⟩:=hT.hd t ht;exact⟨o,ws,file,tf,flags,tg,inF,text,tt,Jj e (noH e (λz=>by rw[z] at c;injection c with c;exact absurd c ↑12) λps z=>by rw[z] at c;cases c),c,r⟩
 have hbmb:Bm mg (nB s₁.heap H):=by
  obtain⟨bm,o,b1,b2,b3,b4,b5,b6⟩:=Jw;exact⟨bm,o,b1,b2,b3,Jj b4 (noH b4 (λz=>by rw[z] at b5;injection b5 with b5;exact absurd b5 ↑12) λps z=>by rw[z] at b5;cases b5),b5,b6⟩
 have hM:Mod K mg (nB s₁.heap H):=⟨hKb,nsK hns,⟨mb,nsK hb,hbb⟩,let ⟨mc,h1,h2⟩:=hlim;⟨mc,nsK h1,h2⟩⟩
 have bf:kX P w H s₁.heap:=λb u e=>by
  rcases Hc b u e with ⟨rfl,rfl⟩|⟨t,ht,rfl,rfl⟩
  .exact⟨ha,by rwa[LK],vs,_,rv,ha⟩
  .exact⟨#[],hT.tb t ht,trivial,λpos cv z=>nomatch z⟩
 have e0:oy P w K mg (nB s₁.heap H) callerA [] s₁ H:=⟨rfl,hM,λb o e=>AY e,Q9 (vS _ _),trivial,λb hb=>absurd (show b∈([]:List Addr) from hb) ↑13,bf,.of_eq hg⟩
 refine N3 ((F _ hKb (nsK hns) hcb hbmb).run callerA [] s₁ H ⟨[.ref a],[]⟩ [.ref a] [.ref a] (λv _=>v=.bl true) (λ_ _ _=>False) hr e0 (Le s₁ (.ref a)) (.cons rfl .nil) ⟨Ht,rfl,H,[.eS (ns.map PV.int)],λ_ _ e=>e,.cons (.eS Ha (pA ns)) .nil,by
  rw[JI];intro v HV H' g r;cases r;rfl⟩) λr s' h=>?_
 cases r with
 | error e=>obtain⟨ea,T,C,dd,Hc,_,_,_,_,_,_,_,_,z⟩:=h;exact z.elim
 | ok fl =>
  cases fl with
  | next=>exact Mx h
  | brk=>exact Mx h
  | cont=>exact Mx h
  | ret u =>
   obtain⟨v,H',os,bare,un,Lq,r',q⟩:=h;have q':v=.bl true:=q;subst q';obtain rfl:u=Mw true:=r';refine⟨rfl,⟨λb o e=>?_,λb o e=>un.there b o e ↑13⟩,os,bare⟩;cases q:H b with
   | none=>exact .inl (un.keep b o e q (by intro z;exact absurd (show b∈([]:List Addr) from z) ↑13) ↑13)
   | some u =>
    rcases Hc b u q with ⟨rfl,rfl⟩|⟨t,ht,rfl,rfl⟩
    .have z2:=un.jP b so _ q;obtain⟨e2,_⟩:=(show bN P w H' s'.heap b (.lA so (.lst (ns.map V.int))) from Lq b _ z2)
     rw[ha] at e;cases e;exact .inl e2
    .have z2:=un.jq _ _ q;obtain⟨ps,e2,_⟩:=(show bN P w H' s'.heap t.2.1 (.gT (.inl t.2.2)) from Lq _ _ z2)
     have e3:=hT.tb t ht;rw[e] at e3;cases e3;exact .inr (.inl ⟨((hT.hd t ht).tab (hT.tb t ht)).isCodeTable,rfl,#[],ps,rfl,by rwa[Array.empty_append]⟩)
variable{h:Heap}{Kp:ExcName->Option Value}
def Eg{p:Program}{loose:List Str}(T:Top p loose Kp mg mb h):Bm mg h:=by
 obtain⟨bm,ob,b1,b2,b3,b4,b5,b6⟩:=T.bmain;refine⟨bm,ob,b1,b2,λq=>?_,b3,b4,b5,b6⟩;obtain⟨o,es,ep,e,hd,_⟩:=T.g;rw[q,e] at b3;cases b3;rw[hd] at b6;cases b6
def wy:q0 [] h:=⟨(λ_ h=>nomatch h),(λ_ h=>nomatch h)⟩
def hZ{P:Addr}{ts:oG}(a:MD h c P/\h.get? P=some (OD #[]))(r:q0 ts h):q0 ((c,P,q)::ts) h :=
 ⟨λt ht=>by rcases L5.mp ht with rfl|ht;exact a.1;exact r.hd t ht,λt ht=>by rcases L5.mp ht with rfl|ht;exact a.2;exact r.tb t ht⟩
def mj{p:Program}{loose:List Str}{K:LI}{P:Addr}(T:Top p loose Kp mg mb h)(X:K.In h)(hr:((PyProof.Rows.recsOf p).find? (λe=>e.name==x)).isSome=true)(ht:OQ K x=some (c,P)):MD h c P/\h.get? P=some (OD #[]) :=
 let ⟨_,e⟩:=NF.mp hr
 PySem.W.tab_of T X e ht
def ud{l:PySem.W.OpenLaw}{q:Program}{loose:List Str}{XP:(Str->Option Value)->Heap->Prop}{YP:World->Heap->Prop}{d:DefRec}{K:Params->LI}{sem:List PV->M PV}{ts:oG}(hn:l.most=some n)(Kx:n<=sizeLine)(hdf:d.params.defaults=[])(hr:bD k callerA)(hY:∀(w:World)(h:Heap),YP w h->(K w.params).In h)(hK:∀w:World,qL (K w.params)=true)(hKt:∀w:World,Pp (K w.params)=true)(KU:(ts.map λt=>t.2.1).Nodup)(hTb:∀(w:World)(Kp:ExcName->Option Value)(mg mb:Str->Option Value)(h:Heap),Top q (PySem.W.looseW q loose) Kp mg mb h->(K w.params).In h->q0 ts h)(F:∀(w:World)(mg:Str->Option Value)(fa:Addr)(h:Heap),(K w.params).In h->h.Ns mainGlobals mg->mg d.name=some (.ref fa) ->∃ fd:FuncData,(∀(s:Shared)(u:Value),BindsTo s fd ⟨[u],[]⟩ [(x,u)]) ∧∀base:Heap,(K w.params).In base->base.Ns mainGlobals mg->(∀t∈ts,MD base t.1 t.2.1)->Bm mg base->aT l.prog w (K w.params) mg base (bB l.prog w) k fa fd [x] (xl ts (eT 1 sem)))(JI:∀ns:List Int,ns.length<=n->(∀i∈ns,O_ i<=1048576)->sem [.eS (ns.map PV.int)]=M.ok (.bl true)):PySem.W.WalkO q loose XP YP l.row.toRowW d [] (λf vs=>PySem.call f vs):=by
 intro w s₀ s₁ mg mb G Y fa o pm cd doc dV kV ho hd II hD hmg hg args vals as vO hlay hrd hwl hlo;obtain rfl:dV=.none:=PySem.W.Dflts.none hD hdf;obtain rfl:kV=.none:=PySem.W.Dflts.noKw hD;obtain⟨a,vs,ns,rfl,rfl,hobj,hints,hlen⟩:=Att.vG hn vO hwl;have Lf:∀i∈ns,O_ i<=1048576:=λi hi=>by
  have h1:=PySem.W.layableW_arg hlay _ (Na.mpr rfl);have h2:=PySem.W.layableW_item h1 (.int i) (M6.mpr ⟨i,hi,rfl⟩);exact intBits_le_of_layable h2
 have KX:=hY w _ Y;obtain⟨fd,hb,hF⟩:=F w mg fa _ KX G.T.g hmg;have hs:=JI ns hlen Lf;refine PySem.W.enter_call (N3 (wM KX G.T.g G.T.b G.T.builtins G.T.nolimit hg hobj hints (MB hlen Kx) hr (hTb w _ mg mb _ G.T KX) KU (hKt w) (hK w) (Eg G.T) hF hb hs) λr s' hq=>?_);obtain⟨rfl,h2,h3,h4⟩:=hq;exact⟨.inl ⟨.bool true,.bool true,[],rfl,λ_=>rfl,.bool true,Att.vM l _,λ_=>⟨List.Pairwise.nil,λ_ hm=>(nomatch hm)⟩⟩,h2,h3,h4⟩
inductive wL (cells:List (Str×Addr)):List (Str×Addr)->Prop where
 | nil:wL cells []
 |cons {x:Str} {a:Addr} {r:List (Str×Addr)}:cells.lookup x=some a->wL cells r->wL cells ((x,a)::r)
def wL.sub{cells cl:List (Str×Addr)}(h:wL cells cl):∀y a,cl.lookup y=some a->cells.lookup y=some a:=by
 induction h with
 | nil=>intro y a e;cases e
 | @cons x b r h1 _ ih =>
  intro y a e;rw[MG] at e
  by_cases z:y=x
  .subst z;rw[beq_self_eq_true] at e;cases e;exact h1
  .rw[beq_false_of_ne z] at e;exact ih y a e
inductive NJ (XN:List Str) (names:List (Str×NameKind)):List Str->List Nat->Prop where
 | nil:NJ XN names [] []
 |cons {x:Str} {j:Nat} {N:List Str} {js:List Nat}:XN[j]?=some x->names.lookup x=some .cell->NJ XN names N js->NJ XN names (x::N) (j::js)
variable{names:List (Str×NameKind)}{XN:List Str}
def NJ.len(h:NJ XN names N js):js.length=N.length:=by
 induction h with
 | nil=>rfl
 |cons _ _ _ ih=>simp[ih]
def NJ.at_(h:NJ XN names N js):∀(i:Nat)(y:Str),N[i]?=some y->∃j,js[i]?=some j/\XN[j]?=some y/\names.lookup y=some .cell:=by
 induction h with
 | nil=>intro i y e;simp at e
 | @cons x j N js h1 h2 _ ih =>
  intro i y e;cases i with
  | zero=>cases e;exact⟨j,rfl,h1,h2⟩
  |succ i=>exact ih i y (by simpa using e)
theorem ju{x:Str}:∀{cl:List (Str×Addr)},x∈cl.map (·.1)->∃c,cl.lookup x=some c
 | [],h=>by simp at h
 | (y,a)::r,h=>by
  rw[MG]
  by_cases z:x=y
  .subst z;rw[beq_self_eq_true];exact⟨a,rfl⟩
  .rw[beq_false_of_ne z];rw[Mg] at h;rcases L5.mp h with w|w
   .exact absurd w z
   .exact ju w
def gi.of{cl:List (Str×Addr)}(h1:sc.kind=.function)(h2:sc.isCoroutine=false)(h3:sc.isGenerator=false)(h4:(sc.names.all λx=>x.2 != .cell)=true)(M:List Str)(h5:cl.map (·.1)=M)(h6:(sc.names.all λx=>x.2 != .free||M.contains x.1)=true)(h7:(N.all λx=>sc.names.lookup x==some .free)=true):gi N sc cl where
 kind:=h1
 co:=h2
 gen:=h3
 sM:=λx hx z=>by
  have:=Me.mp h4 x hx;rw[z] at this;exact absurd this ↑12
 has:=λx hx=>by
  have:=Me.mp h6 (x,.free) (M7 hx);refine ju ?_;rw[h5];simpa using this
 fr:=λx hx=>by
  have:=Me.mp h7 x hx;exact eq_of_beq this
section
variable{k0:Nat}{sem:M PV->M PV}{cl:List (Str×Addr)}{fb:af->M PV}{p lp:Pos}
def fR.jY(F:fR X.prog X.w X.K X.mg X.base n x sem)(hr:bD k0 X.A)(hn:n<=k0)(hg:Gl X x)(O:dh X E)(L:ki X.prog X.w X.K X.mg X.base k N q params body scope fb)(hk:k+2<=n)(hN4:N.length<=4)(C:MD X.base c Pt)(hT:X.H₀ Pt=some (.gT (.inl q)))(Jw:Bm X.mg X.base)(Lk:X.fn=λ_=>true)(hd:defaultsOf params X.env=([],[]))(KA:closureFor scope X.env=pure cl)(Jg:X.env.code=.ref c)(hq:X.env.qual ++ "<lambda>"=q)(S:gi N scope cl)(Ji:wL X.env.cells cl)(hnj:NJ X.N X.env.scope.names N js)(IF:autoParam ↑7 aD._auto_1)(he:autoParam (starEach [.Lambda params body scope lp] X.env=(false,eval (.Lambda params body scope lp) X.env)::starEach [] X.env) aR._auto_1)(Iu:autoParam ((backTo pos (starEach [] X.env)).any (·.1)=false) aR._auto_1):PE X (.Call (.Name x p) [.Lambda params body scope lp] [] pos) (tE E (h_ js sem fb)) :=
 F.call hr hn hg O L hk hN4 hd KA Jg C hq hT Jw S (λy a e=>⟨Ji.sub y a e,by rw[Lk]⟩) hnj.len hnj.at_ IF he Iu
end
def zt:Nat->(List Value->Prop)->Prop
 | 0,P=>P []
 |n+1,P=>∀a,zt n λl=>P (a::l)
theorem qy:∀{n:Nat}{P:List Value->Prop},zt n P->∀us:List Value,us.length=n->P us
 | 0,_,h,[],_=>h
 |n+1,_,h,a::r,e=>qy (h a) r (P9 e)
section
variable{K:LI}{sem:List PV->M PV}{tO:List PV->M (List PV)}
def kD(P:Program)(w:World)(base:Heap)(X:K.In h)(G:h.Ns mainGlobals mg)(a c:Addr)(s:Value)(ok:ba K x q t .none a (qH x q t s c)->aT P w K mg base (bB P w) n a (qH x q t s c) ps (eT m (aW m sem)))(h1:autoParam (K.lookup a=some ⟨.type "function",none,.func (qH x q t s c),⟨[]⟩⟩) aK._auto_1)(h2:autoParam (Nf K (.ref c) q=true) aK._auto_1)(h3:autoParam (Mi K (.ref a)=true) aK._auto_1)(h4:autoParam (P6 K mainGlobals x=some (some (.ref a))) aK._auto_1)(h5:autoParam (ps.length=m) aR._auto_1)(h6:zt ps.length λus=>bindArgs (qH x q t s c) ⟨us,[]⟩=pure (ps.zip us):=by (repeat intro _);rfl):cn P w K mg base n x m sem :=
 ⟨⟨a,_,ps,R7 X G h4,h3,h5,.all (qy h6),ok (.of h1 h2 h3)⟩⟩
def Hg(P:Program)(w:World)(base:Heap){C:Addr}(cc:ot K C)(a c:Addr)(s:Value)(ok:ba K x q t .none a (qH x q t s c)->aT P w K mg base (bB P w) n a (qH x q t s c) ps (eT m (aW m sem)))(h1:autoParam (K.lookup a=some ⟨.type "function",none,.func (qH x q t s c),⟨[]⟩⟩) aK._auto_1)(h2:autoParam (Nf K (.ref c) q=true) aK._auto_1)(h3:autoParam (Mi K (.ref a)=true) aK._auto_1)(h4:autoParam (Ms K (.ref C) x=some (some (.ref a))) aK._auto_1)(h5:autoParam (N2 K (.ref a)=true) aK._auto_1)(h6:zt ps.length λus=>bindArgs (qH x q t s c) ⟨us,[]⟩=pure (ps.zip us):=by (repeat intro _);rfl):wV P w K mg base C n x m sem :=
 ⟨⟨a,_,ps,cc,⟨h4,h5,h3⟩,.all (qy h6),ok (.of h1 h2 h3)⟩⟩
end
def ba.jy{K:LI}{st:Stmt}{g:af->M Out}(F:ba K x qual st dv f fd)(N:List Str)(hb:N.Nodup->∀(Ig:Value)(A:Around)(outer:List Env)(s:Shared)(H:Hp)(E:XK),bD k (A.deeper (envOfC qual (au st) s.heap.objs.size f Ig))->dh ((eQ (bB P w) P w K mg base N qual (au st) f Ig A outer s H E).out λ_=>E) (λ_=>E)->i7 ((eQ (bB P w) P w K mg base N qual (au st) f Ig A outer s H E).out λ_=>E) (cR st) (tS E g))(S:bg N ps (au st):=by exact .of):aT P w K mg base (bB P w) (k+1) f fd ps (eT ps.length (aW ps.length (ay N.length g))):=F.HC S (hb S.nd)
end L2
namespace l_
open PySem L2 PyProof.Rows
def dj:Addr:=423
def bY:Addr:=419
def cL:Addr:=435
def bH:Addr:=433
def cZ:Addr:=440
def bQ:Addr:=438
def eD:Addr:=447
def cS:Addr:=443
abbrev ts:oG:=[(dj,bY,("_law_turned" ++ ".<locals>." ++ "<lambda>")),(cL,bH,("_law_pulled" ++ ".<locals>." ++ "<lambda>")),(cZ,bQ,("_law_between" ++ ".<locals>." ++ "<lambda>")),(eD,cS,("_law_kept" ++ ".<locals>." ++ "<lambda>"))]
def dO:Addr:=65
def aY:Addr:=91
def cw:Addr:=117
def bw:Addr:=155
def aQ:Addr:=136
def eh:Addr:=174
def aL:Addr:=246
def kz:Addr:=38
def c8:List Addr:=[dO,aY,cw,bw,aQ,eh]
def c5:List Addr:=[]
def eZ:List Addr:=[aY]
def e_:List Addr:=[dO,cw,bw,aQ,eh]
def iA:List Addr:=[]
def hW:List Addr:=[]
def gj:List Addr:=[bw]
def gv:List Addr:=[dO,aY,cw,aQ,eh]
def jH:List Addr:=[]
def jD:List Addr:=[]
def eI:List Addr:=[aQ]
def eA:List Addr:=[dO,aY,cw,bw,eh]
def iH:List Addr:=[]
def iC:List Addr:=[]
def i0:List Addr:=[aY,cw]
abbrev cI(i:Int):af->M PV:=λ_=>M.ok (.int i)
def gk:af->M Out :=
 (ao (retS (oz (iV (λa=>dH a "int") dF dF (ae 0)) (Aa (iV (λa=>dH a "bool") dF dF (ae 0)))))
 aj)
def du:List PV->M PV:=aW 1 (ay 1 gk)
def gm:af->M Out :=
 (ao (dY (ux (cm (bO (iV (λa=>["list","tuple"].any λt=>dH a t) dF dF (ae 0)))) (bO (ak qF (ah bV (aa (ae 0) ai)) (ae 1)))) (ao (retS (λ_=>M.ok (.bl false)))
 aj) aj)
 (ao (retS (ah sD (aa (eV (dS (itemsOf (ae 0)) (dg 0) none (ah du (aa (ae 0) ai)) 1 [])) ai)))
 aj))
def dq:List PV->M PV:=aW 2 (ay 2 gm)
def j6:af->M Out :=
 (ao (aX 2 (de (aa (ae 0) (aa (cI 1) (aa (cI 0) ai)))))
 (ao (aX 3 (de (aa (ae 1) (aa (cI 0) (aa (cI 1) ai)))))
 (ao (nF (bO (ak qF (ak aO (ae 3) (cI 0)) (cI 0))) (ao (aX 4 (ak fG (ak aO (ae 2) (cI 0)) (ak aO (ae 3) (cI 0))))
 (ao (aX 5 (de (aa (ak jN (ak aO (ae 2) (cI 0)) (ak cG (ae 4) (ak aO (ae 3) (cI 0)))) (aa (ak jN (ak aO (ae 2) (cI 1)) (ak cG (ae 4) (ak aO (ae 3) (cI 1)))) (aa (ak jN (ak aO (ae 2) (cI 2)) (ak cG (ae 4) (ak aO (ae 3) (cI 2)))) ai)))))
 (ao (aX 2 (ae 3))
 (ao (aX 3 (ae 5))
 aj)))))
 (ao (dY (bO (ak uQ (ak aO (ae 2) (cI 0)) (cI 0))) (ao (retS (de (aa (k7 (ak aO (ae 2) (cI 0))) (aa (k7 (ak aO (ae 2) (cI 1))) (aa (k7 (ak aO (ae 2) (cI 2))) ai)))))
 aj) aj)
 (ao (retS (ae 2))
 aj)))))
def j5:List PV->M PV:=aW 2 (ay 6 j6)
def fw:af->M Out :=
 (ao (aX 1 (cI 1))
 (ao (ko (itemsOf (ae 0)) (dg 2) (ao (aX 1 (ak cG (ak fG (ae 1) (ak aO (ah j5 (aa (ae 1) (aa (ae 2) ai))) (cI 0))) (ae 2)))
 aj))
 (ao (retS (ae 1))
 aj)))
def fq:List PV->M PV:=aW 1 (ay 3 fw)
def dr:af->M Out :=
 (ao (retS (oz (ah du (aa (ae 0) ai)) (fM we we (ae 1) (ae 0) (ae 2))))
 aj)
def cQ:List PV->M PV:=aW 3 (ay 3 dr)
def fY:af->M Out :=
 (ao (dY (bO (ak Bs (ah bV (aa (ae 0) ai)) (cI 6))) (ao (e7 eh (aa (λ_=>M.ok (.str "a vault has at most six dials")) ai))
 aj) aj)
 (ao (dY (bO (ak gO (ah bV (aa (ae 0) ai)) (cI 0))) (ao (gQ dO "dial" (aa (cI 0) ai))
 aj) aj)
 (ao (ko (k8 D3 (aa (ae 0) ai)) (gP 1 2) (ao (dY (cm (bO (ah cQ (aa (ae 2) (aa (cI 2) (aa (cI 360) ai)))))) (ao (gQ dO "dial" (aa (ae 1) ai))
 aj) aj)
 aj))
 aj)))
def fW:List PV->M PV:=aW 1 (ay 3 fY)
def ff:af->M Out :=
 (ao (dY (bO (ak Bs (ah bV (aa (ae 0) ai)) (cI 8))) (ao (e7 eh (aa (λ_=>M.ok (.str "a vault has at most eight levers")) ai))
 aj) aj)
 (ao (ko (k8 D3 (aa (ae 0) ai)) (gP 2 3) (ao (dY (cm (bO (ah dq (aa (ae 3) (aa (ae 1) ai))))) (ao (gQ aY "lever" (aa (ae 2) ai))
 aj) aj)
 aj))
 aj))
def fu:List PV->M PV:=aW 2 (ay 4 ff)
def fX:af->M Out :=
 (ao (dY (bO (ak lY (ae 1) (λ_=>M.ok .bz))) (ao (retS (ak cG (de (aa (cI 1) ai)) (ah bV (aa (ae 0) ai))))
 aj) aj)
 (ao (ko (k8 ip (aa (ah (qT λi j=>if j>i then j else i) (aa (ah bV (aa (ae 0) ai)) (aa (ah bV (aa (ae 1) ai)) ai))) ai)) (dg 2) (ao (dY (ux (bO (ak DK (ae 2) (ah bV (aa (ae 0) ai)))) (bO (ak DK (ae 2) (ah bV (aa (ae 1) ai))))) (ao (gQ cw "lever" (aa (ae 2) ai))
 aj) aj)
 (ao (dY (cm (bO (ah cQ (aa (ak aO (ae 1) (ae 2)) (aa (cI 1) (aa (cI 1000) ai)))))) (ao (gQ cw "lever" (aa (ae 2) ai))
 aj) aj)
 aj)))
 (ao (retS (ah fK (aa (ae 1) ai)))
 aj)))
def eO:List PV->M PV:=aW 2 (ay 3 fX)
def iD:af->M Out :=
 (ao (retS (ah fK (aa (eV (dS (k8 zip2 (aa (ae 0) (aa (ae 1) ai))) (gP 0 1) none (ak da (ae 0) (ae 1)) 2 [])) ai)))
 aj)
def gJ:List PV->M PV:=aW 2 (ay 2 iD)
def fE:af->M Out :=
 (ao (dY (bO (ak uQ (ae 1) (ah bV (aa (ae 0) ai)))) (ao (retS (ak aO (ae 0) (ae 1)))
 aj) aj)
 (ao (aX 2 (ak dC (ak cG (cI 7919) (ae 1)) (cI 5)))
 (ao (dY (bO (ak Bs (ah bV (aa (ae 0) ai)) (cI 0))) (ao (aX 2 (ak da (ak dC (ak aO (ae 0) (ak da (ak cG (cI 7) (ae 1)) (ah bV (aa (ae 0) ai)))) (ak cG (cI 7919) (ae 1))) (cI 2147483647)))
 aj) aj)
 (ao (retS (ak da (ak cG (ae 2) (ae 2)) (cI 2147483629)))
 aj))))
def bA:List PV->M PV:=aW 2 (ay 3 fE)
def bZ:af->M Out :=
 (ao (aX 2 (ak da (ak dC (ak dC (ae 0) (ak cG (cI 7919) (ae 1))) (cI 11)) (cI 2147483647)))
 (ao (aX 2 (ak da (ak dC (ak cG (ae 2) (ae 2)) (ak cG (cI 48271) (ae 1))) (cI 2147483629)))
 (ao (retS (ak da (ak dC (ak dC (ak cG (ae 2) (ae 2)) (ak cG (cI 7) (ae 2))) (ae 1)) (cI 2147483587)))
 aj)))
def aC:List PV->M PV:=aW 2 (ay 3 bZ)
def cx(rS:List PV->M PV):af->M Out :=
 (ao (dY (bO (iV (λa=>["list","tuple"].any λt=>dH a t) dF dF (ae 1))) (ao (dY (ux (bO (ak qF (iV (λa=>dH a "list") dF dF (ae 1)) (iV (λa=>dH a "list") dF dF (ae 0)))) (cm (bO (iV (λa=>["list","tuple"].any λt=>dH a t) dF dF (ae 0))))) (ao (retS (λ_=>M.ok (.bl false)))
 aj) aj)
 (ao (dY (bO (ak qF (ah bV (aa (ae 0) ai)) (ah bV (aa (ae 1) ai)))) (ao (retS (λ_=>M.ok (.bl false)))
 aj) aj)
 (ao (ko (k8 zip2 (aa (ae 0) (aa (ae 1) ai))) (gP 2 3) (ao (dY (cm (bO (ah (aW 2 rS) (aa (ae 2) (aa (ae 3) ai))))) (ao (retS (λ_=>M.ok (.bl false)))
 aj) aj)
 aj))
 (ao (retS (λ_=>M.ok (.bl true)))
 aj)))) aj)
 (ao (dY (bO (ak lY (ae 1) (λ_=>M.ok .bz))) (ao (retS (ak lY (ae 0) (λ_=>M.ok .bz)))
 aj) aj)
 (ao (dY (bO (iV (λa=>dH a "str") dF dF (ae 1))) (ao (retS (oz (iV (λa=>dH a "str") dF dF (ae 0)) (ak gO (ae 0) (ae 1))))
 aj) aj)
 (ao (retS (oz (iV (λa=>dH a "int") dF dF (ae 0)) (oz (Aa (iV (λa=>dH a "bool") dF dF (ae 0))) (ak gO (ae 0) (ae 1)))))
 aj))))
def aJ:Nat->List PV->M PV
 | 0=>λ_=>none
 |n+1=>ay 4 (cx (aJ n))
def bK:List PV->M PV:=aW 2 (aJ 3)
def c7:af->M Out :=
 (ao (aX 2 (ah aC (aa (ae 0) (aa (ae 1) ai))))
 (ao (dY (bO (ak gO (ak da (ae 2) (cI 3)) (cI 0))) (ao (retS (ak jN (ak da (ak fG (ae 2) (cI 3)) (cI 9)) (cI 4)))
 aj) aj)
 (ao (dY (bO (ak gO (ak da (ae 2) (cI 3)) (cI 1))) (ao (retS (ak da (ak fG (ae 2) (cI 3)) (cI 720)))
 aj) aj)
 (ao (aX 3 (ak dC (ak cG (ak da (ah aC (aa (ae 0) (aa (ak dC (ae 1) (cI 61)) ai))) (ak rm (cI 10) (cI 9))) (ak rm (cI 10) (cI 20))) (ae 2)))
 (ao (retS (ak aO (iX (aa (ae 3) (aa (ak jN (cI 0) (ae 3)) ai))) (ak da (ak fG (ae 2) (cI 3)) (cI 2))))
 aj)))))
def bF:List PV->M PV:=aW 2 (ay 4 c7)
def gb:af->M Out :=
 (ao (wb 1 (o4 ai))
 (ao (ko (k8 ip (aa (ak dC (cI 1) (ak da (ae 0) (cI 6))) ai)) (dg 2) (ao (aX 3 (ah aC (aa (ae 0) (aa (ae 2) ai))))
 (ao (tK 1 (ak dC (cI 2) (ak da (ak fG (ae 3) (cI 4)) (ak aO (λ_=>M.ok (.lst (([359,11,5,359]:List Int).map PV.int))) (ak da (ae 3) (cI 4))))))
 aj)))
 (ao (wH [1] (retS (ae 1)))
 aj)))
def eJ:List PV->M PV:=aW 1 (ay 4 gb)
def fx:af->M Out :=
 (ao (wb 4 (o4 ai))
 (ao (ko (k8 ip (aa (ae 2) ai)) (dg 5) (ao (tK 4 (eV (dS (k8 ip (aa (ae 3) ai)) (dg 0) none (ah bF (aa (ah bA (aa (ae 1) (aa (ak dC (ae 2) (ae 3)) ai))) (aa (ae 0) ai))) 1 [0,1,5])))
 aj))
 (ao (wH [4] (retS (ae 4)))
 aj)))
def dR:List PV->M PV:=aW 4 (ay 6 fx)
def dz:af->M Out :=
 (ao (dY (bO (ak uQ (ae 2) (cI 0))) (ao (retS (ah fK (aa (eV (dS (k8 ip (aa (ah bV (aa (ae 1) ai)) ai)) (dg 0) none (ak da (ah aC (aa (ae 1) (aa (ak dC (cI 7) (ae 0)) ai))) (ak aO (ae 2) (ae 0))) 1 [0,1])) ai)))
 aj) aj)
 (ao (retS (ah fK (aa (eV (dS (k8 ip (aa (ae 2) ai)) (dg 0) none (ah bF (aa (ae 1) (aa (ak dC (cI 7) (ae 0)) ai))) 1 [0])) ai)))
 aj))
def bX:List PV->M PV:=aW 3 (ay 3 dz)
def bL:af->M Out :=
 (ao (dY (bO (ak Bs (ak da (ae 1) (cI 5)) (cI 0))) (ao (retS (ae 0))
 aj) aj)
 (ao (aX 3 (iX (aa (ah pC (aa (ae 0) ai)) (aa (ak dC (ae 0) (de (aa (cI 0) ai))) (aa (pV (ae 0) (qA (cI 1)) zL) (aa (λ_=>M.ok .bz) (aa (λ_=>M.ok (.str "0")) (aa (ak cG (de (aa (λ_=>M.ok (.bl true)) ai)) (ah bV (aa (ae 0) ai))) (aa (ak dC (pV (ae 0) zL (qA (k7 (cI 1)))) (de (aa (λ_=>M.ok (.str "1")) ai))) (aa (ah fK (aa (ae 2) ai)) ai))))))))))
 (ao (retS (ak aO (ae 3) (ak da (ak fG (ae 1) (cI 5)) (cI 8))))
 aj)))
def bb:List PV->M PV:=aW 3 (ay 4 bL)
def bq:af->M Out :=
 (ao (dY (ux (cm (bO (iV (λa=>["list","tuple"].any λt=>dH a t) dF dF (ae 0)))) (bO (ak qF (ah bV (aa (ae 0) ai)) (ae 1)))) (ao (retS (λ_=>M.ok (.bl false)))
 aj) aj)
 (ao (retS (ak gO (ah bV (aa (eV (dS (itemsOf (ae 0)) (dg 0) (some (ux (cm (bO (iV (λa=>dH a "int") dF dF (ae 0)))) (bO (iV (λa=>dH a "bool") dF dF (ae 0))))) (ae 0) 1 [])) ai)) (cI 0)))
 aj))
def aE:List PV->M PV:=aW 2 (ay 2 bq)
def bo:af->M Out :=
 (ao (dY (ux (cm (bO (iV (λa=>dH a "tuple") dF dF (ae 0)))) (cm (bO (ah aE (aa (ae 0) (aa (ah bV (aa (ae 1) ai)) ai)))))) (ao (retS (λ_=>M.ok (.bl false)))
 aj) aj)
 (ao (retS (ak gO (ah bV (aa (eV (dS (k8 ip (aa (ah bV (aa (ae 1) ai)) ai)) (dg 0) (some (cm (bO (fM we uQ (cI 0) (ak aO (ae 1) (ae 0)) (ak aO (ae 2) (ae 0)))))) (ae 0) 1 [0,1])) ai)) (cI 0)))
 aj))
def aP:List PV->M PV:=aW 2 (ay 2 bo)
def cy:af->M Out :=
 (ao (retS (ah fK (aa (eV (dS (k8 ip (aa (ah bV (aa (ae 0) ai)) ai)) (dg 0) none (ak da (ak aO (ae 2) (ae 0)) (ak aO (ae 1) (ae 0))) 1 [0,1])) ai)))
 aj)
def bu:List PV->M PV:=aW 2 (ay 2 cy)
def bG(av:af->M PV):af->M Out :=
 (ao (aX 1 (λ_=>M.ok .bz))
 (ao (aX 2 (λ_=>M.ok .bz))
 (ao (zK (aX 1 av) [(lC c8 c5,some 3,(ao (aX 2 (ae 3))
 aj))])
 (ao (dY (bO (ak lY (ae 2) (λ_=>M.ok .bz))) (ao (retS (de (aa (λ_=>M.ok (.str "told")) (aa (ae 1) ai))))
 aj) aj)
 (ao (aX 4 (iX (aa (iV (λ_=>false) (lC iH iC) (lC eI eA) (ae 2)) (aa (iV (λ_=>false) (lC jH jD) (lC gj gv) (ae 2)) (aa (iV (λ_=>false) (lC iA hW) (lC eZ e_) (ae 2)) ai)))))
 (ao (dY (bO (ak qF (Ce (ae 4) (λ_=>M.ok (.bl true))) (λ_=>M.ok (.int 1)))) (ao (retS (de (aa (λ_=>M.ok (.str "other")) ai)))
 aj) aj)
 (ao (dY (bO (iV (λ_=>false) (lC iA hW) (lC eZ e_) (ae 2))) (ao (retS (de (aa (λ_=>M.ok (.str "lever")) (aa (FG i0 "lever" (ae 2)) ai))))
 aj) aj)
 (ao (retS (ak aO (iX (aa (de (aa (λ_=>M.ok (.str "setting")) ai)) (aa (de (aa (λ_=>M.ok (.str "pulls")) ai)) ai))) (yB (ae 4) (λ_=>M.ok (.bl true)))))
 aj))))))))
def aH:M PV->M PV:=λask=>(bG (λ_=>ask) (i_ 9 [.bz])).bind iU
def fD:af->M Out :=
 (ao (dY (bO (iV (λa=>dH a "list") dF dF (ae 0))) (ao (retS (ah pC (aa (ae 0) ai)))
 aj) aj)
 (ao (retS (ae 0))
 aj))
def dy:List PV->M PV:=aW 1 (ay 1 fD)
def iI:af->M Out :=
 (ao (jx (ah fW (aa (ae 1) ai)))
 (ao (jx (ah fu (aa (ae 2) (aa (ah bV (aa (ae 1) ai)) ai))))
 (ao (pO 0 aL "dial_sizes" (ah fK (aa (ae 1) ai)))
 (ao (pO 0 aL "lever_settings" (ah fK (aa (eV (dS (itemsOf (ae 2)) (dg 0) none (ah gJ (aa (ae 0) (aa (ae 1) ai))) 1 [1])) ai)))
 (ao (pO 0 aL "lever_prices" (ah eO (aa (ae 2) (aa (ae 3) ai))))
 (ao (pO 0 aL "least_round" (ah fq (aa (ae 1) ai)))
 aj))))))
def gM:Addr->List PV->M (List (Str×PV)):=sW 4 (zY 4 iI aL)
def c9:af->M Out :=
 (ao (retS (wq (λc=>c==aL) "dial_sizes" (ae 0)))
 aj)
def cD:List PV->M PV:=aW 1 (ay 1 c9)
def bW:af->M Out :=
 (ao (retS (wq (λc=>c==aL) "lever_settings" (ae 0)))
 aj)
def bJ:List PV->M PV:=aW 1 (ay 1 bW)
def eM:af->M Out :=
 (ao (aX 2 (fQ aL "sizes" cD (ae 0) ai))
 (ao (dY (ux (cm (bO (iV (λa=>dH a "tuple") dF dF (ae 1)))) (cm (bO (ah dq (aa (ae 1) (aa (ah bV (aa (ae 2) ai)) ai)))))) (ao (retS (λ_=>M.ok (.bl false)))
 aj) aj)
 (ao (retS (ah sD (aa (eV (dS (k8 zip2 (aa (ae 1) (aa (ae 2) ai))) (gP 0 1) none (fM we uQ (cI 0) (ae 0) (ae 1)) 2 [])) ai)))
 aj)))
def bh:List PV->M PV:=aW 2 (ay 3 eM)
def il:af->M Out :=
 (ao (retS (oz (iV (λa=>dH a "tuple") dF dF (ae 1)) (ah dq (aa (ae 1) (aa (ah bV (aa (fQ aL "levers" bJ (ae 0) ai) ai)) ai)))))
 aj)
def iz:List PV->M PV:=aW 2 (ay 2 il)
def cb:af->M Out :=
 (ao (dY (cm (bO (ah bh (aa (ae 0) (aa (ae 1) ai))))) (ao (e7 aQ (aa (λ_=>M.ok (.str "this is no setting of the vault")) ai))
 aj) aj)
 aj)
def bp:List PV->M PV:=aW 2 (ay 2 cb)
def eG:af->M Out :=
 (ao (dY (cm (bO (ah iz (aa (ae 0) (aa (ae 1) ai))))) (ao (e7 bw (aa (λ_=>M.ok (.str "these are no pulls of the vault")) ai))
 aj) aj)
 aj)
def dE:List PV->M PV:=aW 2 (ay 2 eG)
def mP:af->M Out :=
 (ao (aX 2 (fQ aL "sizes" cD (ae 0) ai))
 (ao (dY (cm (bO (ah dq (aa (ae 1) (aa (ah bV (aa (ae 2) ai)) ai))))) (ao (e7 aQ (aa (λ_=>M.ok (.str "this is not one whole number for each dial")) ai))
 aj) aj)
 (ao (retS (ah gJ (aa (ae 1) (aa (ae 2) ai))))
 aj)))
def jE:List PV->M PV:=aW 2 (ay 3 mP)
def jk:af->M Out :=
 (ao (aX 4 (eV (dS (k8 zip2 (aa (ae 1) (aa (ae 2) ai))) (gP 0 1) none (ak dC (ae 0) (ak cG (ae 2) (ae 1))) 2 [3])))
 (ao (retS (ah gJ (aa (ae 4) (aa (fQ aL "sizes" cD (ae 0) ai) ai))))
 aj))
def jj:List PV->M PV:=aW 4 (ay 5 jk)
def gZ:af->M Out :=
 (ao (jx (ah bp (aa (ae 0) (aa (ae 1) ai))))
 (ao (jx (ah dE (aa (ae 0) (aa (ae 2) ai))))
 (ao (aX 3 (ae 1))
 (ao (ko (k8 zip2 (aa (fQ aL "levers" bJ (ae 0) ai) (aa (ae 2) ai))) (gP 4 5) (ao (aX 3 (ah jj (aa (ae 0) (aa (ae 3) (aa (ae 4) (aa (ae 5) ai))))))
 aj))
 (ao (retS (ae 3))
 aj)))))
def fz:List PV->M PV:=aW 3 (ay 6 gZ)
def dP:af->M Out :=
 (ao (jx (ah bp (aa (ae 0) (aa (ae 1) ai))))
 (ao (aX 4 (fQ aL "levers" bJ (ae 0) ai))
 (ao (dY (cm (bO (ah cQ (aa (ae 2) (aa (cI 0) (aa (ak jN (ah bV (aa (ae 4) ai)) (cI 1)) ai)))))) (ao (gQ aY "lever" (aa (ae 2) ai))
 aj) aj)
 (ao (dY (cm (bO (ah du (aa (ae 3) ai)))) (ao (e7 bw (aa (λ_=>M.ok (.str "a lever is pulled a whole number of times")) ai))
 aj) aj)
 (ao (retS (ah jj (aa (ae 0) (aa (ae 1) (aa (ak aO (ae 4) (ae 2)) (aa (ae 3) ai))))))
 aj)))))
def cO:List PV->M PV:=aW 4 (ay 5 dP)
def gf:af->M Out :=
 (ao (jx (ah bp (aa (ae 0) (aa (ae 1) ai))))
 (ao (jx (ah bp (aa (ae 0) (aa (ae 2) ai))))
 (ao (retS (ah jj (aa (ae 0) (aa (ae 2) (aa (ae 1) (aa (k7 (cI 1)) ai))))))
 aj)))
def d_:List PV->M PV:=aW 3 (ay 3 gf)
def c6:af->M Out :=
 (ao (aX 4 (ah bb (aa (ah bX (aa (ae 3) (aa (ae 1) (aa (k7 (cI 1)) ai)))) (aa (ah aC (aa (ae 3) (aa (cI 31) ai))) (aa (ae 1) ai)))))
 (ao (aX 5 (ah bb (aa (ah bX (aa (ak fG (ae 3) (cI 5)) (aa (ae 1) (aa (ah bV (aa (ae 2) ai)) ai)))) (aa (ah aC (aa (ae 3) (aa (cI 32) ai))) (aa (ae 1) ai)))))
 (ao (aX 6 (iX (aa (ah dy (aa (ae 4) ai)) (aa (ah dy (aa (ae 5) ai)) ai))))
 (ao (aX 7 (h_ [0,4,5] aH (ah fz (aa (ae 0) (aa (ae 1) (aa (ae 2) ai))))))
 (ao (dY (bO (ak qF (iX (aa (ae 4) (aa (ae 5) ai))) (ae 6))) (ao (retS (λ_=>M.ok (.bl false)))
 aj) aj)
 (ao (dY (cm (bO (ah aP (aa (ae 4) (aa (ae 1) ai))))) (ao (retS (ak gO (ae 7) (de (aa (λ_=>M.ok (.str "setting")) ai))))
 aj) aj)
 (ao (dY (ux (cm (bO (iV (λa=>dH a "tuple") dF dF (ae 5)))) (cm (bO (ah aE (aa (ae 5) (aa (ah bV (aa (ae 2) ai)) ai)))))) (ao (retS (ak gO (ae 7) (de (aa (λ_=>M.ok (.str "pulls")) ai))))
 aj) aj)
 (ao (wb 8 (yS (ae 4)))
 (ao (ko (k8 ip (aa (ah bV (aa (ae 2) ai)) ai)) (dg 9) (ao (ko (k8 ip (aa (ah bV (aa (ae 1) ai)) ai)) (dg 10) (ao (EY 8 (ae 10) (sC 8 (ak dC (ak aO (ae 8) (ae 10)) (ak cG (ak aO (ak aO (ae 2) (ae 9)) (ae 10)) (ak aO (ae 5) (ae 9))))))
 aj))
 aj))
 (ao (wH [8] (retS (ah bK (aa (ae 7) (aa (de (aa (λ_=>M.ok (.str "told")) (aa (ah bu (aa (ae 1) (aa (ae 8) ai))) ai))) ai)))))
 aj))))))))))
def fm:List PV->M PV:=aW 4 (ay 11 c6)
def cC:af->M Out :=
 (ao (aX 4 (ah bb (aa (ah bX (aa (ae 3) (aa (ae 1) (aa (k7 (cI 1)) ai)))) (aa (ah aC (aa (ae 3) (aa (cI 31) ai))) (aa (ae 1) ai)))))
 (ao (aX 5 (ah aC (aa (ae 3) (aa (cI 33) ai))))
 (ao (aX 6 (ak da (ak fG (ae 5) (cI 8)) (ak dC (ah bV (aa (ae 2) ai)) (cI 1))))
 (ao (dY (bO (ak gO (ak da (ae 5) (cI 8)) (cI 0))) (ao (aX 6 (ak aO (iX (aa (k7 (cI 1)) (aa (ah bV (aa (ae 2) ai)) (aa (λ_=>M.ok (.bl true)) (aa (λ_=>M.ok .bz) (aa (λ_=>M.ok (.str "0")) (aa (de (aa (cI 0) ai)) (aa (ak dC (ak rm (cI 10) (cI 29)) (ae 5)) (aa (ak jN (cI 0) (ae 5)) ai))))))))) (ak da (ak fG (ae 5) (cI 8)) (cI 8))))
 aj) aj)
 (ao (aX 7 (ah bF (aa (ae 3) (aa (cI 34) ai))))
 (ao (dY (bO (ak gO (ak da (ah aC (aa (ae 3) (aa (cI 35) ai))) (cI 8)) (cI 0))) (ao (aX 7 (ak aO (iX (aa (λ_=>M.ok (.bl true)) (aa (λ_=>M.ok .bz) (aa (λ_=>M.ok (.str "1")) (aa (de (aa (cI 1) ai)) (aa (iX (aa (cI 1) ai)) ai)))))) (ak da (ak fG (ah aC (aa (ae 3) (aa (cI 35) ai))) (cI 8)) (cI 5))))
 aj) aj)
 (ao (aX 8 (h_ [0,4,6,7] aH (ah cO (aa (ae 0) (aa (ae 1) (aa (ae 2) (aa (ae 3) ai)))))))
 (ao (dY (bO (ak gO (ak da (ah aC (aa (ae 3) (aa (cI 36) ai))) (cI 4)) (cI 0))) (ao (aX 7 (cI 1))
 (ao (aX 8 (h_ [0,4,6] aH (ah (λps=>cO (ps++[.int 1])) (aa (ae 0) (aa (ae 1) (aa (ae 2) ai))))))
 aj)) aj)
 (ao (dY (cm (bO (ah aP (aa (ae 4) (aa (ae 1) ai))))) (ao (retS (ak gO (ae 8) (de (aa (λ_=>M.ok (.str "setting")) ai))))
 aj) aj)
 (ao (dY (ux (cm (bO (ah aE (aa (iX (aa (ae 6) ai)) (aa (cI 1) ai))))) (cm (bO (fM we uQ (cI 0) (ae 6) (ah bV (aa (ae 2) ai)))))) (ao (retS (oz (ak gO (ae 8) (de (aa (λ_=>M.ok (.str "lever")) (aa (ae 6) ai)))) (ak gO (iV (λa=>dH a "bool") dF dF (ak aO (ae 8) (cI 1))) (iV (λa=>dH a "bool") dF dF (ae 6)))))
 aj) aj)
 (ao (dY (cm (bO (ah aE (aa (iX (aa (ae 7) ai)) (aa (cI 1) ai))))) (ao (retS (ak gO (ae 8) (de (aa (λ_=>M.ok (.str "pulls")) ai))))
 aj) aj)
 (ao (aX 9 (eV (dS (k8 ip (aa (ah bV (aa (ae 1) ai)) ai)) (dg 0) none (ak dC (ak aO (ae 2) (ae 0)) (ak cG (ae 4) (ak aO (ak aO (ae 1) (ae 3)) (ae 0)))) 1 [2,4,6,7])))
 (ao (retS (ah bK (aa (ae 8) (aa (de (aa (λ_=>M.ok (.str "told")) (aa (ah bu (aa (ae 1) (aa (ae 9) ai))) ai))) ai))))
 aj)))))))))))))
def fg:List PV->M PV:=aW 4 (ay 10 cC)
def cM:af->M Out :=
 (ao (aX 3 (ah bb (aa (ah bX (aa (ae 2) (aa (ae 1) (aa (k7 (cI 1)) ai)))) (aa (ah aC (aa (ae 2) (aa (cI 31) ai))) (aa (ae 1) ai)))))
 (ao (aX 4 (ah bb (aa (ah bX (aa (ak fG (ae 2) (cI 3)) (aa (ae 1) (aa (k7 (cI 1)) ai)))) (aa (ah aC (aa (ae 2) (aa (cI 32) ai))) (aa (ae 1) ai)))))
 (ao (aX 5 (h_ [0,3,4] aH (ah d_ (aa (ae 0) (aa (ae 1) (aa (ae 2) ai))))))
 (ao (dY (ux (cm (bO (ah aP (aa (ae 3) (aa (ae 1) ai))))) (cm (bO (ah aP (aa (ae 4) (aa (ae 1) ai)))))) (ao (retS (ak gO (ae 5) (de (aa (λ_=>M.ok (.str "setting")) ai))))
 aj) aj)
 (ao (retS (ah bK (aa (ae 5) (aa (de (aa (λ_=>M.ok (.str "told")) (aa (ah bu (aa (ae 1) (aa (eV (dS (k8 ip (aa (ah bV (aa (ae 1) ai)) ai)) (dg 0) none (ak jN (ak aO (ae 2) (ae 0)) (ak aO (ae 1) (ae 0))) 1 [3,4])) ai))) ai))) ai))))
 aj)))))
def eB:List PV->M PV:=aW 3 (ay 6 cM)
def ed:af->M Out :=
 (ao (aX 3 (ah bb (aa (ah bX (aa (ae 2) (aa (ae 1) (aa (ah bV (aa (ae 1) ai)) ai)))) (aa (ah aC (aa (ae 2) (aa (cI 31) ai))) (aa (ae 1) ai)))))
 (ao (dY (mw (bO (ak gO (ak da (ah aC (aa (ae 2) (aa (cI 37) ai))) (cI 2)) (cI 0))) (bO (iV (λa=>dH a "tuple") dF dF (ae 3)))) (ao (aX 3 (ah pC (aa (ae 3) ai)))
 aj) aj)
 (ao (aX 4 (ah dy (aa (ae 3) ai)))
 (ao (aX 5 (h_ [0,3] aH (ah jE (aa (ae 0) (aa (ae 1) ai)))))
 (ao (dY (bO (ak qF (ae 3) (ae 4))) (ao (retS (λ_=>M.ok (.bl false)))
 aj) aj)
 (ao (dY (cm (bO (ah aE (aa (ae 3) (aa (ah bV (aa (ae 1) ai)) ai))))) (ao (retS (ak gO (ae 5) (de (aa (λ_=>M.ok (.str "setting")) ai))))
 aj) aj)
 (ao (retS (ah bK (aa (ae 5) (aa (de (aa (λ_=>M.ok (.str "told")) (aa (ah bu (aa (ae 1) (aa (ae 3) ai))) ai))) ai))))
 aj)))))))
def gD:List PV->M PV:=aW 3 (ay 6 ed)
def uM:af->M Out :=
 (ao (aX 1 (ah eJ (aa (ah aC (aa (ah bA (aa (ae 0) (aa (cI 0) ai))) (aa (cI 1) ai))) ai)))
 (ao (aX 2 (ah dR (aa (ae 0) (aa (cI 2) (aa (ak da (ah aC (aa (ah bA (aa (ae 0) (aa (cI 1) ai))) (aa (cI 2) ai))) (cI 9)) (aa (ah bV (aa (ae 1) ai)) ai))))))
 (ao (aX 3 (ah (nZ aL gM [.bz]) (aa (ae 1) (aa (ae 2) ai))))
 (ao (ko (k8 tj (aa (cI 2) (aa (ah (qT λi j=>if j>i then j else i) (aa (cI 10) (aa (ah (qT λi j=>if j<i then j else i) (aa (cI 32) (aa (ah bV (aa (ae 0) ai)) ai))) ai))) ai))) (dg 4) (ao (aX 5 (ah aC (aa (ah bA (aa (ae 0) (aa (ae 4) ai))) (aa (ae 4) ai))))
 (ao (aX 6 (ak da (ah aC (aa (ae 5) (aa (cI 41) ai))) (cI 4)))
 (ao (dY (mw (bO (ak gO (ae 6) (cI 0))) (cm (bO (ah gD (aa (ae 3) (aa (ae 1) (aa (ae 5) ai))))))) (ao (retS (λ_=>M.ok (.bl false)))
 aj) aj)
 (ao (dY (mw (bO (ak gO (ae 6) (cI 1))) (cm (bO (ah fm (aa (ae 3) (aa (ae 1) (aa (ae 2) (aa (ae 5) ai)))))))) (ao (retS (λ_=>M.ok (.bl false)))
 aj) aj)
 (ao (dY (mw (bO (ak gO (ae 6) (cI 2))) (cm (bO (ah fg (aa (ae 3) (aa (ae 1) (aa (ae 2) (aa (ae 5) ai)))))))) (ao (retS (λ_=>M.ok (.bl false)))
 aj) aj)
 (ao (dY (mw (bO (ak gO (ae 6) (cI 3))) (cm (bO (ah eB (aa (ae 3) (aa (ae 1) (aa (ae 5) ai))))))) (ao (retS (λ_=>M.ok (.bl false)))
 aj) aj)
 aj)))))))
 (ao (retS (ah bK (aa (fQ aL "levers" bJ (ae 3) ai) (aa (ah fK (aa (eV (dS (itemsOf (ae 2)) (dg 0) none (ah bu (aa (ae 1) (aa (ae 0) ai))) 1 [1])) ai)) ai))))
 aj)))))
def pd:List PV->M PV:=aW 1 (ay 7 uM)
end l_
namespace l_
open PySem L2 PyProof.Rows
local macro_rules|`(tactic| walk_at "s")=>`(tactic| exact⟨rfl,rfl,rfl,by decide +kernel,rfl,by decide +kernel,by decide +kernel⟩)
local macro_rules|`(tactic| walk_at "l")=>`(tactic| first|exact .inl rfl|exact .inr rfl)
local macro_rules|`(tactic| walk_at "pp")=>do
 let mut st:Array (Array Lean.Term):=#[#[]]
 for k in "( i7 _ _ ( tS _ ( ao _ _ ) ) ) ( xY 0 0 ) ( i7 _ _ ( tS _ aj ) ) ( AH ) ( PE _ _ ( tE _ ( ae _ ) ) ) ( vr _ ) ( PA _ _ ( tL _ ( aa _ _ ) ) ) ( cA 0 0 0 ) ( PA _ _ ( tL _ ai ) ) ( jF ) ( PE _ _ ( tE _ ( ak dC _ _ ) ) ) ( lb zv DA 0 0 ) ( PE _ _ ( tE _ ( ak jN _ _ ) ) ) ( lb C6 DD 0 0 ) ( PE _ _ ( tE _ ( ak cG _ _ ) ) ) ( lb AO CH 0 0 ) ( PE _ _ ( tE _ ( ak fG _ _ ) ) ) ( lb za yv 0 0 ) ( PE _ _ ( tE _ ( ak da _ _ ) ) ) ( lb zZ zy 0 0 ) ( PE _ _ ( tE _ ( ak rm _ _ ) ) ) ( lb B9 AG 0 0 ) ( PE _ _ ( tE _ ( ak aO _ _ ) ) ) ( C9 0 0 0 ) ( PT _ _ ( tT _ ( bO ( ak gO _ _ ) ) ) ) ( jU ( yY ( bD.units 1 ) ) Bc 0 0 ( eR _ ) ) ( PE _ _ ( tE _ ( ak gO _ _ ) ) ) ( jB ( yY ( bD.units 1 ) ) Bc 0 0 ( eR _ ) ) ( PT _ _ ( tT _ ( bO ( ak qF _ _ ) ) ) ) ( jU ( xA ( bD.units 1 ) ) Bq 0 0 ( eR _ ) ) ( PE _ _ ( tE _ ( ak qF _ _ ) ) ) ( jB ( xA ( bD.units 1 ) ) Bq 0 0 ( eR _ ) ) ( PT _ _ ( tT _ ( bO ( ak uQ _ _ ) ) ) ) ( jU rn my 0 0 ( eR _ ) ) ( PE _ _ ( tE _ ( ak uQ _ _ ) ) ) ( jB rn my 0 0 ( eR _ ) ) ( PT _ _ ( tT _ ( bO ( ak we _ _ ) ) ) ) ( jU n5 jA 0 0 ( eR _ ) ) ( PE _ _ ( tE _ ( ak we _ _ ) ) ) ( jB n5 jA 0 0 ( eR _ ) ) ( PT _ _ ( tT _ ( bO ( ak Bs _ _ ) ) ) ) ( jU Ba xQ 0 0 ( eR _ ) ) ( PE _ _ ( tE _ ( ak Bs _ _ ) ) ) ( jB Ba xQ 0 0 ( eR _ ) ) ( PT _ _ ( tT _ ( bO ( ak DK _ _ ) ) ) ) ( jU Bf yW 0 0 ( eR _ ) ) ( PE _ _ ( tE _ ( ak DK _ _ ) ) ) ( jB Bf yW 0 0 ( eR _ ) ) ( PT _ _ ( tT _ ( bO ( ak lY _ _ ) ) ) ) ( jU wZ yP 0 0 ( eR _ ) ) ( PE _ _ ( tE _ ( ak lY _ _ ) ) ) ( jB wZ yP 0 0 ( eR _ ) ) ( PT _ _ ( tT _ ( cm _ ) ) ) ( Dl 0 ) ( PT _ _ ( tT _ ( bO ( ah _ _ ) ) ) ) ( pS 0 ) ( PT _ _ ( tT _ ( bO ( iV _ _ _ _ ) ) ) ) ( pS 0 ) ( PT _ _ ( tT _ ( bO ( fQ _ _ _ _ _ ) ) ) ) ( pS 0 ) ( PT _ _ ( tT _ ( bO ( ae _ ) ) ) ) ( pS 0 ) ( PS _ _ ( tS _ ( retS _ ) ) ) ( DE 0 ) ( PS _ _ ( tS _ ( dY _ _ _ ) ) ) ( D4 0 0 0 ) ( PS _ _ ( tS _ ( tK _ _ ) ) ) ( wa rfl 5 0 ) ( PS _ _ ( tS _ ( wb _ _ ) ) ) ( AX 1 rfl 4 0 ) ( PE _ _ ( tO _ ( o4 _ ) ) ) ( BC 0 ) ( PS _ _ ( tS _ ( wH _ _ ) ) ) ( C1 _ 0 ) ( PS _ _ ( tS _ ( jx _ ) ) ) ( AJ 0 ) ( PS _ _ ( tS _ ( e7 _ _ ) ) ) ( vq.raise 1 1 rfl 2 0 ) ( PS _ _ ( tS _ ( gQ _ _ _ ) ) ) ( oP.raise 1 1 3 1 rfl 2 0 ) ( PE _ _ ( tE _ ( de _ ) ) ) ( BR 0 ) ( PE _ _ ( tE _ ( iX _ ) ) ) ( zm 0 ) ( PE _ _ ( tE _ ( k7 _ ) ) ) ( BL 0 ) ( PE _ _ ( tE _ ( wq _ _ _ ) ) ) ( B3 0 1 rfl ) ( PE _ _ ( tE _ ( ah bV _ ) ) ) ( jc vE CO 2 1 PySem.boot_len 0 ) ( PE _ _ ( tE _ ( ah fK _ ) ) ) ( pj og ye 2 1 dN 0 ) ( PE _ _ ( tE _ ( ah pC _ ) ) ) ( pj kd zH 2 1 fZ 0 ) ( PE _ _ ( tE _ ( ah sD _ ) ) ) ( jc ( vy rfl ) DB 2 1 CW 0 ) ( PE _ _ ( tE _ ( ah ( nZ _ _ _ ) _ ) ) ) ( Fd.make 1 1 3 2 6 0 ) ( PE _ _ ( tE _ ( ah _ _ ) ) ) ( cn.call 1 1 3 2 6 0 ) ( PE _ _ ( tE _ ( fQ _ _ _ _ ai ) ) ) ( wV.EU 1 1 3 6 0 ) ( PE _ _ ( tE _ ( fQ _ _ _ _ _ ) ) ) ( wV.call 1 1 3 6 0 0 )".splitOn " " do
  if k=="(" then st:=st.push #[]
  else
   let t:Lean.Term<-if k==")" then do
     let a:=st.back!
     st:=st.pop
     if a.size==1 then pure a[0]! else `($(a[0]!) $(a.extract 1 a.size)*)
    else if k=="_" then `(_) else if k=="0" then `(?_) else if k=="1" then `(by assumption) else if k=="2" then `(by rfl) else if k=="3" then `(by lia) else if k=="4" then `(by walk_at "l") else if k=="5" then `(by first|exact .inl rfl|exact .inr (.inl rfl)) else if k=="6" then `(by first|assumption|exact uS) else pure (Lean.mkIdent k.toName)
   st:=st.modify (st.size-1) (·.push t)
 let a:=st[0]!
 let mut c:Array (Lean.TSyntax `Lean.Parser.Tactic.tacticSeq):=#[]
 for i in [0:a.size/2] do c:=c.push (<-`(tacticSeq|((with_reducible show $(a[2*i]!));refine $(a[2*i+1]!))))
 `(tactic|all_goals repeat' (first $[|$c]*|((with_reducible show starEach _ _=_);exact Bt rfl)|((with_reducible show PE _ _ (tE _ (λ_=>M.ok (.int _))));first|exact yc|exact kf (DQ (by rfl) (by assumption)) λ_=>.int _)|((with_reducible show PE _ _ (tE _ (λ_=>M.ok (.bl _))));exact DX)|((with_reducible show PE _ _ (tE _ (λ_=>M.ok .bz)));exact BF)|((with_reducible show PE _ _ (tE _ (λ_=>M.ok (.str _))));exact Cy)|((with_reducible show qz _);exact λ_ _=>rfl)|((with_reducible show PS _ _ (tS _ (aX _ _)));refine By ?_ ?_ ?_ ?_ ?_ ?_;assumption;exact rfl;(first|exact .inl rfl|exact .inr rfl);rotate_left;rfl;(first|exact .inl rfl|exact .inr rfl|assumption))))
def top(i:Nat):Stmt:=PySem.Challenge.pw_dialvault_k13_kept_and_turned.main.body.getD i (.Pass ⟨0,0,0,0⟩)
structure Txt (K:LI) (mg:Str->Option Value):Prop where
 EK:mg "all"=none
 lu:mg "bool"=none
 iZ:mg "enumerate"=none
 uv:mg "int"=none
 az:mg "isinstance"=none
 Ep:mg "len"=none
 iq:mg "list"=none
 yM:mg "max"=none
 Bn:mg "min"=none
 dc:mg "range"=none
 xx:mg "str"=none
 fk:mg "tuple"=none
 oZ:mg "zip"=none
 oK:∃u,mg "LEAST_PRICE"=some u/\RelV (.int 1) u
 qD:∃u,mg "LEAST_SIZE"=some u/\RelV (.int 2) u
 pU:∃u,mg "MOST_DIALS"=some u/\RelV (.int 6) u
 oB:∃u,mg "MOST_LEVERS"=some u/\RelV (.int 8) u
 pQ:∃u,mg "MOST_PRICE"=some u/\RelV (.int 1000) u
 qW:∃u,mg "MOST_SIZE"=some u/\RelV (.int 360) u
 kj:ot K aL
 vX:vq K mg bw "NoPulls"
 qV:vq K mg aQ "NoSetting"
 wm:vq K mg eh "TooMany"
 iu:GB K mg "VaultError" kz c8 c5
 kQ:Di K mg "NoLever" aY eZ e_ iA hW
 pF:Di K mg "NoPulls" bw gj gv jH jD
 lN:Di K mg "NoSetting" aQ eI eA iH iC
 rh:∀C∈i0,eU K C/\cF K C "lever"
 gy:cF K aL "dial_sizes"
 fP:cF K aL "least_round"
 fF:cF K aL "lever_prices"
 eE:cF K aL "lever_settings"
 qi:∀C,(C==aL)=true->ot K C/\cF K C "dial_sizes"
 oq:∀C,(C==aL)=true->ot K C/\cF K C "least_round"
 mZ:∀C,(C==aL)=true->ot K C/\cF K C "lever_prices"
 la:∀C,(C==aL)=true->ot K C/\cF K C "lever_settings"
local macro_rules|`(tactic| walk_at "t")=>`(tactic| (have z:=‹Txt _ _›;cases z))
variable{P:Program}{w:World}{K:LI}{mg:Str->Option Value}{base:Heap}{f:Addr}{fd:FuncData}{dv:Value}
variable{n k:Nat}{sem:List PV->M PV}{scope:Scope}{params:Arguments}{q:Str}
def l0{p p0 p1 p2 pos:Pos}(o:cn P w K mg base n "turned" 3 sem)(hn:n<=k)(h0:scope.names.lookup ("_law_vault" : Str)=some Mh)(h1:scope.names.lookup ("_law_one" : Str)=some Mh)(h2:scope.names.lookup ("_law_pulls" : Str)=some Mh)(hg:scope.names.lookup ("turned" : Str)=some Nh)(hb:∀(cl:List (Str×Addr))(pm cd Iz:Value),bindArgs (NN "<lambda>" q params (.Call (.Name "turned" p) [.Name "_law_vault" p0,.Name "_law_one" p1,.Name "_law_pulls" p2] [] pos) scope cl pm cd Iz) ⟨[],[]⟩=pure []):ki P w K mg base k ["_law_vault","_law_one","_law_pulls"] q params (.Call (.Name "turned" p) [.Name "_law_vault" p0,.Name "_law_one" p1,.Name "_law_pulls" p2] [] pos) scope (ah (aW 3 sem) (aa (ae 0) (aa (ae 1) (aa (ae 2) ai)))):=by
 refine⟨λcl f c' A outer s H E hr=>?_,hb⟩;exact cn.call (X:=(zr (bB P w) P w K mg base ["_law_vault","_law_one","_law_pulls"] q scope f (.ref c') cl A outer s H E).out λ_=>E) o hr hn hg (je rfl rfl) (cA (dG (i:=0) rfl (.inr (.inr h0))) (cA (dG (i:=1) rfl (.inr (.inr h1))) (cA (dG (i:=2) rfl (.inr (.inr h2))) jF)))
def l1{p p0 p1 p2 p3 pos:Pos}(o:cn P w K mg base n "pulled" 4 sem)(hn:n<=k)(h0:scope.names.lookup ("_law_vault" : Str)=some Mh)(h1:scope.names.lookup ("_law_one" : Str)=some Mh)(h2:scope.names.lookup ("_law_lever" : Str)=some Mh)(h3:scope.names.lookup ("_law_times" : Str)=some Mh)(hg:scope.names.lookup ("pulled" : Str)=some Nh)(hb:∀(cl:List (Str×Addr))(pm cd Iz:Value),bindArgs (NN "<lambda>" q params (.Call (.Name "pulled" p) [.Name "_law_vault" p0,.Name "_law_one" p1,.Name "_law_lever" p2,.Name "_law_times" p3] [] pos) scope cl pm cd Iz) ⟨[],[]⟩=pure []):ki P w K mg base k ["_law_vault","_law_one","_law_lever","_law_times"] q params (.Call (.Name "pulled" p) [.Name "_law_vault" p0,.Name "_law_one" p1,.Name "_law_lever" p2,.Name "_law_times" p3] [] pos) scope (ah (aW 4 sem) (aa (ae 0) (aa (ae 1) (aa (ae 2) (aa (ae 3) ai))))):=by
 refine⟨λcl f c' A outer s H E hr=>?_,hb⟩;exact cn.call (X:=(zr (bB P w) P w K mg base ["_law_vault","_law_one","_law_lever","_law_times"] q scope f (.ref c') cl A outer s H E).out λ_=>E) o hr hn hg (je rfl rfl) (cA (dG (i:=0) rfl (.inr (.inr h0))) (cA (dG (i:=1) rfl (.inr (.inr h1))) (cA (dG (i:=2) rfl (.inr (.inr h2))) (cA (dG (i:=3) rfl (.inr (.inr h3))) jF))))
def l2{p p0 p1 p2 pos:Pos}(o:DI P w K mg base n "pulled" 4 [.int 1] sem)(hn:n<=k)(h0:scope.names.lookup ("_law_vault" : Str)=some Mh)(h1:scope.names.lookup ("_law_one" : Str)=some Mh)(h2:scope.names.lookup ("_law_lever" : Str)=some Mh)(hg:scope.names.lookup ("pulled" : Str)=some Nh)(hb:∀(cl:List (Str×Addr))(pm cd Iz:Value),bindArgs (NN "<lambda>" q params (.Call (.Name "pulled" p) [.Name "_law_vault" p0,.Name "_law_one" p1,.Name "_law_lever" p2] [] pos) scope cl pm cd Iz) ⟨[],[]⟩=pure []):ki P w K mg base k ["_law_vault","_law_one","_law_lever"] q params (.Call (.Name "pulled" p) [.Name "_law_vault" p0,.Name "_law_one" p1,.Name "_law_lever" p2] [] pos) scope (ah (λps=>aW 4 sem (ps++[.int 1])) (aa (ae 0) (aa (ae 1) (aa (ae 2) ai)))):=by
 refine⟨λcl f c' A outer s H E hr=>?_,hb⟩;exact DI.call (X:=(zr (bB P w) P w K mg base ["_law_vault","_law_one","_law_lever"] q scope f (.ref c') cl A outer s H E).out λ_=>E) o hr hn hg (je rfl rfl) (cA (dG (i:=0) rfl (.inr (.inr h0))) (cA (dG (i:=1) rfl (.inr (.inr h1))) (cA (dG (i:=2) rfl (.inr (.inr h2))) jF)))
def l3{p p0 p1 p2 pos:Pos}(o:cn P w K mg base n "between" 3 sem)(hn:n<=k)(h0:scope.names.lookup ("_law_vault" : Str)=some Mh)(h1:scope.names.lookup ("_law_one" : Str)=some Mh)(h2:scope.names.lookup ("_law_other" : Str)=some Mh)(hg:scope.names.lookup ("between" : Str)=some Nh)(hb:∀(cl:List (Str×Addr))(pm cd Iz:Value),bindArgs (NN "<lambda>" q params (.Call (.Name "between" p) [.Name "_law_vault" p0,.Name "_law_one" p1,.Name "_law_other" p2] [] pos) scope cl pm cd Iz) ⟨[],[]⟩=pure []):ki P w K mg base k ["_law_vault","_law_one","_law_other"] q params (.Call (.Name "between" p) [.Name "_law_vault" p0,.Name "_law_one" p1,.Name "_law_other" p2] [] pos) scope (ah (aW 3 sem) (aa (ae 0) (aa (ae 1) (aa (ae 2) ai)))):=by
 refine⟨λcl f c' A outer s H E hr=>?_,hb⟩;exact cn.call (X:=(zr (bB P w) P w K mg base ["_law_vault","_law_one","_law_other"] q scope f (.ref c') cl A outer s H E).out λ_=>E) o hr hn hg (je rfl rfl) (cA (dG (i:=0) rfl (.inr (.inr h0))) (cA (dG (i:=1) rfl (.inr (.inr h1))) (cA (dG (i:=2) rfl (.inr (.inr h2))) jF)))
def l4{p p0 p1 pos:Pos}(o:cn P w K mg base n "kept" 2 sem)(hn:n<=k)(h0:scope.names.lookup ("_law_vault" : Str)=some Mh)(h1:scope.names.lookup ("_law_numbers" : Str)=some Mh)(hg:scope.names.lookup ("kept" : Str)=some Nh)(hb:∀(cl:List (Str×Addr))(pm cd Iz:Value),bindArgs (NN "<lambda>" q params (.Call (.Name "kept" p) [.Name "_law_vault" p0,.Name "_law_numbers" p1] [] pos) scope cl pm cd Iz) ⟨[],[]⟩=pure []):ki P w K mg base k ["_law_vault","_law_numbers"] q params (.Call (.Name "kept" p) [.Name "_law_vault" p0,.Name "_law_numbers" p1] [] pos) scope (ah (aW 2 sem) (aa (ae 0) (aa (ae 1) ai))):=by
 refine⟨λcl f c' A outer s H E hr=>?_,hb⟩;exact cn.call (X:=(zr (bB P w) P w K mg base ["_law_vault","_law_numbers"] q scope f (.ref c') cl A outer s H E).out λ_=>E) o hr hn hg (je rfl rfl) (cA (dG (i:=0) rfl (.inr (.inr h0))) (cA (dG (i:=1) rfl (.inr (.inr h1))) jF))
def rF(F:ba K "is_whole" "is_whole" (top 10) dv f fd)(T:Txt K mg)  : aT P w K mg base (bB P w) 1 f fd ["thing"] (eT 1 du) :=
 F.jy ["thing"] λnd _ _ _ _ _ _ hr O=>by
 unfold gk;walk_at "t";walk_at "pp";refine(jG ?_ (kL ?_));walk_at "pp";refine(c_ (T := "int") (by rfl) T.az (a_ (v:=.ty "int") (by rfl) T.uv sO rfl) ↑12 cP cP ?_);walk_at "pp";refine(yQ ?_);walk_at "pp";refine(c_ (T := "bool") (by rfl) T.az (a_ (v:=.ty "bool") (by rfl) T.lu ke rfl) ↑12 cP cP ?_);walk_at "pp"
def rA:((["number"]:List Str)++([]:List Str)).Nodup:=by decide +kernel
def wc(F:ba K "is_row" "is_row" (top 11) dv f fd)(T:Txt K mg)(Ir:cn P w K mg base 1 "is_whole" 1 (ay 1 gk)):aT P w K mg base (bB P w) 2 f fd ["thing","length"] (eT 2 dq) :=
 F.jy ["thing","length"] λnd _ _ _ _ _ _ hr O=>by
 unfold gm;walk_at "t";walk_at "pp";refine(jv ?_ (gU ?_)).pt;walk_at "pp";refine(mh (Ts:=["list","tuple"]) (by rfl) T.az (mT (bM (a_ (v:=.ty "list") (by rfl) T.iq fZ rfl) (bM (a_ (v:=.ty "tuple") (by rfl) T.fk dN rfl) e9))) (fun σ H R h=>⟨by show 2<=sizeLine;decide,h⟩) ↑12 cP ?_);walk_at "pp";refine(fO (dM (g:=(br 0)) (ts:=["number"]) (fs:=[]) (js:=[]) (cl:=[]) rfl rfl rfl rfl rfl rfl .nil .nil (mR ?_) kh (λ_ _ _ _ _=>(bS (i:=0) rA)) (λ_=>cj) bU (λ_ _ _ _ _=>?_)));walk_at "pp"
def wo(F:ba K "common" "common" (top 12) dv f fd)(T:Txt K mg)  : aT P w K mg base (bB P w) 1 f fd ["one","other"] (eT 2 j5) :=
 F.jy ["one","other","row","behind","times","rest"] λnd _ _ _ _ _ _ hr O=>by
 unfold j6;walk_at "t";walk_at "pp";refine(xJ O ?_ ?_);walk_at "pp"
def nI(F:ba K "multiple_of" "multiple_of" (top 13) dv f fd)(T:Txt K mg)(JN:cn P w K mg base 1 "common" 2 (ay 6 j6)):aT P w K mg base (bB P w) 2 f fd ["numbers"] (eT 1 fq) :=
 F.jy ["numbers","multiple","number"] λnd _ _ _ _ _ _ hr O=>by
 unfold fw;walk_at "t";walk_at "pp";refine(eo (g:=(br 2)) O rfl (mR ?_) kh (bS (i:=2) nd) cj ?_);walk_at "pp"
def pW(F:ba K "is_within" "is_within" (top 22) dv f fd)(T:Txt K mg)(Ir:cn P w K mg base 1 "is_whole" 1 (ay 1 gk)):aT P w K mg base (bB P w) 2 f fd ["thing","least","most"] (eT 3 cQ) :=
 F.jy ["thing","least","most"] λnd _ _ _ _ _ _ hr O=>by
 unfold dr;walk_at "t";walk_at "pp";refine(jG ?_ (kL ?_));walk_at "pp";refine(rz n5 jA n5 jA ?_ ?_ ?_);walk_at "pp"
def oo(F:ba K "need_sizes" "need_sizes" (top 23) dv f fd)(T:Txt K mg)(JQ:oP P w K mg base dO "NoDial" "dial")(Ip:cn P w K mg base 2 "is_within" 3 (ay 3 dr)):aT P w K mg base (bB P w) 3 f fd ["sizes"] (eT 1 fW) :=
 F.jy ["sizes","dial","size"] λnd _ _ _ _ _ _ hr O=>by
 unfold fY;walk_at "t";walk_at "pp";refine(eo (g:=(p8 K 2 (fy (br 1) (fy (br 2) qa)))) O rfl (xp (by rfl) T.iZ ?_) vg (jM (n:=2) rfl (cB (bS (i:=1) nd) (cB (bS (i:=2) nd) ir))) iG ?_);walk_at "pp"
def nY(F:ba K "need_levers" "need_levers" (top 24) dv f fd)(T:Txt K mg)(Iv:cn P w K mg base 2 "is_row" 2 (ay 2 gm))(IM:oP P w K mg base aY "NoLever" "lever"):aT P w K mg base (bB P w) 3 f fd ["levers","dials"] (eT 2 fu) :=
 F.jy ["levers","dials","place","lever"] λnd _ _ _ _ _ _ hr O=>by
 unfold ff;walk_at "t";walk_at "pp";refine(eo (g:=(p8 K 2 (fy (br 2) (fy (br 3) qa)))) O rfl (xp (by rfl) T.iZ ?_) vg (jM (n:=2) rfl (cB (bS (i:=2) nd) (cB (bS (i:=3) nd) ir))) iG ?_);walk_at "pp"
def oF(F:ba K "prices_for" "prices_for" (top 25) dv f fd)(T:Txt K mg)(JF:oP P w K mg base cw "NoPrice" "lever")(Ip:cn P w K mg base 2 "is_within" 3 (ay 3 dr)):aT P w K mg base (bB P w) 3 f fd ["levers","prices"] (eT 2 eO) :=
 F.jy ["levers","prices","place"] λnd _ _ _ _ _ _ hr O=>by
 unfold fX;walk_at "t";walk_at "pp";refine(eo (g:=(br 2)) O rfl (cu (by rfl) T.dc ?_) cV (bS (i:=2) nd) cj ?_);walk_at "pp";refine(jc (oU rfl) ql (by rfl) T.yM x9 ?_);walk_at "pp";refine(jv ?_ (gU ?_)).pt;walk_at "pp"
def mH:((["number","size"]:List Str)++([]:List Str)).Nodup:=by decide +kernel
def xK(F:ba K "rests" "rests" (top 26) dv f fd)(T:Txt K mg)  : aT P w K mg base (bB P w) 1 f fd ["numbers","sizes"] (eT 2 gJ) :=
 F.jy ["numbers","sizes"] λnd _ _ _ _ _ _ hr O=>by
 unfold iD;walk_at "t";walk_at "pp";refine(fO (dM (g:=(p8 K 2 (fy (br 0) (fy (br 1) qa)))) (ts:=["number","size"]) (fs:=[]) (js:=[]) (cl:=[]) rfl rfl rfl rfl rfl rfl .nil .nil (nz (by rfl) T.oZ ?_) kq (λ_ _ _ _ _=>(jM (n:=2) rfl (cB (bS (i:=0) mH) (cB (bS (i:=1) mH) ir)))) (λ_=>iG) jL (λ_ _ _ _ _=>?_)));walk_at "pp"
def qB(F:ba K "_law_cell" "_law_cell" (top 37) dv f fd)(T:Txt K mg)  : aT P w K mg base (bB P w) 1 f fd ["_law_script","_law_k"] (eT 2 bA) :=
 F.jy ["_law_script","_law_k","_law_number_here"] λnd _ _ _ _ _ _ hr O=>by
 unfold fE;walk_at "t";walk_at "pp"
def rX(F:ba K "_law_mix" "_law_mix" (top 38) dv f fd)(T:Txt K mg)  : aT P w K mg base (bB P w) 1 f fd ["_law_cell_here","_law_k"] (eT 2 aC) :=
 F.jy ["_law_cell_here","_law_k","_law_number_here"] λnd _ _ _ _ _ _ hr O=>by
 unfold bZ;walk_at "t";walk_at "pp"
def iE(F:ba K "_law_same" "_law_same" (top 39) dv f fd)(T:Txt K mg){rS:List PV->M PV}(o_rec:cn P w K mg base n "_law_same" 2 rS)(hn:0<=n):aT P w K mg base (bB P w) (n+1) f fd ["_law_found","_law_due"] (eT 2 (aW 2 (ay 4 (cx rS)))) :=
 F.jy ["_law_found","_law_due","_law_one","_law_other"] λnd _ _ _ _ _ _ hr O=>by
 unfold cx;walk_at "t";walk_at "pp";refine(mh (Ts:=["list","tuple"]) (by rfl) T.az (mT (bM (a_ (v:=.ty "list") (by rfl) T.iq fZ rfl) (bM (a_ (v:=.ty "tuple") (by rfl) T.fk dN rfl) e9))) (fun σ H R h=>⟨by show 2<=sizeLine;decide,h⟩) ↑12 cP ?_);walk_at "pp";refine(jv ?_ (gU ?_)).pt;walk_at "pp";refine(c_ (T := "list") (by rfl) T.az (a_ (v:=.ty "list") (by rfl) T.iq fZ rfl) ↑12 cP cP ?_);walk_at "pp";refine(c_ (T := "list") (by rfl) T.az (a_ (v:=.ty "list") (by rfl) T.iq fZ rfl) ↑12 cP cP ?_);walk_at "pp";refine(mh (Ts:=["list","tuple"]) (by rfl) T.az (mT (bM (a_ (v:=.ty "list") (by rfl) T.iq fZ rfl) (bM (a_ (v:=.ty "tuple") (by rfl) T.fk dN rfl) e9))) (fun σ H R h=>⟨by show 2<=sizeLine;decide,h⟩) ↑12 cP ?_);walk_at "pp";refine(eo (g:=(p8 K 2 (fy (br 2) (fy (br 3) qa)))) O rfl (nz (by rfl) T.oZ ?_) kq (jM (n:=2) rfl (cB (bS (i:=2) nd) (cB (bS (i:=3) nd) ir))) iG ?_);walk_at "pp";refine(c_ (T := "str") (by rfl) T.az (a_ (v:=.ty "str") (by rfl) T.xx xf rfl) ↑12 cP cP ?_);walk_at "pp";refine(jG ?_ (kL ?_));walk_at "pp";refine(c_ (T := "str") (by rfl) T.az (a_ (v:=.ty "str") (by rfl) T.xx xf rfl) ↑12 cP cP ?_);walk_at "pp";refine(jG ?_ (jG ?_ (kL ?_)));walk_at "pp";refine(c_ (T := "int") (by rfl) T.az (a_ (v:=.ty "int") (by rfl) T.uv sO rfl) ↑12 cP cP ?_);walk_at "pp";refine(yQ ?_);walk_at "pp";refine(c_ (T := "bool") (by rfl) T.az (a_ (v:=.ty "bool") (by rfl) T.lu ke rfl) ↑12 cP cP ?_);walk_at "pp"
def nv(F:ba K "_law_number" "_law_number" (top 40) dv f fd)(T:Txt K mg)(HY:cn P w K mg base 1 "_law_mix" 2 (ay 3 bZ)):aT P w K mg base (bB P w) 2 f fd ["_law_cell_here","_law_k"] (eT 2 bF) :=
 F.jy ["_law_cell_here","_law_k","_law_number_here","_law_far"] λnd _ _ _ _ _ _ hr O=>by
 unfold c7;walk_at "t";walk_at "pp"
def oA(F:ba K "_law_sizes" "_law_sizes" (top 41) dv f fd)(T:Txt K mg)(HY:cn P w K mg base 1 "_law_mix" 2 (ay 3 bZ)):aT P w K mg base (bB P w) 2 f fd ["_law_cell_here"] (eT 1 eJ) :=
 F.jy ["_law_cell_here","_law_sizes_here","_law_k","_law_number_here"] λnd _ _ _ _ _ _ hr O=>by
 unfold gb;walk_at "t";walk_at "pp";refine(eo (g:=(br 2)) O rfl (cu (by rfl) T.dc ?_) cV (bS (i:=2) nd) cj ?_);walk_at "pp";exact(zB [359,11,5,359]);walk_at "pp"
def lB:((["_law_dial"]:List Str)++(["_law_script","_law_start","_law_j"]:List Str)).Nodup:=by decide +kernel
def mr(F:ba K "_law_levers" "_law_levers" (top 42) dv f fd)(T:Txt K mg)(IA:cn P w K mg base 1 "_law_cell" 2 (ay 3 fE))(Ij:cn P w K mg base 2 "_law_number" 2 (ay 4 c7)):aT P w K mg base (bB P w) 3 f fd ["_law_script","_law_start","_law_many","_law_dials"] (eT 4 dR) :=
 F.jy ["_law_script","_law_start","_law_many","_law_dials","_law_levers_here","_law_j"] λnd _ _ _ _ _ _ hr O=>by
 unfold fx;walk_at "t";walk_at "pp";refine(eo (g:=(br 5)) O rfl (cu (by rfl) T.dc ?_) cV (bS (i:=5) nd) cj ?_);walk_at "pp";refine(fO (dM (g:=(br 0)) (ts:=["_law_dial"]) (fs:=["_law_script","_law_start","_law_j"]) (js:=[0,1,5]) rfl rfl rfl rfl rfl rfl (.cons rfl (.cons rfl (.cons rfl .nil))) (.cons rfl rfl ↑9 rfl rfl (.cons rfl rfl ↑9 rfl rfl ↑4)) (cu (by rfl) T.dc ?_) cV (λ_ _ _ _ _=>(bS (i:=0) lB)) (λ_=>cj) bU (λ_ _ _ _ _=>?_)));walk_at "pp"
def oH:((["_law_k"]:List Str)++(["_law_cell_here","_law_sizes_here"]:List Str)).Nodup:=by decide +kernel
def om:((["_law_k"]:List Str)++(["_law_cell_here"]:List Str)).Nodup:=by decide +kernel
def rg(F:ba K "_law_row" "_law_row" (top 43) dv f fd)(T:Txt K mg)(HY:cn P w K mg base 1 "_law_mix" 2 (ay 3 bZ))(Ij:cn P w K mg base 2 "_law_number" 2 (ay 4 c7)):aT P w K mg base (bB P w) 3 f fd ["_law_cell_here","_law_sizes_here","_law_many"] (eT 3 bX) :=
 F.jy ["_law_cell_here","_law_sizes_here","_law_many"] λnd _ _ _ _ _ _ hr O=>by
 unfold dz;walk_at "t";walk_at "pp";refine(fO (dM (g:=(br 0)) (ts:=["_law_k"]) (fs:=["_law_cell_here","_law_sizes_here"]) (js:=[0,1]) rfl rfl rfl rfl rfl rfl (.cons rfl (.cons rfl .nil)) (.cons rfl rfl ↑9 rfl rfl ↑4) (cu (by rfl) T.dc ?_) cV (λ_ _ _ _ _=>(bS (i:=0) oH)) (λ_=>cj) bU (λ_ _ _ _ _=>?_)));walk_at "pp";refine(fO (dM (g:=(br 0)) (ts:=["_law_k"]) (fs:=["_law_cell_here"]) (js:=[0]) rfl rfl rfl rfl rfl rfl (.cons rfl .nil) ↑4 (cu (by rfl) T.dc ?_) cV (λ_ _ _ _ _=>(bS (i:=0) om)) (λ_=>cj) bU (λ_ _ _ _ _=>?_)));walk_at "pp"
def lV(F:ba K "_law_spoiled" "_law_spoiled" (top 44) dv f fd)(T:Txt K mg)  : aT P w K mg base (bB P w) 1 f fd ["_law_thing","_law_cell_here","_law_sizes_here"] (eT 3 bb) :=
 F.jy ["_law_thing","_law_cell_here","_law_sizes_here","_law_some"] λnd _ _ _ _ _ _ hr O=>by
 unfold bL;walk_at "t";walk_at "pp";refine(pe ?_ (uP ?_) uX);walk_at "pp";refine(pe ?_ uX (uP ?_));walk_at "pp"
def i5:((["_law_number_here"]:List Str)++([]:List Str)).Nodup:=by decide +kernel
def jJ(F:ba K "_law_are_wholes" "_law_are_wholes" (top 45) dv f fd)(T:Txt K mg)  : aT P w K mg base (bB P w) 1 f fd ["_law_thing","_law_many"] (eT 2 aE) :=
 F.jy ["_law_thing","_law_many"] λnd _ _ _ _ _ _ hr O=>by
 unfold bq;walk_at "t";walk_at "pp";refine(jv ?_ (gU ?_)).pt;walk_at "pp";refine(mh (Ts:=["list","tuple"]) (by rfl) T.az (mT (bM (a_ (v:=.ty "list") (by rfl) T.iq fZ rfl) (bM (a_ (v:=.ty "tuple") (by rfl) T.fk dN rfl) e9))) (fun σ H R h=>⟨by show 2<=sizeLine;decide,h⟩) ↑12 cP ?_);walk_at "pp";refine(fO (rE (g:=(br 0)) (ts:=["_law_number_here"]) (fs:=[]) (js:=[]) (cl:=[]) rfl rfl rfl rfl rfl rfl .nil .nil (mR ?_) kh (λ_ _ _ _ _=>(bS (i:=0) i5)) (λ_=>cj) bU (λ_ _ _ _ _=>?_) (λ_ _ _ _ _=>?_)));walk_at "pp";refine(jv ?_ (gU ?_)).pt;walk_at "pp";refine(c_ (T := "int") (by rfl) T.az (a_ (v:=.ty "int") (by rfl) T.uv sO rfl) ↑12 cP cP ?_);walk_at "pp";refine(c_ (T := "bool") (by rfl) T.az (a_ (v:=.ty "bool") (by rfl) T.lu ke rfl) ↑12 cP cP ?_);walk_at "pp"
def i4:((["_law_k"]:List Str)++(["_law_thing","_law_sizes_here"]:List Str)).Nodup:=by decide +kernel
def jC(F:ba K "_law_is_setting" "_law_is_setting" (top 46) dv f fd)(T:Txt K mg)(HZ:cn P w K mg base 1 "_law_are_wholes" 2 (ay 2 bq)):aT P w K mg base (bB P w) 2 f fd ["_law_thing","_law_sizes_here"] (eT 2 aP) :=
 F.jy ["_law_thing","_law_sizes_here"] λnd _ _ _ _ _ _ hr O=>by
 unfold bo;walk_at "t";walk_at "pp";refine(jv ?_ (gU ?_)).pt;walk_at "pp";refine(c_ (T := "tuple") (by rfl) T.az (a_ (v:=.ty "tuple") (by rfl) T.fk dN rfl) ↑12 cP cP ?_);walk_at "pp";refine(fO (rE (g:=(br 0)) (ts:=["_law_k"]) (fs:=["_law_thing","_law_sizes_here"]) (js:=[0,1]) rfl rfl rfl rfl rfl rfl (.cons rfl (.cons rfl .nil)) (.cons rfl rfl ↑9 rfl rfl ↑4) (cu (by rfl) T.dc ?_) cV (λ_ _ _ _ _=>(bS (i:=0) i4)) (λ_=>cj) bU (λ_ _ _ _ _=>?_) (λ_ _ _ _ _=>?_)));walk_at "pp";refine(se n5 jA rn my ?_ ?_ ?_);walk_at "pp"
def l5:((["_law_k"]:List Str)++(["_law_sizes_here","_law_numbers"]:List Str)).Nodup:=by decide +kernel
def oj(F:ba K "_law_rests" "_law_rests" (top 47) dv f fd)(T:Txt K mg)  : aT P w K mg base (bB P w) 1 f fd ["_law_sizes_here","_law_numbers"] (eT 2 bu) :=
 F.jy ["_law_sizes_here","_law_numbers"] λnd _ _ _ _ _ _ hr O=>by
 unfold cy;walk_at "t";walk_at "pp";refine(fO (dM (g:=(br 0)) (ts:=["_law_k"]) (fs:=["_law_sizes_here","_law_numbers"]) (js:=[0,1]) rfl rfl rfl rfl rfl rfl (.cons rfl (.cons rfl .nil)) (.cons rfl rfl ↑9 rfl rfl ↑4) (cu (by rfl) T.dc ?_) cV (λ_ _ _ _ _=>(bS (i:=0) l5)) (λ_=>cj) bU (λ_ _ _ _ _=>?_)));walk_at "pp"
def dU:bg ["_law_ask","_law_found","_law_caught","e","_law_flags","#0","#1","#2","#3"] ["_law_ask"] (au (top 48)):=.of
def lW(F:ba K "_law_outcome" "_law_outcome" (top 48) dv f fd)(hm:mg "_law_outcome"=some (.ref f))(hB:Binds K fd ["_law_ask"] [])(T:Txt K mg)(JI:∀(f:Addr)(ps:List PV)(vs:List V)(r:Nat)(ask:M PV),ps.length=vs.length->vs.length+r=4->(bG (oa 0 (1+4) f ps vs ask) (p_ 4 f ps vs r)).bind iU=aH ask)  : fR P w K mg base 10 "_law_outcome" aH :=
 F.HA (n:=9) (m:=4) hm hB dU rfl (.inl rfl) (λi z e h1 h2 v=>by
  match i,e,h2 with
  | 5,e,_=>cases e;revert v;unfold p4;decide +kernel
  | 6,e,_=>cases e;revert v;unfold p4;decide +kernel
  | 7,e,_=>cases e;revert v;unfold p4;decide +kernel
  | 8,e,_=>cases e;revert v;unfold p4;decide +kernel
  | n+9,e,_=>cases e) rfl ↑12 ↑12 JI λIg A outer s H E av hr O LD=>by
 unfold bG;have:=dU.nd;have T2:=T;cases T2;walk_at "pp";refine(DF rfl rfl (λpn E2 O2=>(Cf (i:=1) dU.nd rfl ↑9 ?_)) (.A6 (i:=3) (by rfl) T.iu.mg ↑12 dU.nd rfl rfl T.iu.ok (λea=>?_) .nil));walk_at "pp";exact(LD pn E2 O2 _ _);walk_at "pp";refine(T.lN.is (by rfl) T.az (by rfl) ?_);walk_at "pp";refine(T.pF.is (by rfl) T.az (by rfl) ?_);walk_at "pp";refine(T.kQ.is (by rfl) T.az (by rfl) ?_);walk_at "pp";refine(yI ?_ ?_);walk_at "pp";refine(T.kQ.is (by rfl) T.az (by rfl) ?_);walk_at "pp";refine(Ea ?_ T.rh rfl);walk_at "pp";refine(yK ?_ ?_);walk_at "pp"
def qu(F:ba K "_law_copy" "_law_copy" (top 50) dv f fd)(T:Txt K mg)  : aT P w K mg base (bB P w) 1 f fd ["_law_thing"] (eT 1 dy) :=
 F.jy ["_law_thing"] λnd _ _ _ _ _ _ hr O=>by
 unfold fD;walk_at "t";walk_at "pp";refine(c_ (T := "list") (by rfl) T.az (a_ (v:=.ty "list") (by rfl) T.iq fZ rfl) ↑12 cP cP ?_);walk_at "pp"
def jr:bg ["self","sizes","levers","prices"] ["self","sizes","levers","prices"] (au (inClass (top 21) 0)):=.of
def l6:((["lever"]:List Str)++(["sizes"]:List Str)).Nodup:=by decide +kernel
def oM(F:ba K "__init__" "Vault.__init__" (inClass (top 21) 0) dv f fd)(T:Txt K mg)(IY:cn P w K mg base 3 "need_sizes" 1 (ay 3 fY))(IS:cn P w K mg base 3 "need_levers" 2 (ay 4 ff))(IL:cn P w K mg base 1 "rests" 2 (ay 2 iD))(IZ:cn P w K mg base 3 "prices_for" 2 (ay 3 fX))(IQ:cn P w K mg base 2 "multiple_of" 1 (ay 3 fw)):aT P w K mg base (bB P w) 4 f fd ["self","sizes","levers","prices"] (CY 4 aL gM) :=
 F.Hq jr ↑12 λ_ _ _ _ _ _ hr O=>by
 unfold iI;have:=jr.nd;have T2:=T;cases T2;walk_at "pp";refine(qw (i:=0) rfl ↑3 T.kj T.gy ?_);walk_at "pp";refine(qw (i:=0) rfl ↑3 T.kj T.eE ?_);walk_at "pp";refine(fO (dM (g:=(br 0)) (ts:=["lever"]) (fs:=["sizes"]) (js:=[1]) rfl rfl rfl rfl rfl rfl (.cons rfl .nil) ↑4 (mR ?_) kh (λ_ _ _ _ _=>(bS (i:=0) l6)) (λ_=>cj) bU (λ_ _ _ _ _=>?_)));walk_at "pp";refine(qw (i:=0) rfl ↑3 T.kj T.fF ?_);walk_at "pp";refine(qw (i:=0) rfl ↑3 T.kj T.fP ?_);walk_at "pp"
def nO(F:ba K "sizes" "Vault.sizes" (inClass (top 21) 1) dv f fd)(T:Txt K mg)  : aT P w K mg base (bB P w) 1 f fd ["self"] (eT 1 cD) :=
 F.jy ["self"] λnd _ _ _ _ _ _ hr O=>by
 unfold c9;walk_at "t";walk_at "pp"
def l9(F:ba K "levers" "Vault.levers" (inClass (top 21) 2) dv f fd)(T:Txt K mg)  : aT P w K mg base (bB P w) 1 f fd ["self"] (eT 1 bJ) :=
 F.jy ["self"] λnd _ _ _ _ _ _ hr O=>by
 unfold bW;walk_at "t";walk_at "pp"
def iN:((["notch","size"]:List Str)++([]:List Str)).Nodup:=by decide +kernel
def oO(F:ba K "is_setting" "is_setting" (top 27) dv f fd)(T:Txt K mg)(Ii:wV P w K mg base aL 1 "sizes" 1 (ay 1 c9))(Iv:cn P w K mg base 2 "is_row" 2 (ay 2 gm)):aT P w K mg base (bB P w) 3 f fd ["vault","thing"] (eT 2 bh) :=
 F.jy ["vault","thing","sizes"] λnd _ _ _ _ _ _ hr O=>by
 unfold eM;walk_at "t";walk_at "pp";refine(jv ?_ (gU ?_)).pt;walk_at "pp";refine(c_ (T := "tuple") (by rfl) T.az (a_ (v:=.ty "tuple") (by rfl) T.fk dN rfl) ↑12 cP cP ?_);walk_at "pp";refine(fO (dM (g:=(p8 K 2 (fy (br 0) (fy (br 1) qa)))) (ts:=["notch","size"]) (fs:=[]) (js:=[]) (cl:=[]) rfl rfl rfl rfl rfl rfl .nil .nil (nz (by rfl) T.oZ ?_) kq (λ_ _ _ _ _=>(jM (n:=2) rfl (cB (bS (i:=0) iN) (cB (bS (i:=1) iN) ir)))) (λ_=>iG) jL (λ_ _ _ _ _=>?_)));walk_at "pp";refine(rz n5 jA rn my ?_ ?_ ?_);walk_at "pp"
def rT(F:ba K "is_pulls" "is_pulls" (top 28) dv f fd)(T:Txt K mg)(H_:wV P w K mg base aL 1 "levers" 1 (ay 1 bW))(Iv:cn P w K mg base 2 "is_row" 2 (ay 2 gm)):aT P w K mg base (bB P w) 3 f fd ["vault","thing"] (eT 2 iz) :=
 F.jy ["vault","thing"] λnd _ _ _ _ _ _ hr O=>by
 unfold il;walk_at "t";walk_at "pp";refine(jG ?_ (kL ?_));walk_at "pp";refine(c_ (T := "tuple") (by rfl) T.az (a_ (v:=.ty "tuple") (by rfl) T.fk dN rfl) ↑12 cP cP ?_);walk_at "pp"
def l7(F:ba K "need_setting" "need_setting" (top 29) dv f fd)(T:Txt K mg)(IW:cn P w K mg base 3 "is_setting" 2 (ay 3 eM)):aT P w K mg base (bB P w) 4 f fd ["vault","thing"] (eT 2 bp) :=
 F.jy ["vault","thing"] λnd _ _ _ _ _ _ hr O=>by
 unfold cb;walk_at "t";walk_at "pp"
def n_(F:ba K "need_pulls" "need_pulls" (top 30) dv f fd)(T:Txt K mg)(Jq:cn P w K mg base 3 "is_pulls" 2 (ay 2 il)):aT P w K mg base (bB P w) 4 f fd ["vault","thing"] (eT 2 dE) :=
 F.jy ["vault","thing"] λnd _ _ _ _ _ _ hr O=>by
 unfold eG;walk_at "t";walk_at "pp"
def zM(F:ba K "kept" "kept" (top 31) dv f fd)(T:Txt K mg)(Ii:wV P w K mg base aL 1 "sizes" 1 (ay 1 c9))(Iv:cn P w K mg base 2 "is_row" 2 (ay 2 gm))(IL:cn P w K mg base 1 "rests" 2 (ay 2 iD)):aT P w K mg base (bB P w) 3 f fd ["vault","numbers"] (eT 2 jE) :=
 F.jy ["vault","numbers","sizes"] λnd _ _ _ _ _ _ hr O=>by
 unfold mP;walk_at "t";walk_at "pp"
def mz:((["notch","turn"]:List Str)++(["times"]:List Str)).Nodup:=by decide +kernel
def yq(F:ba K "added" "added" (top 32) dv f fd)(T:Txt K mg)(Ii:wV P w K mg base aL 1 "sizes" 1 (ay 1 c9))(IL:cn P w K mg base 1 "rests" 2 (ay 2 iD)):aT P w K mg base (bB P w) 2 f fd ["vault","setting","other","times"] (eT 4 jj) :=
 F.jy ["vault","setting","other","times","numbers"] λnd _ _ _ _ _ _ hr O=>by
 unfold jk;walk_at "t";walk_at "pp";refine(uL (i:=4) (g:=(p8 K 2 (fy (br 0) (fy (br 1) qa)))) (ts:=["notch","turn"]) (fs:=["times"]) (js:=[3]) rfl rfl rfl rfl rfl rfl (.cons rfl .nil) ↑4 (nz (by rfl) T.oZ ?_) kq (λ_ _ _ _ _=>(jM (n:=2) rfl (cB (bS (i:=0) mz) (cB (bS (i:=1) mz) ir)))) (λ_=>iG) jL (λ_ _ _ _ _=>?_) nd rfl ↑9);walk_at "pp"
def vC(F:ba K "turned" "turned" (top 33) dv f fd)(T:Txt K mg)(Ie:cn P w K mg base 4 "need_setting" 2 (ay 2 cb))(IX:cn P w K mg base 4 "need_pulls" 2 (ay 2 eG))(H_:wV P w K mg base aL 1 "levers" 1 (ay 1 bW))(IK:cn P w K mg base 2 "added" 4 (ay 5 jk)):aT P w K mg base (bB P w) 5 f fd ["vault","setting","pulls"] (eT 3 fz) :=
 F.jy ["vault","setting","pulls","reached","lever","times"] λnd _ _ _ _ _ _ hr O=>by
 unfold gZ;walk_at "t";walk_at "pp";refine(eo (g:=(p8 K 2 (fy (br 4) (fy (br 5) qa)))) O rfl (nz (by rfl) T.oZ ?_) kq (jM (n:=2) rfl (cB (bS (i:=4) nd) (cB (bS (i:=5) nd) ir))) iG ?_);walk_at "pp"
def vH(F:ba K "pulled" "pulled" (top 34) dv f fd)(T:Txt K mg)(Ie:cn P w K mg base 4 "need_setting" 2 (ay 2 cb))(H_:wV P w K mg base aL 1 "levers" 1 (ay 1 bW))(Ip:cn P w K mg base 2 "is_within" 3 (ay 3 dr))(IM:oP P w K mg base aY "NoLever" "lever")(Ir:cn P w K mg base 1 "is_whole" 1 (ay 1 gk))(IK:cn P w K mg base 2 "added" 4 (ay 5 jk)):aT P w K mg base (bB P w) 5 f fd ["vault","setting","lever","times"] (eT 4 cO) :=
 F.jy ["vault","setting","lever","times","levers"] λnd _ _ _ _ _ _ hr O=>by
 unfold dP;walk_at "t";walk_at "pp"
def sQ(F:ba K "between" "between" (top 35) dv f fd)(T:Txt K mg)(Ie:cn P w K mg base 4 "need_setting" 2 (ay 2 cb))(IK:cn P w K mg base 2 "added" 4 (ay 5 jk)):aT P w K mg base (bB P w) 5 f fd ["vault","one","other"] (eT 3 d_) :=
 F.jy ["vault","one","other"] λnd _ _ _ _ _ _ hr O=>by
 unfold gf;walk_at "t";walk_at "pp"
def eN:bg ["_law_vault","_law_sizes_here","_law_levers_here","_law_cell_here","_law_one","_law_pulls","_law_handed","_law_found","_law_total","_law_j","_law_k"] ["_law_vault","_law_sizes_here","_law_levers_here","_law_cell_here"] (au (top 49)):=.of
theorem mO(F:ba K "_law_turned" "_law_turned" (top 49) dv f fd)(T:Txt K mg)(C:MD base dj bY)(Jw:Bm mg base)(hc:fd.code=.ref dj)(HY:cn P w K mg base 1 "_law_mix" 2 (ay 3 bZ))(Il:cn P w K mg base 3 "_law_row" 3 (ay 3 dz))(Ia:cn P w K mg base 1 "_law_spoiled" 3 (ay 4 bL))(IB:cn P w K mg base 1 "_law_copy" 1 (ay 1 fD))(HX:fR P w K mg base 10 "_law_outcome" aH)(Js:cn P w K mg base 5 "turned" 3 (ay 6 gZ))(Ib:cn P w K mg base 2 "_law_is_setting" 2 (ay 2 bo))(HZ:cn P w K mg base 1 "_law_are_wholes" 2 (ay 2 bq))(H0:cn P w K mg base 1 "_law_rests" 2 (ay 2 cy))(Ic:cn P w K mg base 3 "_law_same" 2 (aJ 3)):aT P w K mg base (bB P w) 11 f fd ["_law_vault","_law_sizes_here","_law_levers_here","_law_cell_here"] (spT bY ("_law_turned" ++ ".<locals>." ++ "<lambda>") (eT 4 (aW 4 (ay 11 c6)))) :=
 F.zU (k:=10) eN hc λA outer s H E hT hr O=>by
 unfold c6;have:=eN.nd;have T2:=T;cases T2;walk_at "pp";exact(fR.jY (c:=dj) (Pt:=bY) HX hr ⋯ (by rfl) O (l0 (k:=8) Js ⋯ rfl rfl rfl  rfl (λ_ _ _ _=>rfl)) ⋯ ↑12 C hT Jw rfl rfl rfl rfl rfl (.of rfl rfl rfl (by decide +kernel) ["_law_vault","_law_pulls","_law_one"] rfl (by decide +kernel) (by decide +kernel)) (.cons rfl (.cons rfl (.cons rfl .nil))) (.cons rfl rfl (.cons rfl rfl (.cons rfl rfl .nil))));walk_at "pp";refine(jv ?_ (gU ?_)).pt;walk_at "pp";refine(c_ (T := "tuple") (by rfl) T.az (a_ (v:=.ty "tuple") (by rfl) T.fk dN rfl) ↑12 cP cP ?_);walk_at "pp";refine(AA (by rfl) T.iq ?_);walk_at "pp";refine(eo (g:=(br 9)) O rfl (cu (by rfl) T.dc ?_) cV (bS (i:=9) eN.nd) cj ?_);walk_at "pp";refine(eo (g:=(br 10)) O rfl (cu (by rfl) T.dc ?_) cV (bS (i:=10) eN.nd) cj ?_);walk_at "pp";refine(D6 (i:=8) rfl ↑3 ?_ ?_);walk_at "pp";refine(zG 8 ?_);walk_at "pp"
def gz:bg ["_law_vault","_law_sizes_here","_law_levers_here","_law_cell_here","_law_one","_law_number_here","_law_lever","_law_times","_law_found","_law_total"] ["_law_vault","_law_sizes_here","_law_levers_here","_law_cell_here"] (au (top 51)):=.of
def kU:((["_law_k"]:List Str)++(["_law_levers_here","_law_one","_law_lever","_law_times"]:List Str)).Nodup:=by decide +kernel
theorem nS(F:ba K "_law_pulled" "_law_pulled" (top 51) dv f fd)(T:Txt K mg)(C:MD base cL bH)(Jw:Bm mg base)(hc:fd.code=.ref cL)(HY:cn P w K mg base 1 "_law_mix" 2 (ay 3 bZ))(Il:cn P w K mg base 3 "_law_row" 3 (ay 3 dz))(Ia:cn P w K mg base 1 "_law_spoiled" 3 (ay 4 bL))(Ij:cn P w K mg base 2 "_law_number" 2 (ay 4 c7))(HX:fR P w K mg base 10 "_law_outcome" aH)(Jr:cn P w K mg base 5 "pulled" 4 (ay 5 dP))(Je:DI P w K mg base 5 "pulled" 4 [.int 1] (ay 5 dP))(Ib:cn P w K mg base 2 "_law_is_setting" 2 (ay 2 bo))(HZ:cn P w K mg base 1 "_law_are_wholes" 2 (ay 2 bq))(H0:cn P w K mg base 1 "_law_rests" 2 (ay 2 cy))(Ic:cn P w K mg base 3 "_law_same" 2 (aJ 3)):aT P w K mg base (bB P w) 11 f fd ["_law_vault","_law_sizes_here","_law_levers_here","_law_cell_here"] (spT bH ("_law_pulled" ++ ".<locals>." ++ "<lambda>") (eT 4 (aW 4 (ay 10 cC)))) :=
 F.zU (k:=10) gz hc λA outer s H E hT hr O=>by
 unfold cC;have:=gz.nd;have T2:=T;cases T2;walk_at "pp";exact(fR.jY (c:=cL) (Pt:=bH) HX hr ⋯ (by rfl) O (l1 (k:=8) Jr ⋯ rfl rfl rfl rfl  rfl (λ_ _ _ _=>rfl)) ⋯ ↑12 C hT Jw rfl rfl rfl rfl rfl (.of rfl rfl rfl (by decide +kernel) ["_law_vault","_law_times","_law_one","_law_lever"] rfl (by decide +kernel) (by decide +kernel)) (.cons rfl (.cons rfl (.cons rfl (.cons rfl .nil)))) (.cons rfl rfl (.cons rfl rfl (.cons rfl rfl (.cons rfl rfl .nil)))));walk_at "pp";exact(fR.jY (c:=cL) (Pt:=bH) HX hr ⋯ (by rfl) O (l2 (k:=8) Je ⋯ rfl rfl rfl  rfl (λ_ _ _ _=>rfl)) ⋯ ↑12 C hT Jw rfl rfl rfl rfl rfl (.of rfl rfl rfl (by decide +kernel) ["_law_vault","_law_one","_law_lever"] rfl (by decide +kernel) (by decide +kernel)) (.cons rfl (.cons rfl (.cons rfl .nil))) (.cons rfl rfl (.cons rfl rfl (.cons rfl rfl .nil))));walk_at "pp";refine(jv ?_ (gU ?_)).pt;walk_at "pp";refine(se n5 jA rn my ?_ ?_ ?_);walk_at "pp";refine(jG ?_ (kL ?_));walk_at "pp";refine(c_ (T := "bool") (by rfl) T.az (a_ (v:=.ty "bool") (by rfl) T.lu ke rfl) ↑12 cP cP ?_);walk_at "pp";refine(c_ (T := "bool") (by rfl) T.az (a_ (v:=.ty "bool") (by rfl) T.lu ke rfl) ↑12 cP cP ?_);walk_at "pp";refine(uL (i:=9) (g:=(br 0)) (ts:=["_law_k"]) (fs:=["_law_levers_here","_law_one","_law_lever","_law_times"]) (js:=[2,4,6,7]) rfl rfl rfl rfl rfl rfl (.cons rfl (.cons rfl (.cons rfl (.cons rfl .nil)))) (.cons rfl rfl ↑9 rfl rfl (.cons rfl rfl ↑9 rfl rfl (.cons rfl rfl ↑9 rfl rfl ↑4))) (cu (by rfl) T.dc ?_) cV (λ_ _ _ _ _=>(bS (i:=0) kU)) (λ_=>cj) bU (λ_ _ _ _ _=>?_) gz.nd rfl ↑9);walk_at "pp"
def iM:bg ["_law_vault","_law_sizes_here","_law_cell_here","_law_one","_law_other","_law_found"] ["_law_vault","_law_sizes_here","_law_cell_here"] (au (top 52)):=.of
def kB:((["_law_k"]:List Str)++(["_law_one","_law_other"]:List Str)).Nodup:=by decide +kernel
theorem ma(F:ba K "_law_between" "_law_between" (top 52) dv f fd)(T:Txt K mg)(C:MD base cZ bQ)(Jw:Bm mg base)(hc:fd.code=.ref cZ)(HY:cn P w K mg base 1 "_law_mix" 2 (ay 3 bZ))(Il:cn P w K mg base 3 "_law_row" 3 (ay 3 dz))(Ia:cn P w K mg base 1 "_law_spoiled" 3 (ay 4 bL))(HX:fR P w K mg base 10 "_law_outcome" aH)(Jd:cn P w K mg base 5 "between" 3 (ay 3 gf))(Ib:cn P w K mg base 2 "_law_is_setting" 2 (ay 2 bo))(H0:cn P w K mg base 1 "_law_rests" 2 (ay 2 cy))(Ic:cn P w K mg base 3 "_law_same" 2 (aJ 3)):aT P w K mg base (bB P w) 11 f fd ["_law_vault","_law_sizes_here","_law_cell_here"] (spT bQ ("_law_between" ++ ".<locals>." ++ "<lambda>") (eT 3 (aW 3 (ay 6 cM)))) :=
 F.zU (k:=10) iM hc λA outer s H E hT hr O=>by
 unfold cM;have:=iM.nd;have T2:=T;cases T2;walk_at "pp";exact(fR.jY (c:=cZ) (Pt:=bQ) HX hr ⋯ (by rfl) O (l3 (k:=8) Jd ⋯ rfl rfl rfl  rfl (λ_ _ _ _=>rfl)) ⋯ ↑12 C hT Jw rfl rfl rfl rfl rfl (.of rfl rfl rfl (by decide +kernel) ["_law_vault","_law_other","_law_one"] rfl (by decide +kernel) (by decide +kernel)) (.cons rfl (.cons rfl (.cons rfl .nil))) (.cons rfl rfl (.cons rfl rfl (.cons rfl rfl .nil))));walk_at "pp";refine(jv ?_ (gU ?_)).pt;walk_at "pp";refine(fO (dM (g:=(br 0)) (ts:=["_law_k"]) (fs:=["_law_one","_law_other"]) (js:=[3,4]) rfl rfl rfl rfl rfl rfl (.cons rfl (.cons rfl .nil)) (.cons rfl rfl ↑9 rfl rfl ↑4) (cu (by rfl) T.dc ?_) cV (λ_ _ _ _ _=>(bS (i:=0) kB)) (λ_=>cj) bU (λ_ _ _ _ _=>?_)));walk_at "pp"
def kv:bg ["_law_vault","_law_sizes_here","_law_cell_here","_law_numbers","_law_handed","_law_found"] ["_law_vault","_law_sizes_here","_law_cell_here"] (au (top 53)):=.of
theorem qC(F:ba K "_law_kept" "_law_kept" (top 53) dv f fd)(T:Txt K mg)(C:MD base eD cS)(Jw:Bm mg base)(hc:fd.code=.ref eD)(HY:cn P w K mg base 1 "_law_mix" 2 (ay 3 bZ))(Il:cn P w K mg base 3 "_law_row" 3 (ay 3 dz))(Ia:cn P w K mg base 1 "_law_spoiled" 3 (ay 4 bL))(IB:cn P w K mg base 1 "_law_copy" 1 (ay 1 fD))(HX:fR P w K mg base 10 "_law_outcome" aH)(JV:cn P w K mg base 3 "kept" 2 (ay 3 mP))(HZ:cn P w K mg base 1 "_law_are_wholes" 2 (ay 2 bq))(H0:cn P w K mg base 1 "_law_rests" 2 (ay 2 cy))(Ic:cn P w K mg base 3 "_law_same" 2 (aJ 3)):aT P w K mg base (bB P w) 11 f fd ["_law_vault","_law_sizes_here","_law_cell_here"] (spT cS ("_law_kept" ++ ".<locals>." ++ "<lambda>") (eT 3 (aW 3 (ay 6 ed)))) :=
 F.zU (k:=10) kv hc λA outer s H E hT hr O=>by
 unfold ed;have:=kv.nd;have T2:=T;cases T2;walk_at "pp";refine(nW ?_ (j8 ?_)).pt;walk_at "pp";refine(c_ (T := "tuple") (by rfl) T.az (a_ (v:=.ty "tuple") (by rfl) T.fk dN rfl) ↑12 cP cP ?_);walk_at "pp";exact(fR.jY (c:=eD) (Pt:=cS) HX hr ⋯ (by rfl) O (l4 (k:=8) JV ⋯ rfl rfl  rfl (λ_ _ _ _=>rfl)) ⋯ ↑12 C hT Jw rfl rfl rfl rfl rfl (.of rfl rfl rfl (by decide +kernel) ["_law_vault","_law_numbers"] rfl (by decide +kernel) (by decide +kernel)) (.cons rfl (.cons rfl .nil)) (.cons rfl rfl (.cons rfl rfl .nil)));walk_at "pp"
def sX:bg ["_law_script","_law_sizes_here","_law_levers_here","_law_vault","_law_k","_law_cell_here","_law_way"] ["_law_script"] (au (top 54)):=.of
def xI:((["_law_lever"]:List Str)++(["_law_sizes_here"]:List Str)).Nodup:=by decide +kernel
theorem CQ(F:ba K "law" "law" (top 54) dv f fd)(T:Txt K mg)(IA:cn P w K mg base 1 "_law_cell" 2 (ay 3 fE))(HY:cn P w K mg base 1 "_law_mix" 2 (ay 3 bZ))(IV:cn P w K mg base 2 "_law_sizes" 1 (ay 4 gb))(IP:cn P w K mg base 3 "_law_levers" 4 (ay 6 fx))(IU:Fd P w K mg base aL 4 "Vault" 4 [.bz] gM)(IJ:kb P w K mg base 11 "_law_kept" 3 cS ("_law_kept" ++ ".<locals>." ++ "<lambda>") (ay 6 ed))(ID:kb P w K mg base 11 "_law_turned" 4 bY ("_law_turned" ++ ".<locals>." ++ "<lambda>") (ay 11 c6))(IC:kb P w K mg base 11 "_law_pulled" 4 bH ("_law_pulled" ++ ".<locals>." ++ "<lambda>") (ay 10 cC))(Iy:kb P w K mg base 11 "_law_between" 3 bQ ("_law_between" ++ ".<locals>." ++ "<lambda>") (ay 6 cM))(H0:cn P w K mg base 1 "_law_rests" 2 (ay 2 cy))(H_:wV P w K mg base aL 1 "levers" 1 (ay 1 bW))(Ic:cn P w K mg base 3 "_law_same" 2 (aJ 3)):aT P w K mg base (bB P w) 12 f fd ["_law_script"] (xl ts (eT 1 pd)) :=
 F.FR (k:=11) sX λIg A outer s H E hT hr O =>
 by
 have Jl:=hT _ (.head _);have Jk:=hT _ (.tail _ (.head _));have Jh:=hT _ (.tail _ (.tail _ (.head _)));have JG:=hT _ (.tail _ (.tail _ (.tail _ (.head _))));unfold uM;have:=sX.nd;have T2:=T;cases T2;walk_at "pp";refine(eo (g:=(br 4)) O rfl (vZ (by rfl) T.dc ?_) yn (bS (i:=4) sX.nd) cj ?_);walk_at "pp";refine(jc (oU rfl) ql (by rfl) T.yM x9 ?_);walk_at "pp";refine(jc (v8 rfl) ql (by rfl) T.Bn BD ?_);walk_at "pp";refine(nW ?_ (j8 ?_)).pt;walk_at "pp";refine(kb.call IJ JG hr ⋯ (by rfl) O ?_);walk_at "pp";refine(nW ?_ (j8 ?_)).pt;walk_at "pp";refine(kb.call ID Jl hr ⋯ (by rfl) O ?_);walk_at "pp";refine(nW ?_ (j8 ?_)).pt;walk_at "pp";refine(kb.call IC Jk hr ⋯ (by rfl) O ?_);walk_at "pp";refine(nW ?_ (j8 ?_)).pt;walk_at "pp";refine(kb.call Iy Jh hr ⋯ (by rfl) O ?_);walk_at "pp";refine(fO (dM (g:=(br 0)) (ts:=["_law_lever"]) (fs:=["_law_sizes_here"]) (js:=[1]) rfl rfl rfl rfl rfl rfl (.cons rfl .nil) ↑4 (mR ?_) kh (λ_ _ _ _ _=>(bS (i:=0) xI)) (λ_=>cj) bU (λ_ _ _ _ _=>?_)));walk_at "pp"
end l_
namespace l_
open PySem L2 PyProof.Rows
open PySem.W (nsIn findIn codeIn keepIn isFn mroIn specialIn takesIn hasDictIn typeIn plainGet plainOver makesIn mg_of mg_none_of fnOf excIn clsIn)
abbrev κ(w:World):LI:=HD.K w.params
variable(w:World)
abbrev Ff:Value:=HD.st "dialvault.wholes" 386
abbrev rW:Value:=HD.st "dialvault.vault" 422
abbrev qE:Value:=HD.st "law_dialvault_k13_kept_and_turned" 615
abbrev GL:Value:=HD.st "dialvault.errors" 194
def dD:FuncData:=qH "_law_same" "_law_same" (top 39) qE 363
def dk:ba (κ w) "_law_same" "_law_same" (top 39) .none 364 dD:=.of ↑10 ↑10 ↑10
def gK:Binds (κ w) dD ["_law_found","_law_due"] []:=Binds.all (Fh λ_ _=>rfl)
def iK:FuncData:=qH "_law_outcome" "_law_outcome" (top 48) qE 416
def mC:ba (κ w) "_law_outcome" "_law_outcome" (top 48) .none 417 iK:=.of ↑10 ↑10 ↑10
def nh:Binds (κ w) iK ["_law_ask"] []:=Binds.all (Hm λ_=>rfl)
def gS:FuncData:=fnOf "__init__" "Vault.__init__" (f9 (inClass (top 21) 0)) (cR (inClass (top 21) 0)) (au (inClass (top 21) 0)) (.ref 210) .none .none rW none (.ref 214) .none
def j4:ba (κ w) "__init__" "Vault.__init__" (inClass (top 21) 0) (.ref 210) 215 gS:=.of ↑10 ↑10 ↑10
def g_:FuncData:=fnOf "pulled" "pulled" (f9 (top 34)) (cR (top 34)) (au (top 34)) (.ref 329) .none .none rW none (.ref 335) .none
def i6:ba (κ w) "pulled" "pulled" (top 34) (.ref 329) 336 g_:=.of ↑10 ↑10 ↑10
def gx:FuncData:=qH "_law_turned" "_law_turned" (top 49) qE 423
def jz:ba (κ w) "_law_turned" "_law_turned" (top 49) .none 424 gx:=.of ↑10 ↑10 ↑10
def oJ:Binds (κ w) gx ["_law_vault","_law_sizes_here","_law_levers_here","_law_cell_here"] []:=Binds.all (Hk λ_ _ _ _=>rfl)
def gu:FuncData:=qH "_law_pulled" "_law_pulled" (top 51) qE 435
def jw:ba (κ w) "_law_pulled" "_law_pulled" (top 51) .none 436 gu:=.of ↑10 ↑10 ↑10
def oE:Binds (κ w) gu ["_law_vault","_law_sizes_here","_law_levers_here","_law_cell_here"] []:=Binds.all (Hk λ_ _ _ _=>rfl)
def fN:FuncData:=qH "_law_between" "_law_between" (top 52) qE 440
def jd:ba (κ w) "_law_between" "_law_between" (top 52) .none 441 fN:=.of ↑10 ↑10 ↑10
def nL:Binds (κ w) fN ["_law_vault","_law_sizes_here","_law_cell_here"] []:=Binds.all (He λ_ _ _=>rfl)
def ik:FuncData:=qH "_law_kept" "_law_kept" (top 53) qE 447
def lL:ba (κ w) "_law_kept" "_law_kept" (top 53) .none 448 ik:=.of ↑10 ↑10 ↑10
def sA:Binds (κ w) ik ["_law_vault","_law_sizes_here","_law_cell_here"] []:=Binds.all (He λ_ _ _=>rfl)
def tP:FuncData:=qH "law" "law" (top 54) qE 452
def El:ba (κ w) "law" "law" (top 54) .none 453 tP:=.of ↑10 ↑10 ↑10
def hX:eU (κ w) bw:=⟨↑10,↑10,↑10,↑10,↑10,↑10,↑10,↑10,↑10⟩
def f6:eU (κ w) aQ:=⟨↑10,↑10,↑10,↑10,↑10,↑10,↑10,↑10,↑10⟩
def iJ:eU (κ w) eh:=⟨↑10,↑10,↑10,↑10,↑10,↑10,↑10,↑10,↑10⟩
def g8:eU (κ w) dO:=⟨↑10,↑10,↑10,↑10,↑10,↑10,↑10,↑10,↑10⟩
def gE:FuncData:=qH "__init__" "NoDial.__init__" (inClass (top 3) 0) GL 54
def Gh:(κ w).lookup 55=some ⟨.type "function",none,.func gE,⟨[]⟩⟩:=by kernel_rfl
def F5:codeIn (κ w) (.ref 54) "NoDial.__init__"=true:=by kernel_rfl
def t8:Binds (κ w) gE ["self","dial"] []:=Binds.all (Fh λ_ _=>rfl)
def uj:bg ["self","dial"] ["self","dial"] (au (inClass (top 3) 0)):=.of
def FH:((clsIn (κ w) 65).any λcd=>f7 cd.mro)=true:=by kernel_rfl
def FJ:findIn (κ w) (.ref 65) "dial"=some none:=by kernel_rfl
def tU{P:Program}{w:World}{mg:Str->Option Value}{base:Heap}:aT P w (κ w) mg base (bB P w) 1 55 gE ["self","dial"] (vt (κ w) dO "dial") :=
 nG (n0 := "self") (n1 := "dial") (fl := "dial") (Gh w) (F5 w) uj (g8 w) (FH w) (FJ w) ↑3 ↑3 ↑12 ↑12 ↑12 ↑12 (λ_=>rfl)
def fc:eU (κ w) aY:=⟨↑10,↑10,↑10,↑10,↑10,↑10,↑10,↑10,↑10⟩
def fU:FuncData:=qH "__init__" "NoLever.__init__" (inClass (top 4) 0) GL 80
def Fy:(κ w).lookup 81=some ⟨.type "function",none,.func fU,⟨[]⟩⟩:=by kernel_rfl
def FW:codeIn (κ w) (.ref 80) "NoLever.__init__"=true:=by kernel_rfl
def sv:Binds (κ w) fU ["self","lever"] []:=Binds.all (Fh λ_ _=>rfl)
def rV:bg ["self","lever"] ["self","lever"] (au (inClass (top 4) 0)):=.of
def GJ:((clsIn (κ w) 91).any λcd=>f7 cd.mro)=true:=by kernel_rfl
def G0:findIn (κ w) (.ref 91) "lever"=some none:=by kernel_rfl
def sk{P:Program}{w:World}{mg:Str->Option Value}{base:Heap}:aT P w (κ w) mg base (bB P w) 1 81 fU ["self","lever"] (vt (κ w) aY "lever") :=
 nG (n0 := "self") (n1 := "lever") (fl := "lever") (Fy w) (FW w) rV (fc w) (GJ w) (G0 w) ↑3 ↑3 ↑12 ↑12 ↑12 ↑12 (λ_=>rfl)
def e8:eU (κ w) cw:=⟨↑10,↑10,↑10,↑10,↑10,↑10,↑10,↑10,↑10⟩
def fV:FuncData:=qH "__init__" "NoPrice.__init__" (inClass (top 5) 0) GL 106
def FT:(κ w).lookup 107=some ⟨.type "function",none,.func fV,⟨[]⟩⟩:=by kernel_rfl
def FD:codeIn (κ w) (.ref 106) "NoPrice.__init__"=true:=by kernel_rfl
def qZ:Binds (κ w) fV ["self","lever"] []:=Binds.all (Fh λ_ _=>rfl)
def rN:bg ["self","lever"] ["self","lever"] (au (inClass (top 5) 0)):=.of
def G4:((clsIn (κ w) 117).any λcd=>f7 cd.mro)=true:=by kernel_rfl
def G2:findIn (κ w) (.ref 117) "lever"=some none:=by kernel_rfl
def r0{P:Program}{w:World}{mg:Str->Option Value}{base:Heap}:aT P w (κ w) mg base (bB P w) 1 107 fV ["self","lever"] (vt (κ w) cw "lever") :=
 nG (n0 := "self") (n1 := "lever") (fl := "lever") (FT w) (FD w) rN (e8 w) (G4 w) (G2 w) ↑3 ↑3 ↑12 ↑12 ↑12 ↑12 (λ_=>rfl)
def gg:ot (κ w) aL:=⟨↑10,↑10,↑10,↑10⟩
def Em:findIn (κ w) (.ref 246) "dial_sizes"=some none:=by kernel_rfl
def Ek:findIn (κ w) (.ref 246) "least_round"=some none:=by kernel_rfl
def DO:findIn (κ w) (.ref 246) "lever_prices"=some none:=by kernel_rfl
def Ew:findIn (κ w) (.ref 246) "lever_settings"=some none:=by kernel_rfl
def F3:nsIn (κ w) mainGlobals "LEAST_PRICE"=some (some (.int 1 432)):=by kernel_rfl
def Gz:nsIn (κ w) mainGlobals "LEAST_SIZE"=some (some (.int 2 426)):=by kernel_rfl
def Fz:nsIn (κ w) mainGlobals "MOST_DIALS"=some (some (.int 6 424)):=by kernel_rfl
def FY:nsIn (κ w) mainGlobals "MOST_LEVERS"=some (some (.int 8 430)):=by kernel_rfl
def GU:nsIn (κ w) mainGlobals "MOST_PRICE"=some (some (.int 1000 434)):=by kernel_rfl
def GY:nsIn (κ w) mainGlobals "MOST_SIZE"=some (some (.int 360 428)):=by kernel_rfl
def Ge:nsIn (κ w) mainGlobals "VaultError"=some (some (.ref 38)):=by kernel_rfl
def GG:wR (λC=>OC (κ w) (.ref C) (.ref kz)) c8 c5=true:=by kernel_rfl
def GV:nsIn (κ w) mainGlobals "NoLever"=some (some (.ref 91)):=by kernel_rfl
def F7:(zl.all λa=>L6 (κ w) (.type a) (.ref aY)==some false)=true:=by kernel_rfl
def Gy:wR (λC=>L6 (κ w) (.ref C) (.ref aY)) iA hW=true:=by kernel_rfl
def GR:wR (λC=>L6 (κ w) (.ref C) (.ref aY)) eZ e_=true:=by kernel_rfl
def F9:nsIn (κ w) mainGlobals "NoPulls"=some (some (.ref 155)):=by kernel_rfl
def GF:(zl.all λa=>L6 (κ w) (.type a) (.ref bw)==some false)=true:=by kernel_rfl
def Gk:wR (λC=>L6 (κ w) (.ref C) (.ref bw)) jH jD=true:=by kernel_rfl
def Ga:wR (λC=>L6 (κ w) (.ref C) (.ref bw)) gj gv=true:=by kernel_rfl
def FI:nsIn (κ w) mainGlobals "NoSetting"=some (some (.ref 136)):=by kernel_rfl
def GQ:(zl.all λa=>L6 (κ w) (.type a) (.ref aQ)==some false)=true:=by kernel_rfl
def FP:wR (λC=>L6 (κ w) (.ref C) (.ref aQ)) iH iC=true:=by kernel_rfl
def Gf:wR (λC=>L6 (κ w) (.ref C) (.ref aQ)) eI eA=true:=by kernel_rfl
def Fv:findIn (κ w) (.ref cw) "lever"=some none:=by kernel_rfl
def Fu:findIn (κ w) (.ref aY) "lever"=some none:=by kernel_rfl
def zD:nsIn (κ w) mainGlobals "_law_same"=some (some (.ref 364)):=by kernel_rfl
def Gv:(κ w).lookup 210=some (HD.tu [.none]):=by kernel_rfl
def qo:Binds (κ w) gS ["self","sizes","levers","prices"] [.none]:=(j4 w).binds (Gv w) rfl λ_ _ _ _ _ _ us hl=>by obtain⟨a,b,c,rfl⟩:=Fl (show _=3 from (by simpa using hl));exact⟨_,rfl,rfl⟩
def EC:(κ w).lookup 329=some (HD.tu [.int 1 594]):=by kernel_rfl
def yz:Binds (κ w) g_ ["vault","setting","lever","times"] []:=(i6 w).binds (EC w) rfl λ_ _ _ _ _ _ us hl=>by obtain⟨a,b,c,d,rfl⟩:=Hb (show _=4 from (by simpa using hl));exact⟨_,rfl,rfl⟩
def vI:Binds (κ w) g_ ["vault","setting","lever","times"] [.int 1 594]:=(i6 w).binds (EC w) rfl λ_ _ _ _ _ _ us hl=>by obtain⟨a,b,c,rfl⟩:=Fl (show _=3 from (by simpa using hl));exact⟨_,rfl,rfl⟩
variable{h:Heap}
def txt{w:World}{mg:Str->Option Value}(X:RW (κ w) h)(G:h.Ns mainGlobals mg):Txt (κ w) mg where
 EK:=mg_none_of X G ↑10
 lu:=mg_none_of X G ↑10
 iZ:=mg_none_of X G ↑10
 uv:=mg_none_of X G ↑10
 az:=mg_none_of X G ↑10
 Ep:=mg_none_of X G ↑10
 iq:=mg_none_of X G ↑10
 yM:=mg_none_of X G ↑10
 Bn:=mg_none_of X G ↑10
 dc:=mg_none_of X G ↑10
 xx:=mg_none_of X G ↑10
 fk:=mg_none_of X G ↑10
 oZ:=mg_none_of X G ↑10
 oK:=⟨_,mg_of X G (F3 w),⟨_,rfl⟩⟩
 qD:=⟨_,mg_of X G (Gz w),⟨_,rfl⟩⟩
 pU:=⟨_,mg_of X G (Fz w),⟨_,rfl⟩⟩
 oB:=⟨_,mg_of X G (FY w),⟨_,rfl⟩⟩
 pQ:=⟨_,mg_of X G (GU w),⟨_,rfl⟩⟩
 qW:=⟨_,mg_of X G (GY w),⟨_,rfl⟩⟩
 kj:=gg w
 vX:=⟨↑10,hX w,↑10,↑10,mg_of X G ↑10⟩
 qV:=⟨↑10,f6 w,↑10,↑10,mg_of X G ↑10⟩
 wm:=⟨↑10,iJ w,↑10,↑10,mg_of X G ↑10⟩
 iu:=.of (mg_of X G (Ge w)) (GG w)
 kQ:=.of (mg_of X G (GV w)) (F7 w) (Gy w) (GR w) kS kS (o6 (fc w) kS) (o6 (g8 w) (o6 (e8 w) (o6 (hX w) (o6 (f6 w) (o6 (iJ w) kS)))))
 pF:=.of (mg_of X G (F9 w)) (GF w) (Gk w) (Ga w) kS kS (o6 (hX w) kS) (o6 (g8 w) (o6 (fc w) (o6 (e8 w) (o6 (f6 w) (o6 (iJ w) kS)))))
 lN:=.of (mg_of X G (FI w)) (GQ w) (FP w) (Gf w) kS kS (o6 (f6 w) kS) (o6 (g8 w) (o6 (fc w) (o6 (e8 w) (o6 (hX w) (o6 (iJ w) kS)))))
 rh:=(o6 ⟨fc w,(Fu w)⟩ (o6 ⟨e8 w,(Fv w)⟩ kS))
 gy:=(Em w)
 fP:=(Ek w)
 fF:=(DO w)
 eE:=(Ew w)
 qi:=λC h=>by obtain rfl:=eq_of_beq h;exact⟨gg w,(Em w)⟩
 oq:=λC h=>by obtain rfl:=eq_of_beq h;exact⟨gg w,(Ek w)⟩
 mZ:=λC h=>by obtain rfl:=eq_of_beq h;exact⟨gg w,(DO w)⟩
 la:=λC h=>by obtain rfl:=eq_of_beq h;exact⟨gg w,(Ew w)⟩
theorem BJ{P:Program}{w:World}{mg:Str->Option Value}(X:RW (κ w) h)(G:h.Ns mainGlobals mg)(base:Heap)(hC:∀t∈ts,MD base t.1 t.2.1)(Jw:Bm mg base)(cU:∀(f:Addr)(ps:List PV)(vs:List V)(r:Nat)(ask:M PV),ps.length=vs.length->vs.length+r=4->(bG (oa 0 (1+4) f ps vs ask) (p_ 4 f ps vs r)).bind iU=aH ask):aT P w (κ w) mg base (bB P w) 12 453 tP ["_law_script"] (xl ts (eT 1 pd)):=by
 have T:=txt X G;have JQ:oP P w (κ w) mg base dO "NoDial" "dial" := ⟨⟨55,gE,["self","dial"],↑10,↑10,tU,t8 w⟩,g8 w,↑10,↑10,mg_of X G ↑10⟩
 have IM:oP P w (κ w) mg base aY "NoLever" "lever" := ⟨⟨81,fU,["self","lever"],↑10,↑10,sk,sv w⟩,fc w,↑10,↑10,mg_of X G ↑10⟩
 have JF:oP P w (κ w) mg base cw "NoPrice" "lever" := ⟨⟨107,fV,["self","lever"],↑10,↑10,r0,qZ w⟩,e8 w,↑10,↑10,mg_of X G ↑10⟩
 have Ir:=kD P w base X G 183 182 Ff λD=>rF D T;have Iv:=kD P w base X G 188 187 Ff λD=>wc D T Ir;have JN:=kD P w base X G 195 194 Ff λD=>wo D T;have IQ:=kD P w base X G 202 201 Ff λD=>nI D T JN;have Ip:=kD P w base X G 257 256 rW λD=>pW D T Ir;have IY:=kD P w base X G 264 263 rW λD=>oo D T JQ Ip;have IS:=kD P w base X G 271 270 rW λD=>nY D T Iv IM;have IZ:=kD P w base X G 278 277 rW λD=>oF D T JF Ip;have IL:=kD P w base X G 283 282 rW λD=>xK D T;have IA:=kD P w base X G 350 349 qE λD=>qB D T;have HY:=kD P w base X G 357 356 qE λD=>rX D T;have Jz:cn P w (κ w) mg base 0 "_law_same" 2 (aJ 0):=⟨⟨364,dD,["_law_found","_law_due"],mg_of X G (zD w),(dk w).kp,rfl,gK w,aT.no⟩⟩
 have JA:cn P w (κ w) mg base 1 "_law_same" 2 (aJ 1):=⟨⟨364,dD,["_law_found","_law_due"],mg_of X G (zD w),(dk w).kp,rfl,gK w,iE (dk w) T Jz ⋯ ⟩⟩
 have JB:cn P w (κ w) mg base 2 "_law_same" 2 (aJ 2):=⟨⟨364,dD,["_law_found","_law_due"],mg_of X G (zD w),(dk w).kp,rfl,gK w,iE (dk w) T JA ⋯ ⟩⟩
 have Ic:cn P w (κ w) mg base 3 "_law_same" 2 (aJ 3):=⟨⟨364,dD,["_law_found","_law_due"],mg_of X G (zD w),(dk w).kp,rfl,gK w,iE (dk w) T JB ⋯ ⟩⟩
 have Ij:=kD P w base X G 371 370 qE λD=>nv D T HY;have IV:=kD P w base X G 378 377 qE λD=>oA D T HY;have IP:=kD P w base X G 383 382 qE λD=>mr D T IA Ij;have Il:=kD P w base X G 388 387 qE λD=>rg D T HY Ij;have Ia:=kD P w base X G 395 394 qE λD=>lV D T;have HZ:=kD P w base X G 400 399 qE λD=>jJ D T;have Ib:=kD P w base X G 405 404 qE λD=>jC D T HZ;have H0:=kD P w base X G 410 409 qE λD=>oj D T;have HX:fR P w (κ w) mg base 10 "_law_outcome" aH:=lW (mC w) (mg_of X G ↑10) (nh w) T cU;have IB:=kD P w base X G 431 430 qE λD=>qu D T;have IU:Fd P w (κ w) mg base aL 4 "Vault" 4 [.bz] gM:=⟨⟨215,gS,["self","sizes","levers","prices"],[.none],[.bz],mg_of X G ↑10,⟨↑10,↑10,↑10,↑10⟩,qo w,(.cons rfl .nil),λ_=>(.cons .bz .nil),oM (j4 w) T IY IS IL IZ IQ⟩⟩
 have Ii:=Hg P w base (gg w) 222 221 rW λD=>nO D T;have H_:=Hg P w base (gg w) 229 228 rW λD=>l9 D T;have IW:=kD P w base X G 288 287 rW λD=>oO D T Ii Iv;have Jq:=kD P w base X G 295 294 rW λD=>rT D T H_ Iv;have Ie:=kD P w base X G 302 301 rW λD=>l7 D T IW;have IX:=kD P w base X G 309 308 rW λD=>n_ D T Jq;have JV:=kD P w base X G 316 315 rW λD=>zM D T Ii Iv IL;have IK:=kD P w base X G 321 320 rW λD=>yq D T Ii IL;have Js:=kD P w base X G 328 327 rW λD=>vC D T Ie IX H_ IK;have JP:=vH (i6 w) T Ie H_ Ip IM Ir IK (P:=P) (base:=base);have Jr:cn P w (κ w) mg base 5 "pulled" 4 (ay 5 dP):=⟨⟨336,g_,["vault","setting","lever","times"],mg_of X G ↑10,(i6 w).kp,rfl,yz w,JP⟩⟩
 have Je:DI P w (κ w) mg base 5 "pulled" 4 [.int 1] (ay 5 dP):=⟨⟨336,g_,["vault","setting","lever","times"],[.int 1 594],[.int 1],mg_of X G ↑10,(i6 w).kp,vI w,(.cons ⟨_,rfl⟩ .nil),λ_=>(.cons (.int _) .nil),JP⟩⟩
 have Jd:=kD P w base X G 343 342 rW λD=>sQ D T Ie IK;have ID:kb P w (κ w) mg base 11 "_law_turned" 4 bY ("_law_turned" ++ ".<locals>." ++ "<lambda>") (ay 11 c6):=⟨⟨424,gx,["_law_vault","_law_sizes_here","_law_levers_here","_law_cell_here"],mg_of X G ↑10,(jz w).kp,rfl,oJ w,mO (jz w) T (hC _ (.head _)) Jw rfl HY Il Ia IB HX Js Ib HZ H0 Ic⟩⟩
 have IC:kb P w (κ w) mg base 11 "_law_pulled" 4 bH ("_law_pulled" ++ ".<locals>." ++ "<lambda>") (ay 10 cC):=⟨⟨436,gu,["_law_vault","_law_sizes_here","_law_levers_here","_law_cell_here"],mg_of X G ↑10,(jw w).kp,rfl,oE w,nS (jw w) T (hC _ (.tail _ (.head _))) Jw rfl HY Il Ia Ij HX Jr Je Ib HZ H0 Ic⟩⟩
 have Iy:kb P w (κ w) mg base 11 "_law_between" 3 bQ ("_law_between" ++ ".<locals>." ++ "<lambda>") (ay 6 cM):=⟨⟨441,fN,["_law_vault","_law_sizes_here","_law_cell_here"],mg_of X G ↑10,(jd w).kp,rfl,nL w,ma (jd w) T (hC _ (.tail _ (.tail _ (.head _)))) Jw rfl HY Il Ia HX Jd Ib H0 Ic⟩⟩
 have IJ:kb P w (κ w) mg base 11 "_law_kept" 3 cS ("_law_kept" ++ ".<locals>." ++ "<lambda>") (ay 6 ed):=⟨⟨448,ik,["_law_vault","_law_sizes_here","_law_cell_here"],mg_of X G ↑10,(lL w).kp,rfl,sA w,qC (lL w) T (hC _ (.tail _ (.tail _ (.tail _ (.head _))))) Jw rfl HY Il Ia IB HX JV HZ H0 Ic⟩⟩
 exact CQ (El w) T IA HY IV IP IU IJ ID IC Iy H0 H_ Ic
def F0:qL (κ w)=true:=by kernel_rfl
def Gd:Pp (κ w)=true:=by kernel_rfl
def Gj:OQ (κ w) "_law_turned"=some (dj,bY):=by kernel_rfl
def GS:OQ (κ w) "_law_pulled"=some (cL,bH):=by kernel_rfl
def F6:OQ (κ w) "_law_between"=some (cZ,bQ):=by kernel_rfl
def FL:OQ (κ w) "_law_kept"=some (eD,cS):=by kernel_rfl
def F_:nsIn (κ w) mainGlobals "law"=some (some (.ref 453)):=by kernel_rfl
end l_
open PySem PySem.W
def l_.hold(said:PySem.Challenge.rw_dialvault_k13_kept_and_turned.wellSaid=true)(cU:∀(f:Addr)(ps:List L2.PV)(vs:List L2.V)(r:Nat)(ask:L2.M L2.PV),ps.length=vs.length->vs.length+r=4->(l_.bG (L2.oa 0 (1+4) f ps vs ask) (L2.p_ 4 f ps vs r)).bind L2.iU=l_.aH ask)(JI:∀ns:List Int,ns.length<=63->(∀i∈ns,O_ i<=1048576)->l_.pd [.eS (ns.map L2.PV.int)]=L2.M.ok (.bl true)):PySem.Challenge.rw_dialvault_k13_kept_and_turned.Holds:=by
 refine holds_law said λsaid=>?_;refine holds_open (q:=HD.vw) (loose:=HD.loose) (Xt:=HD.Xt) (XP:=XL HD.vw []) (Yf:=Hook.obs HD.hook) (Ya:=Hook.val HD.hook) (YP:=Hook.says HD.hook) HD.D8 (Hook.of HD.hook) (Hook.keeps HD.hook) (λs e=>xl_of s (ND.mp e).1) XL.keeps (by rfl) (by rfl) (by rfl) (λs e=>recFacts_of (ND.mp e).2) (by rfl) said (by decide +kernel) ⟨rfl,rfl,rfl,rfl,rfl,by decide +kernel⟩ ?hw ?hc
 case hw=>w_witness2
 refine L2.ud (l:=PySem.Challenge.rw_dialvault_k13_kept_and_turned) (n:=63) (k:=12) (x := "_law_script") (K:=HD.K) (sem:=l_.pd) (ts:=l_.ts) rfl ↑12 rfl ⟨rfl,by decide,by decide⟩ (λw h Y=>PySem.W.kIn_of Y) (λw=>(l_.F0 w)) (λw=>(l_.Gd w)) ↑12 (λw Kp mg mb h T X=>(L2.hZ (L2.mj T X (x := "_law_turned") (by decide +kernel) (l_.Gj w)) (L2.hZ (L2.mj T X (x := "_law_pulled") (by decide +kernel) (l_.GS w)) (L2.hZ (L2.mj T X (x := "_law_between") (by decide +kernel) (l_.F6 w)) (L2.hZ (L2.mj T X (x := "_law_kept") (by decide +kernel) (l_.FL w)) L2.wy))))) (λw mg fa h X G hmg=>?_) JI;have e:=hmg.symm.trans (R7 X G (l_.F_ w));cases e;exact⟨l_.tP,λs v=>.of_eq rfl,λbase X' G' hC Jw=>l_.BJ X' G' base hC Jw cU⟩
namespace Eu
def oW(a b:Int)(hb:b≠0):(a-a.fdiv b*b).natAbs<b.natAbs/\0<=(a-a.fdiv b*b)*b/\(0<=a*b->a.natAbs=(a.fdiv b).natAbs*b.natAbs+(a-a.fdiv b*b).natAbs):=by
 have pos:∀(a b:Int),0<b->(a-a/b*b).natAbs<b.natAbs/\0<=(a-a/b*b)*b/\(0<=a*b->a.natAbs=(a/b).natAbs*b.natAbs+(a-a/b*b).natAbs):=by
  intro a b hb;have e:a-a/b*b=a%b:=by
   have h:=Ql a b;rw[Ro] at h;lia
  have h0:=Mq a (by lia:b≠0);have h1:=Ma a hb;rw[e];refine⟨by lia,R0 h0 ⋯,λhab=>?_⟩;have ha:0<=a:=by
   rcases Int.lt_or_le a 0 with h|h
   .have:=Int.mul_neg_of_neg_of_pos h hb;lia
   .exact h
  have hq:0<=a/b:=RX ha ⋯;have h2:=Ql a b;have h3:((a/b).natAbs*b.natAbs:Nat)=(b*(a/b)).natAbs:=by
   rw[OE,Pa]
  rw[h3];have h4:0<=b*(a/b):=R0 ⋯ hq;lia
 rcases Int.lt_or_le 0 b with h|h
 .rw[NZ a ⋯];exact pos a b h
 .have h':0 < -b:=by lia
  have e:a.fdiv b=(-a)/(-b):=by
   rw[<- NZ (-a) (by lia:0<=-b),Int.neg_fdiv_neg]
  obtain⟨p1,p2,p3⟩:=pos (-a) (-b) h';have e2:-a-(-a)/(-b)*(-b)=-(a-a.fdiv b*b):=by
   rw[<- e,Int.mul_neg];lia
  rw[e2] at p1 p2 p3;rw[<- e] at p3;simp only[Qu,Int.neg_mul_neg] at p1 p2 p3;exact⟨p1,p2,p3⟩
structure St (a b:Int) (r s t r' s' t':Int):Prop where
 c0:r=s*a+t*b
 c1:r'=s'*a+t'*b
 dv:∀d:Int,d∣r->d∣r'->d∣a/\d∣b
 bd:s'.natAbs*r.natAbs+s.natAbs*r'.natAbs<=b.natAbs
 sg:s'=0\/0<=r*r'
 b0:s.natAbs<=b.natAbs+1
 b1:s'.natAbs<=b.natAbs+1
 d0:t.natAbs<=a.natAbs+(b.natAbs+1)*a.natAbs+b.natAbs+1
 d1:t'.natAbs<=a.natAbs+(b.natAbs+1)*a.natAbs+b.natAbs+1
 m0:r.natAbs<=a.natAbs+b.natAbs
 m1:r'.natAbs<=b.natAbs
def start(a b:Int):St a b a 1 0 b 0 1 where
 c0:=by lia
 c1:=by lia
 dv:=λd h1 h2=>⟨h1,h2⟩
 bd:=by simp
 sg:=.inl rfl
 b0:=by lia
 b1:=by lia
 d0:=by simp
 d1:=by lia
 m0:=by lia
 m1:=by lia
def turn{a b r s t r' s' t':Int}(h:St a b r s t r' s' t')(h0:r'≠0):St a b r' s' t' (r-r.fdiv r'*r') (s-r.fdiv r'*s') (t-r.fdiv r'*t')/\(r-r.fdiv r'*r').natAbs<r'.natAbs:=by
 obtain⟨f1,f2,f3⟩:=oW r r' h0;generalize hq:r.fdiv r'=q at *;have hb:b≠0:=by
  intro z;have:=h.m1;lia
 have Lr:1<=r'.natAbs:=by lia
 have c1':r-q*r'=(s-q*s')*a+(t-q*t')*b:=by
  rw[h.c0,h.c1,Int.sub_mul,Int.sub_mul,Int.mul_add,R8,R8];lia
 have bd':(s-q*s').natAbs*r'.natAbs+s'.natAbs*(r-q*r').natAbs<=b.natAbs:=by
  have A9:(s-q*s').natAbs<=s.natAbs+q.natAbs*s'.natAbs:=by
   rw[<- OE];lia
  have hbd:=h.bd;rcases h.sg with z|z
  .subst z;simp only[Int.mul_zero,Int.sub_zero,Int.natAbs_zero,Nat.zero_mul,Nat.zero_add,Nat.add_zero] at hbd ⊢;exact hbd
  .have e:=f3 z;have k1:(s-q*s').natAbs*r'.natAbs<=(s.natAbs+q.natAbs*s'.natAbs)*r'.natAbs:=OX _ A9;have k2:(s.natAbs+q.natAbs*s'.natAbs)*r'.natAbs+s'.natAbs*(r-q*r').natAbs=s'.natAbs*r.natAbs+s.natAbs*r'.natAbs:=by
    rw[e,Nat.add_mul,Nat.mul_add,Pa q.natAbs s'.natAbs,Nat.mul_assoc];lia
   lia
 have b1':(s-q*s').natAbs<=b.natAbs:=by
  have:(s-q*s').natAbs*1<=(s-q*s').natAbs*r'.natAbs:=N9 _ Lr;lia
 have mm:(r-q*r').natAbs<=b.natAbs:=by
  have:=h.m1;lia
 have d1':(t-q*t').natAbs<=a.natAbs+(b.natAbs+1)*a.natAbs+b.natAbs+1:=by
  have e:(t-q*t')*b=(r-q*r')-(s-q*s')*a:=by lia
  have e1:((t-q*t')*b).natAbs<=(r-q*r').natAbs+((s-q*s')*a).natAbs:=by lia
  rw[OE,OE] at e1;have k1:(t-q*t').natAbs*1<=(t-q*t').natAbs*b.natAbs:=N9 _ ⋯;have k2:(s-q*s').natAbs*a.natAbs<=(b.natAbs+1)*a.natAbs:=OX _ ⋯;lia
 refine⟨⟨h.c1,c1',λd e1 e2=>?_,bd',?_,h.b1,by lia,h.d1,d1',?_,mm⟩,f1⟩
 .refine h.dv d ?_ e1;have e3:d∣q*r':=QG e1 (PU _ _);have e4:=Int.dvd_add e2 e3
  rwa [Int.sub_add_cancel] at e4
 .exact .inr (by rwa[Ro])
 .have:=h.m1;lia
def done{a b r s t s' t':Int}(h:St a b r s t 0 s' t'):r∣a/\r∣b:=h.dv r (Int.dvd_refl r) (Int.dvd_zero r)
end Eu
namespace Lc
def EL(ns:List Nat):Nat:=ns.foldl P_ 1
def w8(m n:Nat):m/Nat.gcd m n*n=P_ m n:=by
 unfold P_;rw[Nat.div_mul_right_comm (Nat.gcd_dvd_left m n)]
end Lc
namespace Rg
abbrev xj:=Nat->Int
def G9(s:xj)(D:Nat->xj)(d:Nat):Int:=if D d d=0 then s d else D d d
def G(n:Nat)(s:xj)(D:Nat->xj):Nat->Nat->xj->Prop
 | 0,_,v=>∀i,i<n->s i∣v i
 |k+1,d,v=>G9 s D d∣v d/\G n s D k (d+1) λi=>v i-v d/G9 s D d*D d i
variable{D:Nat->xj}{s:xj}{n:Nat}
section
variable{D' L:Nat->xj}{u v g:Nat->Int}
end
section
variable{D':Nat->xj}
variable{f:Nat}{W:Nat->xj}
end
def l8:Nat->(Nat->Int)->Int
 | 0,_=>0
 |m+1,f=>l8 m f+f m
def vf(xs:List Int):xj:=λi=>xs.getD i 0
variable{xs:List Int}
def cN{i:Nat}(h:i<xs.length):vf xs i=xs[i]:=by
 unfold vf;rw[Mc,LL h];rfl
def yg(xs:List Int)(a:Int)(ys:List Int)(b:Int):List Int:=(xs.zip ys).map λz=>a*z.1+b*z.2
def sJ{ys:List Int}(hl:xs.length=ys.length)(h:∀i,i<xs.length->vf xs i=vf ys i):xs=ys:=by
 refine PX hl λi h1 h2=>?_;have:=h i h1
 rwa [cN h1,cN h2] at this
def Bd(B:Nat)(xs:List Int):Prop:=∀x∈xs,x.natAbs<2^B
abbrev Row:=List Int×List Int
section
variable{c:Int->Int->Int×Int}{HP:List Int}{rows:List Row}{left:Row}{m:Nat}
end
end Rg
namespace l_
open PySem L2 PyProof.Rows Rg
local macro_rules|`(tactic| dsimp? [$ts,*])=>do
 let l<-("cI aW ay i_ ao qU rG retS aX wb jx dY aj M.aS M.bind_some M.bind_none M.xS M.bind_assoc ae ak ah aa ai Ae zS BA BV Dm Ca BE Bz CJ Dz Ct BW CL BO B6 Cj bO cm mw ux Aa oz HM Gg k7 vV fM zC itemsOf k8 AZ AW vP zE z_ y_ xb xO z8 Au x8 xi yb bV fK pC Dj List.length_cons List.length_nil List.map_cons List.map_nil List.cons_append List.nil_append List.replicate List.getElem?_cons_zero List.getElem?_cons_succ List.getElem?_nil List.set_cons_zero List.set_cons_succ List.set_nil Nat.reduceAdd Nat.reduceSub if_true if_false Bool.not_true Bool.not_false Bool.false_eq_true ite_true ite_false reduceIte reduceCtorEq Nat.sub_self jS eV dS Option.map_some Option.map_none iV Dw C3 AK Av Ag CT zz zV Ay dH List.any_cons List.any_nil String.reduceBEq Bool.or_false Bool.or_true Bool.true_or Bool.false_or Bool.and_true Bool.and_false Bool.true_and Bool.false_and Ao zQ Ck BP zP Ai Ap zT xW zh ko wH List.foldl_cons List.foldl_nil p7".splitOn " ").toArray.mapM fun n=>`(Lean.Parser.Tactic.simpLemma|$(Lean.mkIdent n.toName):term)
 `(tactic| simp only[$(⟨(Lean.Syntax.TSepArray.ofElems (sep:=",") l).elemsAndSeps⟩),*,aA trivial,$(⟨ts.elemsAndSeps⟩),*])
def jh(i:Int):du [.int i]=M.ok (.bl true):=by rfl
variable{p:PV}{α:Type}
def md{inj:α->PV}{h:α->Bool}(xs:List α)(n:Int)(hp:p=.tup (xs.map inj)\/p=.lst (xs.map inj))(H:∀a∈xs,du [inj a]=M.ok (.bl (h a)))(hz:xs.length<=sizeLine):dq [p,.int n]=M.ok (.bl (decide ((xs.length:Int)=n)&&xs.all h)):=by
 have key:cY (dg 0) none (ah du (aa (ae 0) ai)) (xs.map inj) [none]=M.ok (xs.map λa=>.bl (h a)):=kY xs λa ha=>by dsimp? [H a ha]
 have key2:sD [.lst (xs.map λa=>.bl (h a))]=M.ok (.bl (xs.all h)):=by
  have:=qK (xs.map h);rw[Nc] at this;rw[show (λa=>PV.bl (h a))=PV.bl∘h from rfl,this];simp[Sg]
 unfold dq gm;rcases hp with rfl|rfl
 all_goals
  dsimp? [LK]
  by_cases e:(xs.length:Int)=n
  .simp only[e,decide_true,R9,M.aS,Pq,if_false,qU,QH];dsimp? [LK,aA hz,key,key2]
  .simp only[e,decide_false,R1,M.aS,if_true,rG,Qn];dsimp? []
def yh(xs:List Int)(n:Int)(hz:xs.length<=sizeLine):dq [tI xs,.int n]=M.ok (.bl (decide ((xs.length:Int)=n))):=by
 exact(md (p:=tI xs) (h:=λ_=>true) xs n (.inl rfl) (λa _=>jh a) hz).trans (by rw[Me.mpr λ_ _=>rfl,QI])
def BG(xs:List Int)(n:Int)(hz:xs.length<=sizeLine):dq [lI xs,.int n]=M.ok (.bl (decide ((xs.length:Int)=n))):=by
 exact(md (p:=lI xs) (h:=λ_=>true) xs n (.inr rfl) (λa _=>jh a) hz).trans (by rw[Me.mpr λ_ _=>rfl,QI])
def Ex{f:List Int->PV}(hf:f=tI\/f=lI)(xs:List Int)(n:Int)(hz:xs.length<=sizeLine):dq [f xs,.int n]=M.ok (.bl (decide ((xs.length:Int)=n))):=by
 rcases hf with rfl|rfl
 .exact yh xs n hz
 .exact BG xs n hz
def E6{f:List Int->PV}(hf:f=tI\/f=lI)(xs:List Int):bT (f xs)=some (xs.map PV.int):=by rcases hf with rfl|rfl<;>rfl
def within_int(x a b:Int):cQ [.int x,.int a,.int b]=M.ok (.bl (decide (a<=x/\x<=b))):=by
 unfold cQ dr;dsimp? [jh]
 by_cases h:a<=x
 .simp only[h,decide_true,if_true,true_and];dsimp? []
 .simp only[h,decide_false,false_and];dsimp? []
def fH{xs:List PV}(h:bT p=some xs):qx p=M.ok (.int xs.length):=by
 cases p<;>first|(cases h;rfl)|cases h
theorem oI(xs:List Int)(hp:bT p=some (xs.map PV.int))(h1:1<=xs.length)(h6:xs.length<=6)(hx:∀x∈xs,2<=x/\x<=360):fW [p]=M.ok .bz:=by
 unfold fW fY;have a1:¬ (6:Int)<xs.length:=by lia
 have a2:¬ (xs.length:Int)=0:=by lia
 dsimp? [a1,a2,decide_false,fH hp,LK,uO xs hp];refine hU xs.zipIdx (λzs env=>(∃b c,env=[some (.sh p),b,c])/\∀z∈zs,2<=z.1/\z.1<=360) ⟨⟨_,_,rfl⟩,λz hz=>hx z.1 (Pr hz)⟩ ?_ ?_
 .rintro⟨a,i⟩ r env ⟨⟨b,c,rfl⟩,hz⟩;have ha:=hz (a,i) L4;refine⟨_,[some (.sh p),some (.sh (.int i)),some (.sh (.int a))],rfl,?_,⟨_,_,rfl⟩,λz Ke=>hz z (LQ _ Ke)⟩;dsimp? [within_int,ha,and_self,decide_true]
 .rintro HS ⟨⟨b,c,rfl⟩,_⟩;rfl
theorem m9{f:List Int->PV}(hf:f=tI\/f=lI)(n:Nat)(xs:List (List Int))(h8:xs.length<=8)(hx:∀x∈xs,x.length=n)(hn:n<=100):fu [.lst (xs.map f),.int n]=M.ok .bz:=by
 unfold fu ff;have a1:¬ (8:Int)<xs.length:=by lia
 dsimp? [a1,decide_false,LK,zI];refine hU xs.zipIdx (λzs env=>(∃b c,env=[some (.sh (.lst (xs.map f))),some (.sh (.int n)),b,c])/\∀z∈zs,z.1.length=n) ⟨⟨_,_,rfl⟩,λz hz=>hx z.1 (Pr hz)⟩ ?_ ?_
 .rintro⟨a,i⟩ r env ⟨⟨b,c,rfl⟩,hz⟩;have ha:a.length=n:=hz (a,i) L4;refine⟨_,[some (.sh (.lst (xs.map f))),some (.sh (.int n)),some (.sh (.int i)),some (.sh (f a))],rfl,?_,⟨_,_,rfl⟩,λz Ke=>hz z (LQ _ Ke)⟩;dsimp? [Ex hf a n (aV ⋯),ha,decide_true]
 .rintro HS ⟨⟨b,c,rfl⟩,_⟩;rfl
def xg(n:Nat)(p:PV):(LO n [p]).flatten=LO n p:=by
 induction n with
 | zero=>rfl
 |succ n ih=>rw[ML,M4,ih];rfl
theorem mul_one(p:PV)(n:Nat)(h8:n<=1000):cG (.tup [p]) (.int (n:Int))=M.ok (.tup (LO n p)):=by
 have h2:[p].length*(n:Int).toNat<=sizeLine:=by
  rw[NC];exact aV (by show 1*n<=1000;lia)
 have h3:(n:Int)<2^63:=Int.lt_of_le_of_lt (Int.ofNat_le.mpr h8) ↑12;have h4:-(2^63)<=(n:Int):=Int.le_trans ↑12 (Q0 n);rw[cG,aA ⟨rfl,h4,h3,h2⟩,NC,xg]
theorem vR(xs:List PV)(h8:xs.length<=8):eO [.lst xs,.bz]=M.ok (tI (LO xs.length 1)):=by
 unfold eO fX;dsimp? [lY,nK,mul_one (.int 1) xs.length ⋯];rw[tI,List.map_replicate]
def lU(xs HP:List Int):List Int:=(xs.zip HP).map λz=>z.1%z.2
def mD(p q:PV)(xs HP:List Int)(hp:bT p=some (xs.map PV.int))(hq:bT q=some (HP.map PV.int))(hs:∀s∈HP,0<s)(hz:xs.length<=1000):gJ [p,q]=M.ok (tI (lU xs HP)):=by
 have key:cY (gP 0 1) none (ak da (ae 0) (ae 1)) ((xs.zip HP).map λz=>.tup [.int z.1,.int z.2]) [none,none]=M.ok ((xs.zip HP).map λz=>.int (z.1%z.2)):=by
  refine uq (p:=λz:Int×Int=>PV.int z.1) (q:=λz:Int×Int=>PV.int z.2) (xs.zip HP) λz hz=>?_;have:=hs z.2 (MW (a:=z.1) (b:=z.2) hz).2;dsimp? [aB this]
 unfold gJ iD;have hl:(xs.zip HP).length<=sizeLine:=by rw[MX];exact aV (MB (Qg _ _) hz)
 dsimp? [kC xs HP hp hq,LK,aA hl,key];rw[tI,lU,Nc];rfl
def vA(a b c:PV):aO (.tup [a,b,c]) (.int 0)=M.ok a:=cW (j:=0) rfl rfl
def DU(a b c:PV):aO (.tup [a,b,c]) (.int 1)=M.ok b:=cW (j:=1) rfl rfl
def EV(a b c:PV):aO (.tup [a,b,c]) (.int 2)=M.ok c:=cW (j:=2) rfl rfl
theorem wG(a b:Int)(ha:a.natAbs<2^60)(hb:b.natAbs<2^60):∃s t,j5 [.int a,.int b]=M.ok (.tup [.int (NI a b),.int s,.int t])/\s*a+t*b=NI a b/\s.natAbs<=b.natAbs+1/\t.natAbs<=a.natAbs+(b.natAbs+1)*a.natAbs+b.natAbs+1:=by
 let J:af->Prop:=λenv=>∃r s t r' s' t' x y,env=[some (.sh (.int a)),some (.sh (.int b)),some (.sh ((PV.tup [PV.int r,PV.int s,PV.int t]))),some (.sh ((PV.tup [PV.int r',PV.int s',PV.int t']))),x,y]/\Eu.St a b r s t r' s' t'
 let m:af->Nat:=λenv=>match env with
  | [_,_,_,some (.sh (.tup [.int r,_,_])),_,_]=>r.natAbs
  | _=>0
 have hk:(b.natAbs+1)*a.natAbs<=2^60*2^60:=R3 ⋯ ⋯;have hk2:(2:Nat)^60*2^60=2^120:=by decide
 have start:J [some (.sh (.int a)),some (.sh (.int b)),some (.sh ((PV.tup [PV.int a,PV.int 1,PV.int 0]))),some (.sh ((PV.tup [PV.int b,PV.int 0,PV.int 1]))),none,none]:=⟨_,_,_,_,_,_,_,_,rfl,Eu.start a b⟩
 have loop:=vF (u:=bO (ak qF (ak aO (ae 3) (λ_=>M.ok (.int 0))) (λ_=>M.ok (.int 0)))) (b:=(ao (aX 4 (ak fG (ak aO (ae 2) (λ_=>M.ok (.int 0))) (ak aO (ae 3) (λ_=>M.ok (.int 0)))))
  (ao (aX 5 (de (aa (ak jN (ak aO (ae 2) (λ_=>M.ok (.int 0))) (ak cG (ae 4) (ak aO (ae 3) (λ_=>M.ok (.int 0))))) (aa (ak jN (ak aO (ae 2) (λ_=>M.ok (.int 1))) (ak cG (ae 4) (ak aO (ae 3) (λ_=>M.ok (.int 1))))) (aa (ak jN (ak aO (ae 2) (λ_=>M.ok (.int 2))) (ak cG (ae 4) (ak aO (ae 3) (λ_=>M.ok (.int 2))))) ai)))))
  (ao (aX 2 (ae 3))
  (ao (aX 3 (ae 5))
  aj))))) J m ?_ _ start
 .obtain⟨HS,e1,⟨r,s,t,r',s',t',x,y,rfl,st⟩,e2⟩:=loop;have Lr:r'=0:=by
   revert e2;dsimp? [vA];intro e2;have:(!decide (r'=0))=false:=by injection e2 with e2;injection e2
   simpa using this
  subst Lr;obtain⟨d1,d2⟩:=Eu.done st;have hg:(r.natAbs:Int)=NI a b:=by
   have h1:r.natAbs∣NI a b:=Int.dvd_gcd (R4.mpr d1) (R4.mpr d2);have h2:((NI a b:Nat):Int)∣r:=by
    rw[st.c0];exact Int.dvd_add (QG (RI ..) (PU _ _)) (QG (Int.gcd_dvd_right ..) (PU _ _))
   have h3:NI a b∣r.natAbs:=Int.ofNat_dvd_left.mp h2;rw[Nat.dvd_antisymm h1 h3]
  unfold j5 j6;dsimp? [];rw[e1];dsimp? [vA,DU,EV]
  by_cases hneg:r<0
  .refine⟨-s,-t,?_,?_,by rw[Qu];exact st.b0,by rw[Qu];exact st.d0⟩
   .simp only[hneg,decide_true,if_true];dsimp? [];rw[show -r=(NI a b:Int) by lia]
   .have:=st.c0;rw[Int.neg_mul,Int.neg_mul];lia
  .refine⟨s,t,?_,?_,st.b0,st.d0⟩
   .simp only[hneg,decide_false,Pq,if_false];dsimp? [];rw[show r=(NI a b:Int) by lia]
   .have:=st.c0;lia
 .rintro env ⟨r,s,t,r',s',t',x,y,rfl,st⟩
  by_cases h0:r'=0
  .refine .inl ?_;dsimp? [vA];simp[h0]
  .refine .inr ⟨?_,?_⟩
   .dsimp? [vA];simp[h0]
   .obtain⟨Ks,lt⟩:=Eu.turn st h0;have b1:=st.m1;have b0:=st.m0;have c1:=st.b1;have c2:=st.d1;have c3:=Ks.m1;have q1:(r.fdiv r').natAbs<=r.natAbs+1:=by
     obtain⟨f1,f2,f3⟩:=Eu.oW r r' h0;generalize r.fdiv r'=q at *;have e:q*r'=r-(r-q*r'):=by lia
     have e2:(q*r').natAbs<=r.natAbs+(r-q*r').natAbs:=by lia
     rw[OE] at e2;have:q.natAbs*1<=q.natAbs*r'.natAbs:=N9 _ ⋯;rcases Nat.lt_or_ge (r.natAbs+1) q.natAbs with h|h
     .have h5:(r.natAbs+2)*r'.natAbs<=q.natAbs*r'.natAbs:=OX _ ⋯;have h6:r.natAbs*1<=r.natAbs*r'.natAbs:=N9 _ ⋯;rw[Nat.add_mul] at h5;lia
     .exact h
    have q2:(r.fdiv r').natAbs<2^200:=by lia
    refine⟨[some (.sh (.int a)),some (.sh (.int b)),some (.sh ((PV.tup [PV.int r',PV.int s',PV.int t']))),some (.sh ((PV.tup [PV.int (r-r.fdiv r'*r'),PV.int (s-r.fdiv r'*s'),PV.int (t-r.fdiv r'*t')]))),some (.sh (.int (r.fdiv r'))),some (.sh ((PV.tup [PV.int (r-r.fdiv r'*r'),PV.int (s-r.fdiv r'*s'),PV.int (t-r.fdiv r'*t')])))],?_,⟨_,_,_,_,_,_,_,_,rfl,Ks⟩,lt⟩;dsimp? [vA,DU,EV,o7 h0 (LU (show r'.natAbs<2^200 by lia) (OW ↑12 ↑12)),bR (k:=200) (l:=200) q2 (show r'.natAbs<2^200 by lia),bR (k:=200) (l:=200) q2 (show s'.natAbs<2^200 by lia),bR (k:=200) (l:=200) q2 (show t'.natAbs<2^200 by lia)]
def R(HP:List Int):Int:=(Lc.EL (HP.map Sd):Nat)
structure Sz (HP:List Int):Prop where
 h1:1<=HP.length
 h6:HP.length<=6
 hx:∀x∈HP,2<=x/\x<=360
structure Acc (HP r:List Int) (acc:Nat):Prop where
 pos:0<acc
 le:acc<=2^(9*(6-r.length))
 len:r.length<=6
 val:(r.map Sd).foldl P_ acc=Lc.EL (HP.map Sd)
 wX:∀x∈r,2<=x/\x<=360
variable{HP:List Int}
def Acc.start(h:Sz HP):Acc HP HP 1:=⟨by decide,Nat.one_le_two_pow,h.h6,rfl,h.hx⟩
variable{acc:Nat}
theorem Acc.lt{r:List Int}(h:Acc HP r acc):acc<2^60:=by
 have h2:(2:Nat)^(9*(6-r.length))<=2^54:=OW ↑12 ⋯;have:=h.le;lia
theorem Acc.turn{r:List Int}{x:Int}(h:Acc HP (x::r) acc):Acc HP r (P_ acc x.toNat)/\(acc:Int)/(NI acc x:Nat)*x=(P_ acc x.toNat:Nat)/\(acc:Int)/(NI acc x:Nat)<=acc/\0<NI acc x:=by
 have hx:=h.wX x L4;have hp:=h.pos;obtain⟨n,rfl⟩:=Mb (show 0<=x by lia);have hg:NI (acc:Int) (n:Int)=Nat.gcd acc n:=rfl;refine⟨⟨Nat.lcm_pos hp ⋯,?_,?_,h.val,λy hy=>h.wX y (LQ _ hy)⟩,?_,?_,?_⟩
 .have h1:P_ acc n<=acc*n:=R_ (Nat.mul_pos hp ⋯) (Nat.lcm_dvd (Nat.dvd_mul_right ..) (Nat.dvd_mul_left ..));have h2:acc*n<=2^(9*(6-(r.length+1)))*2^9:=R3 h.le ⋯;have hl:r.length+1<=6:=h.len;rw[<- Nat.pow_add,show 9*(6-(r.length+1))+9=9*(6-r.length) by lia] at h2;exact MB h1 h2
 .have hl:r.length+1<=6:=h.len;lia
 .rw[hg,NC,<- Lc.w8];norm_cast
 .rw[hg];exact Int.ofNat_le.mpr (Nat.div_le_self acc (Nat.gcd acc n))
 .rw[hg];exact Nat.gcd_pos_of_pos_left _ hp
theorem gI(HP:List Int)(hp:bT p=some (HP.map PV.int))(h:Sz HP):fq [p]=M.ok (.int (R HP)):=by
 unfold fq fw;dsimp? [hp];refine hU HP (λr env=>∃acc x,env=[some (.sh p),some (.sh (.int (acc:Nat))),x]/\Acc HP r acc) ⟨1,_,rfl,.start h⟩ ?_ ?_
 .rintro a r env ⟨acc,x,rfl,A⟩;obtain⟨A2,e1,e2,e3⟩:=A.turn;have l1:=A.lt;have ha:=A.wX a L4;obtain⟨s,t,ec,_,_,_⟩:=wG (acc:Int) a ⋯ ⋯;have g1:NI acc a<=acc:=R_ A.pos (Int.ofNat_dvd.mp (RI ..));have d0:0<=(acc:Int)/(NI acc a:Nat):=RX ⋯ ⋯;refine⟨_,[some (.sh p),some (.sh (.int (P_ acc a.toNat:Nat))),some (.sh (.int a))],rfl,?_,_,_,rfl,A2⟩;dsimp? [ec,vA,bx (i:=(acc:Int)) (show (0:Int)<(NI acc a:Nat) by lia) (show ((NI acc a:Nat):Int)<2^64 by lia),bR (k:=64) (l:=64) (show ((acc:Int)/(NI acc a:Nat)).natAbs<2^64 by lia) (show a.natAbs<2^64 by lia),e1]
 .rintro HS ⟨acc,x,rfl,A⟩;dsimp? [];have:=A.val;rw[R,<- this];rfl
def uh(pz HP:List Int)(levers:List (List Int)):List (Str×PV):=[("dial_sizes",tI HP),("lever_settings",.tup (levers.map tI)),("lever_prices",tI pz),("least_round",.int (R HP))]
def cT(pz HP:List Int)(levers:List (List Int)):PV:=.obj aL (uh pz HP levers)
structure sI (HP xs:List Int):Prop where
 len:xs.length=HP.length
 wX:∀z∈xs.zip HP,0<=z.1/\z.1<z.2
theorem qN(f:Str)(p:PV):∀fs:List (Str×PV),(qf f p fs).length<=fs.length+1
 | []=>by simp[qf]
 | (g,q)::r=>by
  have:=qN f p r;unfold qf
  split
  .simp
  .simp;lia
variable{n:Nat}
theorem kT{f:Str}{fs:List (Str×PV)}(h:fs.length<=n):(qf f p fs).length<=n+1:=MB (qN f p fs) ⋯
def mn(a C:Addr)(f:Str)(p:PV)(fs:List (Str×PV))(r:af)(h:fs.length<1000):yd 0 C f p (some (.bd a C fs)::r)=M.ok (.nx (some (.bd a C (qf f p fs))::r)):=by
 show cX _ _=_;rw[aA ⟨rfl,h⟩];rfl
variable{pz:List Int}
theorem yr{pp:PV}{f:List Int->PV}(hf:f=tI\/f=lI)(HP:List Int)(levers:List (List Int))(hpp:eO [.lst (levers.map f),pp]=M.ok (tI pz))(hp:bT p=some (HP.map PV.int))(h:Sz HP)(h8:levers.length<=8)(hl:∀l∈levers,l.length=HP.length):∀a,gM a [p,.lst (levers.map f),pp]=M.ok (uh pz HP (levers.map λl=>lU l HP)):=by
  intro a;have e1:cY (dg 0) none (ah gJ (aa (ae 0) (aa (ae 1) ai))) (levers.map f) [none,some (.sh p)]=M.ok (levers.map λl=>tI (lU l HP)):=by
   refine kY levers λl hm=>?_;have hs:=hl l hm;have:=mD (f l) p l HP (E6 hf l) hp (λs hs=>by have:=h.hx s hs;lia) (by rw[hs];have:=h.h6;lia);dsimp? [this]
  unfold gM iI;simp only[sW];rw[aA (show ([p,PV.lst (levers.map f),pp]).length+1=4 from rfl)];simp only[zY,yG];dsimp? [hp,fH hp,oI HP hp h.h1 h.h6 h.hx,m9 hf HP.length levers h8 hl (by have:=h.h6;lia),pO,hp,fH hp,LK,aA (aV (show levers.length<=1000 by lia)),e1,hpp,gI HP hp h];rw[mn _ _ _ _ _ _ ↑13];dsimp? [pO,hp,fH hp,LK,aA (aV (show levers.length<=1000 by lia)),e1,hpp,gI HP hp h];rw[mn _ _ _ _ _ _ (Og (kT (MP 0)) ↑12)];dsimp? [pO,hp,fH hp,LK,aA (aV (show levers.length<=1000 by lia)),e1,hpp,gI HP hp h];rw[mn _ _ _ _ _ _ (Og (kT (kT (MP 0))) ↑12)];dsimp? [pO,hp,fH hp,LK,aA (aV (show levers.length<=1000 by lia)),e1,hpp,gI HP hp h];rw[mn _ _ _ _ _ _ (Og (kT (kT (kT (MP 0)))) ↑12)];dsimp? [];show cX _ _=_;rw[aA ⟨rfl,rfl⟩];rw[uh,Nc];rfl
def ones(Ls:List (List Int)):List Int:=LO Ls.length 1
def Aw{f:List Int->PV}(hf:f=tI\/f=lI)(HP:List Int)(levers:List (List Int))(hp:bT p=some (HP.map PV.int))(h:Sz HP)(h8:levers.length<=8)(hl:∀l∈levers,l.length=HP.length):nZ aL gM [.bz] [p,.lst (levers.map f)]=M.ok (cT (ones (levers.map λl=>lU l HP)) HP (levers.map λl=>lU l HP)):=by
 unfold nZ;have key:=yr (pz:=ones (levers.map λl=>lU l HP)) hf HP levers ((vR _ (show (levers.map f).length<=8 by rwa[LK])).trans (by rw[ones,LK,LK])) hp h h8 hl;rw[show ([p,.lst (levers.map f)]++[.bz]:List PV)=[p,.lst (levers.map f),.bz] from rfl,Cd key];rfl
def yw(HP:List Int)(levers:List (List Int)):(uh pz HP levers).lookup (MC "dial_sizes")=some (tI HP):=rfl
def wz(HP:List Int)(levers:List (List Int)):(uh pz HP levers).lookup (MC "lever_settings")=some (.tup (levers.map tI)):=rfl
def Es(HP:List Int)(levers:List (List Int)):(uh pz HP levers).lookup (MC "sizes")=none:=rfl
def D7(HP:List Int)(levers:List (List Int)):(uh pz HP levers).lookup (MC "levers")=none:=rfl
def yN(HP:List Int)(levers:List (List Int)):cD [cT pz HP levers]=M.ok (tI HP):=by
 unfold cD c9;dsimp? [wq,cT,beq_self_eq_true,yw]
def vo(HP:List Int)(levers:List (List Int)):bJ [cT pz HP levers]=M.ok (.tup (levers.map tI)):=by
 unfold bJ bW;dsimp? [wq,cT,beq_self_eq_true,wz]
variable{levers:List (List Int)}
def ka{g:af->M PV}{env:af}(h:g env=M.ok (cT pz HP levers)):fQ aL "sizes" cD g ai env=M.ok (tI HP):=by
 have:=yN (pz:=pz) HP levers;rw[fQ,h,M.aS];show cX _ (M.bind (ai env) _)=_;rw[aA ⟨rfl,Es HP levers⟩];exact this
def hR{g:af->M PV}{env:af}(h:g env=M.ok (cT pz HP levers)):fQ aL "levers" bJ g ai env=M.ok (.tup (levers.map tI)):=by
 have:=vo (pz:=pz) HP levers;rw[fQ,h,M.aS];show cX _ (M.bind (ai env) _)=_;rw[aA ⟨rfl,D7 HP levers⟩];exact this
def sG(HP xs:List Int):Bool:=decide ((xs.length:Int)=HP.length)&&(xs.zip HP).all λz=>decide (0<=z.1/\z.1<z.2)
variable{xs:List Int}
theorem pJ:sG HP xs=true ↔ sI HP xs:=by
 unfold sG;constructor
 .intro h;simp only[My,decide_eq_true_eq,Me] at h;exact⟨by lia,h.2⟩
 .intro h;simp only[My,decide_eq_true_eq,Me];exact⟨by rw[h.len],h.wX⟩
def yL(x s:Int):∀env:af,env=[some (.sh (.int x)),some (.sh (.int s))]->fM we uQ (λ_=>M.ok (.int 0)) (ae 0) (ae 1) env=M.ok (.bl (decide (0<=x/\x<s))):=by
 rintro env rfl;dsimp? []
 by_cases h:0<=x
 .simp only[h,decide_true,if_true,true_and]
  try dsimp? []
 .simp only[h,decide_false,false_and]
  try dsimp? []
def BY(h:α->Bool)(xs:List α):sD [.lst (xs.map λa=>.bl (h a))]=M.ok (.bl (xs.all h)):=by
 have:=qK (xs.map h);rw[Nc] at this;rw[show (λa=>PV.bl (h a))=PV.bl∘h from rfl,this];simp[Sg]
def nX(h:Sz HP)(xs:List Int)(hz:xs.length<=1000):bh [cT pz HP levers,tI xs]=M.ok (.bl (sG HP xs)):=by
 have key:cY (gP 0 1) none (fM we uQ (λ_=>M.ok (.int 0)) (ae 0) (ae 1)) ((xs.zip HP).map λz=>.tup [.int z.1,.int z.2]) [none,none]=M.ok ((xs.zip HP).map λz=>.bl (decide (0<=z.1/\z.1<z.2))) :=
  uq (p:=λz:Int×Int=>PV.int z.1) (q:=λz:Int×Int=>PV.int z.2) (xs.zip HP) λz hz=>yL z.1 z.2 _ rfl
 have hl:(xs.zip HP).length<=sizeLine:=by rw[MX];exact aV (MB (Qg _ _) hz)
 unfold bh eM;dsimp? [ka (HP:=HP) (levers:=levers) (g:=ae 0) (env:=[some (.sh (cT pz HP levers)),some (.sh (tI xs)),none]) rfl,yh xs HP.length (aV hz)];unfold sG
 by_cases e:(xs.length:Int)=HP.length
 .simp only[e,decide_true,R9,Pq,if_false,QH];dsimp? [kC (p:=tI xs) (q:=tI HP) xs HP rfl rfl,LK,aA hl,key,BY]
 .simp only[e,decide_false,R1,if_true,Qn];dsimp? []
theorem gL(h:Sz HP)(hs:sI HP xs):bp [cT pz HP levers,tI xs]=M.ok .bz:=by
 unfold bp cb;dsimp? [nX (levers:=levers) h xs (by rw[hs.len];have:=h.h6;lia),pJ.mpr hs]
theorem Ab(h:Sz HP)(hs:sI HP xs){x:Int}(hx:x∈xs):0<=x/\x<360:=by
 obtain⟨i,hi,rfl⟩:=N1.mp hx;have hj:i<HP.length:=by rwa[<- hs.len]
 have:=hs.wX (xs[i],HP[i]) (by
  rw[N1];exact⟨i,by rw[MX];lia,by rw[Nq]⟩)
 have h2:=h.hx HP[i] (Mz hj);exact⟨this.1,by have:=this.2;simp only at this;lia⟩
def Ty(p:PV):Prop:=∃a,AE p=some a
def wB:PV->Bool
 | .int _=>true
 |_=>false
def A5(lo hi:Int):PV->Bool
 | .int i=>decide (lo<=i/\i<=hi)
 |_=>false
def rB(n:Nat)(p:PV):Bool:=match bT p with
 | some xs=>decide (xs.length=n)&&xs.all wB
 |none=>false
def jX(h:Ty p):du [p]=M.ok (.bl (wB p)):=by
 obtain⟨a,ha⟩:=h;cases p<;>first|rfl|(rename_i b;cases b<;>rfl)|cases ha
def pB(h:Ty p)(lo hi:Int):cQ [p,.int lo,.int hi]=M.ok (.bl (A5 lo hi p)):=by
 have w:=jX h;cases p with
 | int i=>exact within_int i lo hi
 | _ =>
  unfold cQ dr;dsimp? [w,wB,A5]
  try rfl
theorem n6{xs:List PV}(h:bT p=some xs)(n:Nat):rB n p=(decide ((xs.length:Int)=(n:Int))&&xs.all wB):=by
 unfold rB;rw[h];have:decide (xs.length=n)=decide ((xs.length:Int)=(n:Int)):=by rw[Qe,decide_eq_true_eq,decide_eq_true_eq];lia
 rw[<- this]
def Row(p:PV):Prop:=Ty p/\(∀xs,p≠.eS xs)/\∀xs,bT p=some xs->xs.length<=1000/\∀x∈xs,Ty x
def pL(h:Row p)(n:Nat):dq [p,.int (n:Int)]=M.ok (.bl (rB n p)):=by
 obtain⟨⟨a,ha⟩,ns,hx⟩:=h;cases p with
 | tup xs =>
  rw[n6 (p:=.tup xs) rfl];exact md (inj:=λx=>x) xs n (.inl ↑13) (λx h=>jX ((hx xs rfl).2 x h)) (aV (hx xs rfl).1)
 | lst xs =>
  rw[n6 (p:=.lst xs) rfl];exact md (inj:=λx=>x) xs n (.inr ↑13) (λx h=>jX ((hx xs rfl).2 x h)) (aV (hx xs rfl).1)
 | eS xs=>exact absurd rfl (ns xs)
 | int i=>rfl
 | bl b=>rfl
 | bz=>rfl
 | str x=>rfl
 | emp=>rfl
 |_=>cases ha
variable{x0:Option SV}
def uZ{t:af->M Bool}{f:af->M PV}{inj h:α->PV}{b:α->Bool}{rest:af}(xs:List α)(Ht:∀a∈xs,t (some (.sh (inj a))::rest)=M.ok (b a))(H:∀a∈xs,f (some (.sh (inj a))::rest)=M.ok (h a)):cY (dg 0) (some t) f (xs.map inj) (x0::rest)=M.ok ((xs.filter b).map h):=by
 induction xs generalizing x0 with
 | nil=>rfl
 | cons a r ih =>
  have i:=ih (x0:=some (.sh (inj a))) (λc hc=>Ht c (LQ _ hc)) λc hc=>H c (LQ _ hc);rw[Mg,cY];show M.bind (M.ok ((x0::rest).set 0 (some (.sh (inj a))))) _=_;rw[M.aS,NR];show M.bind (t _) _=_;rw[Ht a L4,M.aS];cases e:b a with
  | true=>rw[if_pos rfl,H a L4,M.aS,i,List.filter_cons_of_pos e];rfl
  |false=>rw[if_neg ↑13,i,List.filter_cons_of_neg (by simp[e])]
theorem gY(h:Ty p)(hx:∀xs,bT p=some xs->xs.length<=1000/\∀x∈xs,Ty x)(n:Nat):aE [p,.int (n:Int)]=M.ok (.bl (rB n p)):=by
 have sq:∀xs,bT p=some xs->tJ (λa=>a == "list" || a == "tuple") dF dF p=M.ok (.bl true)->aE [p,.int (n:Int)]=M.ok (.bl (rB n p)):=λxs hs hi=>by
  obtain⟨l,ty⟩:=hx xs hs;rw[n6 hs];have key:cY (dg 0) (some (ux (cm (bO (iV (λa=>dH a "int") dF dF (ae 0)))) (bO (iV (λa=>dH a "bool") dF dF (ae 0))))) (ae 0) (xs.map λx=>x) [none]=M.ok ((xs.filter λx=>!wB x).map λx=>x):=by
   refine uZ (inj:=λx=>x) xs (λx m=>?_) λx m=>by dsimp? []
   obtain⟨a,ha⟩:=ty x m;cases x<;>first|rfl|(rename_i b;cases b<;>rfl)|cases ha
  rw[Sh,Sh] at key;simp only[dH,beq_self_eq_true,QI,Bool.and_false,R6,show ("bool" == "int")=false from rfl] at key;unfold aE bq
  by_cases c:(xs.length:Int)=n
  .dsimp? [hi,fH hs,c,decide_true,hs,aA (aV l),key];have:decide (((xs.filter λx=>!wB x).length:Int)=0)=xs.all wB:=by
    rw[Qe,decide_eq_true_eq,Me];constructor
    .intro e x hx;have e0:xs.filter (λx=>!wB x)=[]:=PY.mp ⋯;have:=NS.mp e0 x hx;simpa using this
    .intro e;rw[NS.mpr λx hx=>by rw[e x hx];simp];rfl
   rw[this]
  .dsimp? [hi,fH hs,c,decide_false]
 obtain⟨a,ha⟩:=h;cases p with
 | tup xs=>exact sq xs rfl rfl
 | lst xs=>exact sq xs rfl rfl
 | eS xs=>exact sq xs rfl rfl
 | int i=>rfl
 | bl b=>cases b<;>rfl
 | bz=>rfl
 | str x=>rfl
 | emp=>rfl
 |_=>cases ha
def Gm{S:List PV}(hp:bT p=some S)(k:Nat)(h:k<S.length):aO p (.int (k:Int))=M.ok (S.getD k .bz):=cW (j:=k) hp (by rw[LL h,Mc,LL h];rfl)
def getD_mem{S:List PV}{k:Nat}(h:k<S.length):S.getD k .bz∈S:=by rw[Mc,LL h];exact Mz _
def Dt(n:Nat)(p:PV):Prop:=Ty p/\∃d,dat p=some d/\d.canLay0=true/\d.depth<=n
theorem kO{n:Nat}:∀{S:List PV},(∀p∈S,Dt n p)->∃ds,iT S=some ds/\Rp ds=true/\O3 ds<=n/\(ds=[] ↔ S=[])
 | [],_=>⟨[],rfl,rfl,MP _,by simp⟩
 | p::S,h=>by
  obtain⟨_,d,e1,e2,e3⟩:=h p L4;obtain⟨ds,f1,f2,f3,_⟩:=kO λq hq=>h q (LQ _ hq);refine⟨d::ds,?_,?_,?_,by simp⟩
  .show (dat p).bind (λd=>(iT S).map (d::·))=_;rw[e1,f1];rfl
  .show (d.canLay0&&Rp ds)=true;rw[e2,f2];rfl
  .show max d.depth (O3 ds)<=n;lia
theorem Dt.lst{n:Nat}{S:List PV}(h:∀p∈S,Dt n p):Dt (n+1) (.lst S):=by
 obtain⟨ds,f1,f2,f3,_⟩:=kO h;exact⟨⟨_,rfl⟩,.list ds,by show (iT S).map _=_;rw[f1];rfl,f2,by show O3 ds+1<=n+1;lia⟩
theorem Dt.tup{n:Nat}{S:List PV}(h:∀p∈S,Dt n p):Dt (n+1) (.tup S):=by
 obtain⟨ds,f1,f2,f3,_⟩:=kO h;exact⟨⟨_,rfl⟩,.tuple ds,by show (iT S).map _=_;rw[f1];rfl,f2,by show O3 ds+1<=n+1;lia⟩
mutual
theorem Eh:∀(p:PV)(d:PyData),dat p=some d->Rq d d=true
 | .int _,d,e=>by cases e;rfl
 | .bl _,d,e=>by cases e;rfl
 | .bz,d,e=>by cases e;rfl
 | .str _,d,e=>by cases e;rfl
 | .tup xs,d,e=>by
  obtain⟨ds,e1,rfl⟩:=LP.mp (show (iT xs).map _=some d from e);exact yg xs ds e1
 | .lst xs,d,e=>by
  obtain⟨ds,e1,rfl⟩:=LP.mp (show (iT xs).map _=some d from e);exact yg xs ds e1
 | .eS xs,d,e=>by
  obtain⟨ds,e1,rfl⟩:=LP.mp (show (iT xs).map _=some d from e);exact yg xs ds e1
 | .obj _ _,d,e=>by cases e
 | .exc _ _,d,e=>by cases e
 | .emp,d,e=>by cases e
 | .tX _,d,e=>by cases e
 |.fn _,d,e=>by cases e
theorem yg:∀(ps:List PV)(ds:List PyData),iT ps=some ds->Qw ds ds=true
 | [],ds,e=>by cases e;rfl
 | p::ps,ds,e=>by
  obtain⟨d1,e1,e2⟩:=Ng.mp (show (dat p).bind (λd=>(iT ps).map (d::·))=some ds from e);obtain⟨ds',e3,rfl⟩:=LP.mp e2;show (Rq d1 d1&&Qw ds' ds')=true;rw[Eh p d1 e1,yg ps ds' e3];rfl
end
theorem jb(hn:n<=60)(h:Dt n p):gO p p=M.ok (.bl true)/\qF p p=M.ok (.bl false):=by
 obtain⟨_,d,e1,e2,e3⟩:=h;have sh:Q2 d=true:=by
  unfold Q2;rw[e2,decide_eq_true ⋯];rfl
 have nm:=Eh p d e1;have sm:PySem.Spec.same d d=true:=by rw[PyProof.Rows.same_iff]
 have key:z0 d d=M.ok true:=by
  unfold z0;rw[aA ⟨sh,sh,nm⟩,sm]
 constructor
 .show lR _ _ _=_;unfold lR;rw[e1];show (z0 _ _).bind _=_;rw[key];rfl
 .show lR _ _ _=_;unfold lR;rw[e1];show (z0 _ _).bind _=_;rw[key];rfl
def hB(C:Addr)(o:Addr->Option Bool):M PV:=fJ ((o C).map .bl)
def xZ(C:Addr)(o:Addr->Option Bool):hB C o=none\/∃b,hB C o=M.ok (.bl b):=by
 unfold hB;cases o C with
 | none=>exact .inl rfl
 |some b=>exact .inr ⟨b,rfl⟩
def u6(x:EX):M PV:=hitX (lC c8 c5 x.1) ((hB x.1 (lC eI eA)).bind λa=>(hB x.1 (lC gj gv)).bind λb=>(hB x.1 (lC eZ e_)).bind λc=>tell3 x a b c)
where
 hitX (b:Option Bool) (x:M PV):M PV:=match b with
  | some true=>x
  | _=>none
 tell3 (x:EX) (a b c:PV):M PV:=match a,b,c with
  | .bl true,.bl false,.bl false=>M.ok (.tup [.str "setting"])
  | .bl false,.bl true,.bl false=>M.ok (.tup [.str "pulls"])
  | .bl false,.bl false,.bl true=>(GC i0 "lever" (.exc x.1 x.2)).bind λp=>M.ok (.tup [.str "lever",p])
  |_,_,_=>M.ok (.tup [.str "other"])
def tell:M PV->M PV
 | none=>none
 | some (.ok p)=>M.ok (.tup [.str "told",p])
 |some (.error x)=>u6 x
def sF(ask:M PV)(av:af->M PV)(x0:Option SV)(G:af)(h:av (x0::some (.sh .bz)::some (.sh .bz)::none::none::G)=ask):(bG av (x0::none::none::none::none::G)).bind iU=tell ask:=by
 subst h;have e1:∀f,(ao (aX 1 (λ_=>M.ok .bz)) (ao (aX 2 (λ_=>M.ok .bz)) f)) (x0::none::none::none::none::G)=f (x0::some (.sh .bz)::some (.sh .bz)::none::none::G):=λf=>rfl;unfold bG;rw[e1];have e2:∀(hs:List Hd)(f:af->M Out)(env:af),ao (zK (aX 1 av) hs) f env=(tQ ((av env).bind λp=>M.ok (.nx (env.set 1 (some (.sh p))))) λx=>iO hs x env).bind (lK f):=λhs f env=>rfl;rw[e2];generalize av (x0::some (.sh .bz)::some (.sh .bz)::none::none::G)=ask
 match ask with
 | none=>rfl
 | some (.ok p)=>rfl
 | some (.error (C,fo)) =>
  show _=u6 (C,fo);have e3:∀(f:af->M Out)(t:Option Bool)(env:af),(tQ (M.bind (some (.error (C,fo))) λp=>M.ok (.nx (env.set 1 (some (.sh p))))) λx=>iO [(λ_=>t,some 3,ao (aX 2 (ae 3)) aj)] x env).bind (lK f)=(qj t (ll (some 3) (ao (aX 2 (ae 3)) aj) (C,fo) env) none).bind (lK f):=λf t env=>rfl;show ((qj (lC c8 c5 C) (ll (some 3) (ao (aX 2 (ae 3)) aj) (C,fo) (x0::some (.sh .bz)::some (.sh .bz)::none::none::G)) none).bind (lK _)).bind iU=_;have e4:ll (some 3) (ao (aX 2 (ae 3)) aj) (C,fo) (x0::some (.sh .bz)::some (.sh .bz)::none::none::G)=M.ok (.nx (x0::some (.sh .bz)::some (.sh (.exc C fo))::none::none::G)):=rfl;rw[e4];unfold u6;cases lC c8 c5 C with
  | none=>rfl
  | some b =>
   cases b with
   | false=>rfl
   | true =>
    show (M.bind (M.ok (Out.nx _)) (lK _)).bind iU=_;have i1:lY (.exc C fo) .bz=M.ok (.bl false):=rfl;have iw:∀b ob oe,tJ b ob oe (.exc C fo)=hB C oe:=λ_ _ _=>rfl;show _=M.bind (hB C _) _;rcases xZ C (lC eI eA) with hS|⟨a,hS⟩
    .dsimp? [i1,iw,hS]
    rcases xZ C (lC gj gv) with hP|⟨b,hP⟩
    .dsimp? [i1,iw,hS,hP]
    rcases xZ C (lC eZ e_) with hL|⟨c,hL⟩
    .dsimp? [i1,iw,hS,hP,hL]
    have k1:∀xs,Ce (ae 4) (λ_=>M.ok (.bl true)) (x0::some (.sh .bz)::some (.sh (.exc C fo))::none::some (.sh (.lst xs))::G)=C8 (.lst xs) (.bl true):=λxs=>rfl;have k2:∀xs,yB (ae 4) (λ_=>M.ok (.bl true)) (x0::some (.sh .bz)::some (.sh (.exc C fo))::none::some (.sh (.lst xs))::G)=Bg (.lst xs) (.bl true):=λxs=>rfl;have k3:FG i0 "lever" (ae 2) (x0::some (.sh .bz)::some (.sh (.exc C fo))::none::some (.sh (.lst [.bl a,.bl b,.bl c]))::G)=GC i0 "lever" (.exc C fo):=rfl;have k4:C8 (.lst [.bl a,.bl b,.bl c]) (.bl true)=M.ok (.int ((if a then 1 else 0)+(if b then 1 else 0)+(if c then 1 else 0))):=by cases a<;>cases b<;>cases c<;>rfl
    dsimp? [i1,iw,hS,hP,hL,k1,k4];clear e1 e2 e3 e4 k1;cases a<;>cases b<;>cases c<;>dsimp? [k2,k3,u6.tell3,iw,hL,Int.reduceAdd,Int.reduceEq,decide_true,decide_false,Int.zero_add,Qa]<;>try rfl
def fI(ask:M PV):aH ask=tell ask:=sF ask (λ_=>ask) _ _ rfl
theorem AN.of{x0 a b:Option SV}{pre:af}:∀{ps:List PV}{vs:List V}{tl:af}(pre:af),ps.length=vs.length->AN (pre++(N4 (λp v=>some (SV.gh p v)) ps vs++tl)) pre.length ps vs
 | [],[],tl,pre,_=>trivial
 | p::ps,v::vs,tl,pre,h=>by
  refine⟨by rw[Mj (LR _),Nat.sub_self];rfl,?_⟩;have:=AN.of (x0:=x0) (a:=a) (b:=b) (pre:=pre) (ps:=ps) (vs:=vs) (tl:=tl) (pre++[some (.gh p v)]) (by simpa using h);rwa[Mp,Px] at this
 | [],v::vs,tl,pre,h=>by cases h
 |p::ps,[],tl,pre,h=>by cases h
def cU(f:Addr)(ps:List PV)(vs:List V)(r:Nat)(ask:M PV)(h1:ps.length=vs.length)(h2:vs.length+r=4):(bG (oa 0 (1+4) f ps vs ask) (p_ 4 f ps vs r)).bind iU=aH ask:=by
 rw[fI];refine sF ask _ _ _ ?_;unfold oa
 classical
 exact aA ⟨rfl,AN.of (x0:=none) (a:=none) (b:=none) (pre:=[]) [some (.sh (.fn f)),some (.sh .bz),some (.sh .bz),none,none] h1⟩
def iR:PV->Bool
 | .tup _=>true
 |_=>false
def ED(h:Ty p):tJ (λa=>a == "tuple") dF dF p=M.ok (.bl (iR p)):=by
 obtain⟨a,ha⟩:=h;cases p<;>first|rfl|cases ha
theorem uz:∀{ys:List PV},ys.all wB=true->∃xs:List Int,ys=xs.map PV.int
 | [],_=>⟨[],rfl⟩
 | y::ys,h=>by
  rw[QF,My] at h;obtain⟨xs,rfl⟩:=uz h.2;cases y with
  | int i=>exact⟨i::xs,rfl⟩
  |_=>cases h.1
theorem pX:∀xs:List Int,(xs.map PV.int).all wB=true
 | []=>rfl
 |_::r=>pX r
def xh(h:rB n p=true):∃xs:List Int,bT p=some (xs.map PV.int)/\xs.length=n:=by
 unfold rB at h
 split at h
 .rename_i ys e;rw[My,decide_eq_true_eq] at h;obtain⟨xs,rfl⟩:=uz h.2;exact⟨xs,e,by simpa using h.1⟩
 .cases h
def xt(h:rB n p=true)(t:iR p=true):∃xs:List Int,p=tI xs/\xs.length=n:=by
 obtain⟨xs,e,l⟩:=xh h;cases p with
 | tup ys=>cases e;exact⟨xs,rfl,l⟩
 |_=>cases t
variable{i:Nat}
def dW(hp:bT p=some (xs.map PV.int))(h:i<xs.length):aO p (.int (i:Int))=M.ok (.int (vf xs i)) :=
 cW (j:=i) hp (by rw[L_,LL h,cN h];rfl)
theorem dm(n:Nat)(h:n<=1000):ip [.int (n:Int)]=M.ok ((LZ n).map λi:Nat=>.int (i:Int)):=by
 have:=xN (n:=(n:Int)) (Q0 n) ⋯
 rwa [NC] at this
def yy(a x b:Int):(if decide (a<=x)=true then M.ok (PV.bl (decide (x<b))) else M.ok (PV.bl false))=M.ok (PV.bl (decide (a<=x/\x<b))):=by
 by_cases h:a<=x
 .rw[decide_eq_true h,if_pos rfl];simp[h]
 .rw[decide_eq_false h,if_neg ↑13];simp[h]
theorem t7(l:xs.length=HP.length):sI HP xs ↔ ∀i,i<HP.length->0<=vf xs i/\vf xs i<vf HP i:=by
 constructor
 .intro h i hi;rw[cN ⋯,cN hi];exact h.wX (xs[i],HP[i]) (by
   rw[N1];exact⟨i,by rw[MX];lia,by rw[Nq]⟩)
 .intro h;refine⟨l,λz hz=>?_⟩;obtain⟨i,hi,rfl⟩:=N1.mp hz;rw[MX] at hi;have:=h i ⋯;rw[cN ⋯,cN ⋯] at this;rw[Nq];exact this
theorem AV(h:Sz HP)(l:xs.length=HP.length):aP [tI xs,lI HP]=M.ok (.bl (sG HP xs)):=by
 have h6:=h.h6;have w:aE [tI xs,.int (HP.length:Int)]=M.ok (.bl true):=by
  rw[gY (p:=tI xs) ⟨_,rfl⟩ (λys e=>by cases e;exact⟨by rw[LK];lia,λx hx=>by obtain⟨i,_,rfl⟩:=M6.mp hx;exact⟨_,rfl⟩⟩) HP.length];rw[n6 (p:=tI xs) rfl];rw[pX,LK,l,decide_eq_true rfl];rfl
 have key:cY (dg 0) (some (cm (bO (fM we uQ (λ_=>M.ok (.int 0)) (ak aO (ae 1) (ae 0)) (ak aO (ae 2) (ae 0)))))) (ae 0) ((LZ HP.length).map λi:Nat=>.int (i:Int)) [none,some (.sh (tI xs)),some (.sh (lI HP))]=M.ok (((LZ HP.length).filter λi=>!decide (0<=vf xs i/\vf xs i<vf HP i)).map λi:Nat=>.int (i:Int)):=by
  refine uZ (inj:=λi:Nat=>PV.int (i:Int)) (LZ HP.length) (λi hi=>?_) λi hi=>by dsimp? []
  have J_:=MA.mp hi;dsimp? [dW (p:=tI xs) (xs:=xs) rfl (i:=i) ⋯,dW (p:=lI HP) (xs:=HP) rfl (i:=i) J_,yy]
 unfold aP bo;dsimp? [ED (p:=tI xs) ⟨_,rfl⟩,show iR (tI xs)=true from rfl,w,dm HP.length ⋯,LK,Mn,aA (aV (show HP.length<=1000 by lia)),key];congr 2;have e:(((LZ HP.length).filter λi=>!decide (0<=vf xs i/\vf xs i<vf HP i)).length:Int)=0 ↔ sG HP xs=true:=by
  rw[pJ,t7 l];constructor
  .intro e i hi;have e0:(LZ HP.length).filter (λi=>!decide (0<=vf xs i/\vf xs i<vf HP i))=[]:=PY.mp ⋯;have:=NS.mp e0 i (MA.mpr hi);simpa using this
  .intro e;rw[NS.mpr λi hi=>by simpa using e i (MA.mp hi)];rfl
 cases hb:sG HP xs with
 | true=>exact decide_eq_true (e.mpr hb)
 |false=>exact decide_eq_false λz=>by rw[e.mp z] at hb;cases hb
variable{Ls:List (List Int)}
theorem km(h:Sz HP)(r:Row p):(∃xs,p=tI xs/\sI HP xs/\aP [p,lI HP]=M.ok (.bl true))\/(bh [cT pz HP Ls,p]=M.ok (.bl false)/\aP [p,lI HP]=M.ok (.bl false)):=by
 have h6:=h.h6
 by_cases t:iR p=true/\rB HP.length p=true
 .obtain⟨xs,rfl,l⟩:=xt t.2 t.1;have a:=nX (pz:=pz) (levers:=Ls) h xs ⋯;have b:=AV h l;cases hb:sG HP xs with
  | true=>rw[hb] at b;exact .inl ⟨xs,rfl,pJ.mp hb,b⟩
  | false=>rw[hb] at a b;exact .inr ⟨a,b⟩
 .have rr:=pL r HP.length;have ww:=gY r.1 (λxs e=>r.2.2 xs e) HP.length;have tt:=ED r.1;refine .inr ⟨?_,?_⟩
  .unfold bh eM;dsimp? [ka (pz:=pz) (HP:=HP) (levers:=Ls) (g:=ae 0) (env:=[some (.sh (cT pz HP Ls)),some (.sh p),none]) rfl,tt];cases ht:iR p with
   | false=>dsimp? []
   | true =>
    have:rB HP.length p=false:=by cases e:rB HP.length p with
     | false=>rfl
     | true=>exact absurd ⟨ht,e⟩ t
    rw[this] at rr;dsimp? [rr]
  .unfold aP bo;dsimp? [tt];cases ht:iR p with
   | false=>dsimp? []
   | true =>
    have:rB HP.length p=false:=by cases e:rB HP.length p with
     | false=>rfl
     | true=>exact absurd ⟨ht,e⟩ t
    rw[this] at ww;dsimp? [ww]
def mf(h:bh [cT pz HP Ls,p]=M.ok (.bl false)):bp [cT pz HP Ls,p]=some (.error (aQ,none)):=by
 unfold bp cb;dsimp? [h,e7];rfl
def r_(r:Row p):iz [cT pz HP Ls,p]=M.ok (.bl (iR p&&rB Ls.length p)):=by
 have tt:=ED r.1;have rr:=pL r Ls.length;unfold iz il;dsimp? [tt,hR (pz:=pz) (HP:=HP) (levers:=Ls) (g:=ae 0) (env:=[some (.sh (cT pz HP Ls)),some (.sh p)]) rfl,LK,rr];cases iR p<;>rfl
def v9(r:Row p)(h:(iR p&&rB Ls.length p)=true):dE [cT pz HP Ls,p]=M.ok .bz:=by
 have:=r_ (pz:=pz) (HP:=HP) (Ls:=Ls) r;rw[h] at this;unfold dE eG;dsimp? [this]
def yx(r:Row p)(h:(iR p&&rB Ls.length p)=false):dE [cT pz HP Ls,p]=some (.error (bw,none)):=by
 have:=r_ (pz:=pz) (HP:=HP) (Ls:=Ls) r;rw[h] at this;unfold dE eG;dsimp? [this,e7];rfl
def vU(HP xs ys:List Int)(t:Int):List Int:=lU ((xs.zip ys).map λz=>z.1+t*z.2) HP
def fj(l:xs.length=HP.length):(lU xs HP).length=HP.length:=by
 unfold lU;rw[LK,MX,l,Rr]
theorem kZ(l:xs.length=HP.length)(hi:i<HP.length):vf (lU xs HP) i=vf xs i%vf HP i:=by
 rw[cN (by rwa[fj l]),cN ⋯,cN hi];unfold lU;rw[NO,Nq]
variable{ys:List Int}
def sJ(l:xs.length=ys.length)(h:∀i,i<xs.length->vf xs i=vf ys i):xs=ys:=by
 refine PX l λi h1 h2=>?_;have:=h i h1
 rwa [cN h1,cN h2] at this
variable{t:Int}
def jm(l1:xs.length=HP.length)(l2:ys.length=HP.length):((xs.zip ys).map λz=>z.1+t*z.2).length=HP.length:=by
 rw[LK,MX,l1,l2,Rr]
def pK(l1:xs.length=HP.length)(l2:ys.length=HP.length):(vU HP xs ys t).length=HP.length:=fj (jm l1 l2)
theorem yD(l1:xs.length=HP.length)(l2:ys.length=HP.length)(hi:i<HP.length):vf (vU HP xs ys t) i=(vf xs i+t*vf ys i)%vf HP i:=by
 unfold vU;rw[kZ (jm l1 l2) hi];congr 1;rw[cN (by rwa[jm l1 l2]),cN ⋯,cN ⋯,NO,Nq]
variable{q:PV}
variable{l:PV}
variable{j:Nat}
theorem mY(h:Sz HP)(l1:xs.length=HP.length)(l2:ys.length=HP.length)(hy:Bd 110 ys)(ht:t.natAbs<2^110):jj [cT pz HP Ls,tI xs,tI ys,.int t]=M.ok (tI (vU HP xs ys t)):=by
 have h6:=h.h6;have key:cY (gP 0 1) none (ak dC (ae 0) (ak cG (ae 2) (ae 1))) ((xs.zip ys).map λz=>.tup [.int z.1,.int z.2]) [none,none,some (.sh (.int t))]=M.ok ((xs.zip ys).map λz=>.int (z.1+t*z.2)) :=
  uq (p:=λz:Int×Int=>PV.int z.1) (q:=λz:Int×Int=>PV.int z.2) (xs.zip ys) λz hz=>by
   dsimp? [bR (k:=110) (l:=110) ht (hy _ (MW (a:=z.1) (b:=z.2) hz).2)]
 have hl:(xs.zip ys).length<=sizeLine:=by rw[MX];exact aV (MB (Qg _ _) ⋯)
 have er:=mD (.lst (((xs.zip ys).map λz=>z.1+t*z.2).map PV.int)) (tI HP) ((xs.zip ys).map λz=>z.1+t*z.2) HP rfl rfl (λs hs=>by have:=h.hx s hs;lia) (by rw[jm l1 l2];lia);rw[Nc] at er;unfold jj jk;dsimp? [kC (p:=tI xs) (q:=tI ys) xs ys rfl rfl,LK,aA hl,key];rw[ka (pz:=pz) (HP:=HP) (levers:=Ls) (g:=ae 0) rfl,M.aS];have er':aW 2 (ay 2 iD) [PV.lst ((xs.zip ys).map λz=>PV.int (z.1+t*z.2)),tI HP]=M.ok (tI (vU HP xs ys t)):=er
 first
 | rw[show gJ [PV.lst ((xs.zip ys).map λz=>PV.int (z.1+t*z.2)),tI HP]=_ from er'];dsimp? []
 |(dsimp? [er'])
def eF(HP:List Int):List Int->List (List Int×Int)->List Int
 | xs,[]=>xs
 |xs,(l,t)::r=>eF HP (vU HP xs l t) r
theorem u0:∀(zs:List (List Int×Int)){xs:List Int},xs.length=HP.length->(∀z∈zs,z.1.length=HP.length)->∀i,i<HP.length->vf (eF HP xs zs) i%vf HP i=(vf xs i+(zs.map λz=>z.2*vf z.1 i).sum)%vf HP i
 | [],xs,_,_,i,_=>by simp[eF]
 | (l,t)::r,xs,h,hz,i,hi=>by
  have hl:=hz (l,t) L4;rw[eF,u0 r (pK h hl) (λy hy=>hz y (LQ _ hy)) i hi,yD h hl hi,Mg,Sa,Int.emod_add_emod,QJ]
theorem qO(S:Sz HP):∀(zs:List (List Int×Int)){xs:List Int},sI HP xs->(∀z∈zs,z.1.length=HP.length)->sI HP (eF HP xs zs)
 | [],_,h,_=>h
 | (l,t)::r,xs,h,hz=>by
  have hl:=hz (l,t) L4;refine qO S r ?_ λy hy=>hz y (LQ _ hy);rw[t7 (pK h.len hl)];intro i hi;rw[yD h.len hl hi];have:=S.hx (vf HP i) (by rw[cN hi];exact Mz _);exact⟨Mq _ ⋯,Ma _ ⋯⟩
theorem tq(S:Sz HP){P:List Int}(hx:sI HP xs)(hL:∀l∈Ls,l.length=HP.length/\Bd 110 l)(hP:P.length=Ls.length)(hb:Bd 110 P)(h8:Ls.length<=8):fz [cT pz HP Ls,tI xs,tI P]=M.ok (tI (eF HP xs (Ls.zip P))):=by
 have h6:=S.h6;have rP:Row (tI P):=⟨⟨_,rfl⟩,(λ_ e=>nomatch e),λys e=>by cases e;exact⟨by rw[LK];lia,λx hx=>by obtain⟨i,_,rfl⟩:=M6.mp hx;exact⟨_,rfl⟩⟩⟩
 have n1:=gL (pz:=pz) (levers:=Ls) S hx;have n2:=v9 (pz:=pz) (HP:=HP) (Ls:=Ls) rP (by rw[n6 (p:=tI P) rfl,pX,LK,hP,decide_eq_true rfl];rfl);unfold fz gZ;dsimp? [n1,n2];rw[hR (pz:=pz) (HP:=HP) (levers:=Ls) (g:=ae 0) rfl];dsimp? [kC (f:=tI) (g:=PV.int) (p:=.tup (Ls.map tI)) (q:=tI P) Ls P rfl rfl];refine hU (Ls.zip P) (λzs env=>∃(F:List Int)(y z:Option SV),env=[some (.sh (cT pz HP Ls)),some (.sh (tI xs)),some (.sh (tI P)),some (.sh (tI F)),y,z]/\F.length=HP.length/\(∀z∈zs,(z.1.length=HP.length/\Bd 110 z.1)/\z.2.natAbs<2^110)/\eF HP F zs=eF HP xs (Ls.zip P)) ⟨xs,_,_,rfl,hx.len,λz hz=>⟨hL _ (MW (a:=z.1) (b:=z.2) hz).1,hb _ (MW (a:=z.1) (b:=z.2) hz).2⟩,rfl⟩ ?_ ?_
 .rintro⟨l,t⟩ r env ⟨F,y,z,rfl,fl,hz,e⟩;obtain⟨⟨a1,a2⟩,a3⟩:=hz (l,t) L4;refine⟨_,[some (.sh (cT pz HP Ls)),some (.sh (tI xs)),some (.sh (tI P)),some (.sh (tI (vU HP F l t))),some (.sh (tI l)),some (.sh (.int t))],rfl,?_,vU HP F l t,_,_,rfl,pK fl a1,λz Ke=>hz z (LQ _ Ke),e⟩;dsimp? [mY (pz:=pz) (Ls:=Ls) S fl a1 a2 a3]
 .rintro HS ⟨F,y,z,rfl,fl,_,e⟩;have e':F=eF HP xs (Ls.zip P):=e;dsimp? [e']
def sY(h:bh [cT pz HP Ls,p]=M.ok (.bl false)):fz [cT pz HP Ls,p,q]=some (.error (aQ,none)):=by
 unfold fz gZ;dsimp? [mf h]
def uf(S:Sz HP)(hx:sI HP xs)(r:Row q)(h:(iR q&&rB Ls.length q)=false):fz [cT pz HP Ls,tI xs,q]=some (.error (bw,none)):=by
 unfold fz gZ;dsimp? [gL (pz:=pz) (levers:=Ls) S hx,yx (pz:=pz) (HP:=HP) (Ls:=Ls) r h]
theorem rJ(S:Sz HP)(hx:sI HP xs)(hy:sI HP ys):d_ [cT pz HP Ls,tI xs,tI ys]=M.ok (tI (vU HP ys xs (-1))):=by
 have b:Bd 110 xs:=λx m=>by have:=Ab S hx m;lia
 unfold d_ gf;dsimp? [gL (pz:=pz) (levers:=Ls) S hx,gL (pz:=pz) (levers:=Ls) S hy,mY (pz:=pz) (Ls:=Ls) S (t:=-1) hy.len hx.len b ↑12]
def r9(h:bh [cT pz HP Ls,p]=M.ok (.bl false)):d_ [cT pz HP Ls,p,q]=some (.error (aQ,none)):=by
 unfold d_ gf;dsimp? [mf h]
def qX(S:Sz HP)(hx:sI HP xs)(h:bh [cT pz HP Ls,q]=M.ok (.bl false)):d_ [cT pz HP Ls,tI xs,q]=some (.error (aQ,none)):=by
 unfold d_ gf;dsimp? [gL (pz:=pz) (levers:=Ls) S hx,mf h]
theorem yJ(S:Sz HP)(r:Row p)(e:bT p=some (xs.map PV.int))(l:xs.length=HP.length):jE [cT pz HP Ls,p]=M.ok (tI (lU xs HP)):=by
 have h6:=S.h6;have rr:=pL r HP.length;rw[n6 e,pX,LK,l,decide_eq_true rfl] at rr;unfold jE mP;rw[show aW 2 (ay 3 _) [cT pz HP Ls,p]=ay 3 _ [cT pz HP Ls,p] from rfl];dsimp? [ka (pz:=pz) (HP:=HP) (levers:=Ls) (g:=ae 0) (env:=[some (.sh (cT pz HP Ls)),some (.sh p),none]) rfl,rr,mD p (tI HP) xs HP e rfl (λs hs=>by have:=S.hx s hs;lia) ⋯]
def Ak(r:Row p)(h:rB HP.length p=false):jE [cT pz HP Ls,p]=some (.error (aQ,none)):=by
 have rr:=pL r HP.length;rw[h] at rr;unfold jE mP;dsimp? [ka (pz:=pz) (HP:=HP) (levers:=Ls) (g:=ae 0) (env:=[some (.sh (cT pz HP Ls)),some (.sh p),none]) rfl,rr,e7];rfl
def mE{t:PV}(h:bh [cT pz HP Ls,p]=M.ok (.bl false)):cO [cT pz HP Ls,p,l,t]=some (.error (aQ,none)):=by
 unfold cO dP;dsimp? [mf h]
def mS(S:Sz HP){t:PV}(hx:sI HP xs)(hl:Ty l)(h:A5 0 ((Ls.length:Int)-1) l=false):cO [cT pz HP Ls,tI xs,l,t]=some (.error (aY,some [("lever",l)])):=by
 have w:=pB hl 0 ((Ls.length:Int)-1);rw[h] at w;unfold cO dP;dsimp? [gL (pz:=pz) (levers:=Ls) S hx,hR (pz:=pz) (HP:=HP) (levers:=Ls) (g:=ae 0) (env:=[some (.sh (cT pz HP Ls)),some (.sh (tI xs)),some (.sh l),some (.sh t),none]) rfl,LK,w,gQ]
def nr(S:Sz HP){t:PV}(hx:sI HP xs)(hl:Ty l)(h:A5 0 ((Ls.length:Int)-1) l=true)(ht:Ty t)(h2:wB t=false):cO [cT pz HP Ls,tI xs,l,t]=some (.error (bw,none)):=by
 have w:=pB hl 0 ((Ls.length:Int)-1);rw[h] at w;have w2:=jX ht;rw[h2] at w2;unfold cO dP;dsimp? [gL (pz:=pz) (levers:=Ls) S hx,hR (pz:=pz) (HP:=HP) (levers:=Ls) (g:=ae 0) (env:=[some (.sh (cT pz HP Ls)),some (.sh (tI xs)),some (.sh l),some (.sh t),none]) rfl,LK,w,w2,e7];rfl
theorem nV(S:Sz HP)(hx:sI HP xs)(hj:j<Ls.length)(hL:∀l∈Ls,l.length=HP.length/\Bd 110 l)(ht:t.natAbs<2^110):cO [cT pz HP Ls,tI xs,.int (j:Int),.int t]=M.ok (tI (vU HP xs (Ls.getD j []) t)):=by
 have w:=within_int (j:Int) 0 ((Ls.length:Int)-1);rw[decide_eq_true ⋯] at w;have eL:Ls.getD j []=Ls[j]:=by rw[Mc,LL hj];rfl
 obtain⟨a,b⟩:=hL Ls[j] (Mz _);have ix:aO (.tup (Ls.map tI)) (.int (j:Int))=M.ok (tI Ls[j]):=cW (j:=j) rfl (by rw[L_,LL hj];rfl);rw[eL];unfold cO dP;dsimp? [gL (pz:=pz) (levers:=Ls) S hx,hR (pz:=pz) (HP:=HP) (levers:=Ls) (g:=ae 0) (env:=[some (.sh (cT pz HP Ls)),some (.sh (tI xs)),some (.sh (.int (j:Int))),some (.sh (.int t)),none]) rfl,LK,w,jh,ix,mY (pz:=pz) (Ls:=Ls) S hx.len a b ht]
theorem ml(ns:List Int)(k:Nat)(hk:k<=100):∃c,bA [.eS (ns.map PV.int),.int (k:Int)]=M.ok (.int c):=by
 suffices z:jV (bA [.eS (ns.map PV.int),.int (k:Int)]) λp=>∃c,p=.int c by
  obtain⟨_,e,c,rfl⟩:=z;exact⟨c,e⟩
 have sq:∀z m:Int,0<m->m<2147483648->cG (.int (z%m)) (.int (z%m))=M.ok (.int (z%m*(z%m))):=λz m h1 h2=>by
  have:=Mq z (show m≠0 by lia);have:=Ma z h1;exact bR (k:=31) (l:=31) ⋯ ⋯
 unfold bA fE
 by_cases h:(k:Int)<(ns.length:Int)
 .have h':k<ns.length:=by lia
  dsimp? [LK,h,decide_true,cW (p:=.eS (ns.map PV.int)) (j:=k) (x:=.int ns[k]) rfl (by rw[L_,LL h'];rfl)];exact⟨_,rfl,_,rfl⟩
 .have m1:cG (.int 7919) (.int (k:Int))=M.ok (.int (7919*k)):=bR (k:=31) (l:=31) ↑12 ⋯
  by_cases h0:(0:Int)<ns.length
  .have m2:cG (.int 7) (.int (k:Int))=M.ok (.int (7*k)):=bR (k:=31) (l:=31) ↑12 ⋯;have j0:=Mq (7*(k:Int)) (show (ns.length:Int)≠0 by lia);have j1:=Ma (7*(k:Int)) h0;obtain⟨j,hj⟩:=Mb j0;have jl:j<ns.length:=by lia
   have ix:aO (.eS (ns.map PV.int)) (.int (j:Int))=M.ok (.int ns[j]):=cW (j:=j) rfl (by rw[L_,LL jl];rfl);dsimp? [LK,h,decide_false,m1,h0,decide_true,m2,aB (i:=7*(k:Int)) (j:=(ns.length:Int)) h0,hj,ix,aB (i:=ns[j]+7919*(k:Int)) (j:=2147483647) ↑12,sq _ 2147483647 ↑12 ↑12,aB (j:=2147483629) ↑12];exact⟨_,rfl,_,rfl⟩
  .have m2:cG (.int (7919*(k:Int)+5)) (.int (7919*(k:Int)+5))=M.ok (.int ((7919*(k:Int)+5)*(7919*(k:Int)+5))):=bR (k:=31) (l:=31) ⋯ ⋯;dsimp? [LK,h,decide_false,m1,h0,m2,aB (j:=2147483629) ↑12];exact⟨_,rfl,_,rfl⟩
theorem kP(c:Int)(k:Nat)(hk:k<=200):∃m,aC [.int c,.int (k:Int)]=M.ok (.int m)/\0<=m/\m<2147483587:=by
 suffices z:jV (aC [.int c,.int (k:Int)]) λp=>∃z:Int,p=.int (z%2147483587) by
  obtain⟨_,e,z,rfl⟩:=z;exact⟨_,e,Mq _ (show (2147483587:Int)≠0 by decide),Ma _ (show (0:Int)<2147483587 by decide)⟩
 have sq:∀z m:Int,0<m->m<2147483648->cG (.int (z%m)) (.int (z%m))=M.ok (.int (z%m*(z%m))):=λz m h1 h2=>by
  have:=Mq z (show m≠0 by lia);have:=Ma z h1;exact bR (k:=31) (l:=31) ⋯ ⋯
 have m1:cG (.int 7919) (.int (k:Int))=M.ok (.int (7919*k)):=bR (k:=31) (l:=31) ↑12 ⋯;have m2:cG (.int 48271) (.int (k:Int))=M.ok (.int (48271*k)):=bR (k:=31) (l:=31) ↑12 ⋯;have m3:∀z:Int,cG (.int 7) (.int (z%2147483629))=M.ok (.int (7*(z%2147483629))):=λz=>bR (k:=31) (l:=31) ↑12 ⋯;unfold aC bZ;dsimp? [m1,m2,m3,aB (j:=2147483647) ↑12,aB (j:=2147483629) ↑12,aB (j:=2147483587) ↑12,sq _ 2147483647 ↑12 ↑12,sq _ 2147483629 ↑12 ↑12];exact⟨_,rfl,_,rfl⟩
def nN(i:Int):Dt 3 (.int i):=⟨⟨_,rfl⟩,.int i,rfl,rfl,MP _⟩
def E1(b:Bool):Dt 3 (.bl b):=⟨⟨_,rfl⟩,.bool b,rfl,rfl,MP _⟩
def xT:Dt 3 .bz:=⟨⟨_,rfl⟩,.none,rfl,rfl,MP _⟩
variable{x:Str}
def pY(h:(R5 x).canLay0=true):Dt 3 (.str x):=⟨⟨_,rfl⟩,.str x,rfl,h,MP _⟩
def Cb(i:Int):Dt 3 (.lst [.int i])/\Dt 3 (.tup [.int i]):=⟨⟨⟨_,rfl⟩,.list [.int i],rfl,rfl,by show 0+1<=3;decide⟩,⟨⟨_,rfl⟩,.tuple [.int i],rfl,rfl,by show 0+1<=3;decide⟩⟩
def vi{xs:List PV}(h:xs.length<=1000):lstK xs=M.ok (.lst xs):=aA (aV h)
def bI(b:Bool):Int:=if b then 1 else 0
def EB(a b:PV)(c:Bool):aO (.lst [a,b]) (.int (bI c))=M.ok (if c then b else a):=by
 cases c
 .exact cW (j:=0) rfl rfl
 .exact cW (j:=1) rfl rfl
theorem mod2(z:Int):z%2=bI (decide (z%2=1)):=by
 unfold bI
 by_cases h:z%2=1
 .rw[decide_eq_true h,if_pos rfl];exact h
 .rw[decide_eq_false h,if_neg ↑13];lia
theorem lx(c:Int)(k:Nat)(hk:k<=100):∃n,bF [.int c,.int (k:Int)]=M.ok (.int n)/\n.natAbs<2^110:=by
 obtain⟨m,em,m0,m1⟩:=kP c k ⋯;obtain⟨f,ef,f0,f1⟩:=kP c (k+61) ⋯;rw[show ((k+61:Nat):Int)=(k:Int)+61 by lia] at ef;have p9:rm (.int 10) (.int 9)=M.ok (.int 1000000000):=rfl;have p20:rm (.int 10) (.int 20)=M.ok (.int 100000000000000000000):=rfl;have mm:cG (.int (f%1000000000)) (.int 100000000000000000000)=M.ok (.int (f%1000000000*100000000000000000000)):=bR (k:=64) (l:=80) ⋯ ↑12;unfold bF c7
 by_cases h0:m%3=0
 .exact⟨m/3%9-4,by dsimp? [em,aB (i:=m) (j:=3) ↑12,h0,decide_true,bx (i:=m) (j:=3) ↑12 ↑12,aB (i:=m/3) (j:=9) ↑12],by lia⟩
 by_cases h1:m%3=1
 .exact⟨m/3%720,by dsimp? [em,aB (i:=m) (j:=3) ↑12,h1,(show decide ((1:Int)=0)=false from rfl),decide_true,bx (i:=m) (j:=3) ↑12 ↑12,aB (i:=m/3) (j:=720) ↑12],by lia⟩
 .refine⟨if decide (m/3%2=1)=true then 0-(f%1000000000*100000000000000000000+m) else f%1000000000*100000000000000000000+m,?_,?_⟩
  .dsimp? [em,aB (i:=m) (j:=3) ↑12,h0,h1,decide_false,ef,p9,p20,aB (i:=f) (j:=1000000000) ↑12,mm,bx (i:=m) (j:=3) ↑12 ↑12,aB (i:=m/3) (j:=2) ↑12];rw[mod2 (m/3),EB];cases decide (m/3%2=1)<;>rfl
  .split<;>lia
variable{body:af->M Out}
def jV.Br{β γ:Type}{R:β->Prop}{set:PV->af->M af}{inj:γ->PV}{k:Out->M β}{xs:List γ}{env:af}(J:List γ->af->Prop)(h:J xs env)(H:∀a r env,J (a::r) env->∃e' HS,set (inj a) env=M.ok e'/\body e'=M.ok (.nx HS)/\J r HS)(hk:∀HS,J [] HS->jV (k (.nx HS)) R):jV (M.bind (hG set body (xs.map inj) env) k) R:=by
 obtain⟨HS,e,j⟩:=kl J H xs env h;rw[e,M.aS];exact hk HS j
theorem vp(c:Int):∃HP,eJ [.int c]=M.ok (lI HP)/\Sz HP:=by
 have c0:=Mq c (show (6:Int)≠0 by decide);have c1:=Ma c (show (0:Int)<6 by decide)
 suffices z:jV (eJ [.int c]) λp=>∃HP,p=lI HP/\Sz HP by
  obtain⟨_,e,HP,rfl,h⟩:=z;exact⟨HP,e,h⟩
 obtain⟨n,hn⟩:=Mb c0;unfold eJ gb;have r1:=dm (1+n) ⋯;rw[show ((1+n:Nat):Int)=1+(n:Int) by lia] at r1;dsimp? [o4,aB (i:=c) (j:=6) ↑12,hn,r1];refine jV.Br (inj:=λi:Nat=>PV.int (i:Int)) (λr env=>∃(xs:List Int)(y z:Option SV),env=[some (.sh (.int c)),some (.ow (xs.map PV.int)),y,z]/\xs.length+r.length=1+n/\(∀k∈r,k<=100)/\∀x∈xs,2<=x/\x<=360) ⟨[],_,_,rfl,by simp,λk hk=>by have:=MA.mp hk;lia,λ_ h=>nomatch h⟩ ?_ ?_
 .rintro k r env ⟨xs,y,z,rfl,hl,hk,hx⟩;obtain⟨m,em,m0,m1⟩:=kP c k (by have:=hk k L4;lia);obtain⟨s,es,s1,s2⟩:∃s:Int,aO (.lst (([359,11,5,359]:List Int).map PV.int)) (.int (m%4))=M.ok (.int s)/\0<s/\s<=359:=by
   have a0:=Mq m (show (4:Int)≠0 by decide);have a1:=Ma m (show (0:Int)<4 by decide);obtain⟨j,hj⟩:=Mb a0;rw[hj]
   match j,(show j<4 by lia) with
   | 0,_=>exact⟨359,rfl,by decide,by decide⟩
   | 1,_=>exact⟨11,rfl,by decide,by decide⟩
   | 2,_=>exact⟨5,rfl,by decide,by decide⟩
   | 3,_=>exact⟨359,rfl,by decide,by decide⟩
  have a0:=Mq (m/4) (show s≠0 by lia);have a1:=Ma (m/4) s1;have Ka:(xs.map PV.int).length<1000:=by rw[LK];simp at hl;lia
  refine⟨_,[some (.sh (.int c)),some (.ow ((xs++[2+m/4%s]).map PV.int)),some (.sh (.int (k:Int))),some (.sh (.int m))],rfl,?_,xs++[2+m/4%s],_,_,rfl,by simp at hl ⊢;lia,λk KQ=>hk k (LQ _ KQ),λx hx'=>?_⟩
  .simp only[Mg,Pb] at es;dsimp? [em,bx (i:=m) (j:=4) ↑12 ↑12,aB (i:=m) (j:=4) ↑12,es,aB (i:=m/4) (j:=s) s1,uE,ownAt,vd Ka,Qh]
  .rcases NT.mp hx' with h|h
   .exact hx x h
   .simp at h;lia
 .rintro HS ⟨xs,y,z,rfl,hl,hk,hx⟩;refine⟨_,by dsimp? [];rfl,xs,rfl,?_⟩;simp at hl;exact⟨by lia,by lia,hx⟩
def mG{f:af->M PV}{inj:α->PV}{rest:af}{Q:Int->Prop}(xs:List α)(H:∀a∈xs,∃i,f (some (.sh (inj a))::rest)=M.ok (.int i)/\Q i):∃ys:List Int,cY (dg 0) none f (xs.map inj) (x0::rest)=M.ok (ys.map PV.int)/\ys.length=xs.length/\∀y∈ys,Q y:=by
 induction xs generalizing x0 with
 | nil=>exact⟨[],rfl,rfl,λ_ h=>nomatch h⟩
 | cons a r ih =>
  obtain⟨p,e,q⟩:=H a L4;obtain⟨ps,e2,l,q2⟩:=ih (x0:=some (.sh (inj a))) λc hc=>H c (LQ _ hc);refine⟨p::ps,?_,by simp[l],λx hx=>?_⟩
  .rw[Mg,cY];show M.bind (M.ok ((x0::rest).set 0 (some (.sh (inj a))))) _=_;rw[M.aS,NR];show M.bind (f _) _=_;rw[e,M.aS,e2];rfl
  .rcases L5.mp hx with rfl|hx
   .exact q
   .exact q2 x hx
theorem tF(ns:List Int)(m n:Nat)(hm:m<=8)(hn:n<=6):∃HU:List (List Int),dR [.eS (ns.map PV.int),.int 2,.int (m:Int),.int (n:Int)]=M.ok (.lst (HU.map lI))/\HU.length=m/\∀l∈HU,l.length=n/\Bd 110 l:=by
 suffices z:jV (dR [.eS (ns.map PV.int),.int 2,.int (m:Int),.int (n:Int)]) λp=>∃HU:List (List Int),p=.lst (HU.map lI)/\HU.length=m/\∀l∈HU,l.length=n/\Bd 110 l by
  obtain⟨_,e,HU,rfl,h⟩:=z;exact⟨HU,e,h⟩
 unfold dR fx;dsimp? [o4,dm m ⋯];refine jV.Br (inj:=λi:Nat=>PV.int (i:Int)) (λr env=>∃(HU:List (List Int))(y:Option SV),env=[some (.sh (.eS (ns.map PV.int))),some (.sh (.int 2)),some (.sh (.int (m:Int))),some (.sh (.int (n:Int))),some (.ow (HU.map lI)),y]/\HU.length+r.length=m/\(∀k∈r,k<=10)/\∀l∈HU,l.length=n/\Bd 110 l) ⟨[],_,rfl,by simp,λk hk=>by have:=MA.mp hk;lia,λ_ h=>nomatch h⟩ ?_ ?_
 .rintro k r env ⟨HU,y,rfl,hl,hk,hx⟩;have k10:=hk k L4;obtain⟨c,ec⟩:=ml ns (2+k) ⋯;rw[show ((2+k:Nat):Int)=2+(k:Int) by lia] at ec;obtain⟨ys,e1,l1,q1⟩:=mG (x0:=none) (f:=ah bF (aa (ah bA (aa (ae 1) (aa (ak dC (ae 2) (ae 3)) ai))) (aa (ae 0) ai))) (inj:=λi:Nat=>PV.int (i:Int)) (rest:=[some (.sh (.eS (ns.map PV.int))),some (.sh (.int 2)),some (.sh (.int (k:Int)))]) (Q:=λi=>i.natAbs<2^110) (LZ n) λa ha=>by
   obtain⟨i,ei,bi⟩:=lx c a (by have:=MA.mp ha;lia);exact⟨i,by dsimp? [ec,ei],bi⟩
  rw[Mn] at l1;have Ka:(HU.map lI).length<1000:=by rw[LK];simp at hl;lia
  refine⟨_,[some (.sh (.eS (ns.map PV.int))),some (.sh (.int 2)),some (.sh (.int (m:Int))),some (.sh (.int (n:Int))),some (.ow ((HU++[ys]).map lI)),some (.sh (.int (k:Int)))],rfl,?_,HU++[ys],_,rfl,by simp at hl ⊢;lia,λk KQ=>hk k (LQ _ KQ),λl hl'=>?_⟩
  .dsimp? [uE,ownAt,dm n ⋯,LK,Mn,aA (aV (show n<=1000 by lia)),e1,vd Ka,Qh];rfl
  .rcases NT.mp hl' with h|h
   .exact hx l h
   .simp at h;subst h;exact⟨l1,q1⟩
 .rintro HS ⟨HU,y,rfl,hl,hk,hx⟩;simp at hl;exact⟨_,by dsimp? [],HU,rfl,hl,hx⟩
theorem mi(S:Sz HP)(c:Int):∃xs:List Int,bX [.int c,lI HP,.int (-1)]=M.ok (tI xs)/\xs.length=HP.length/\Bd 110 xs:=by
 have h6:=S.h6;obtain⟨ys,e1,l1,q1⟩:=mG (x0:=none) (f:=ak da (ah aC (aa (ae 1) (aa (ak dC (λ_=>M.ok (.int 7)) (ae 0)) ai))) (ak aO (ae 2) (ae 0))) (inj:=λi:Nat=>PV.int (i:Int)) (rest:=[some (.sh (.int c)),some (.sh (lI HP))]) (Q:=λi=>i.natAbs<2^110) (LZ HP.length) λa ha=>by
  have K2:=MA.mp ha;obtain⟨m,em,_,_⟩:=kP c (7+a) ⋯;rw[show ((7+a:Nat):Int)=7+(a:Int) by lia] at em;have sp:=S.hx (vf HP a) (by rw[cN K2];exact Mz _);refine⟨m%vf HP a,by dsimp? [em,dW (p:=lI HP) (xs:=HP) rfl K2,aB (i:=m) (j:=vf HP a) ⋯],?_⟩;have:=Mq m (show vf HP a≠0 by lia);have:=Ma m (show 0<vf HP a by lia);lia
 rw[Mn] at l1;refine⟨ys,?_,l1,q1⟩;unfold bX dz;dsimp? [show decide ((-1:Int)<0)=true from rfl,dm HP.length ⋯,LK,Mn,aA (aV (show HP.length<=1000 by lia)),e1];rfl
theorem uR(c:Int)(m:Nat)(hm:m<=8):∃xs:List Int,bX [.int c,lI HP,.int (m:Int)]=M.ok (tI xs)/\xs.length=m/\Bd 110 xs:=by
 obtain⟨ys,e1,l1,q1⟩:=mG (x0:=none) (f:=ah bF (aa (ae 1) (aa (ak dC (λ_=>M.ok (.int 7)) (ae 0)) ai))) (inj:=λi:Nat=>PV.int (i:Int)) (rest:=[some (.sh (.int c))]) (Q:=λi=>i.natAbs<2^110) (LZ m) λa ha=>by
  have K2:=MA.mp ha;obtain⟨i,ei,bi⟩:=lx c (7+a) ⋯;rw[show ((7+a:Nat):Int)=7+(a:Int) by lia] at ei;exact⟨i,by dsimp? [ei],bi⟩
 rw[Mn] at l1;refine⟨ys,?_,l1,q1⟩;unfold bX dz;dsimp? [show decide ((m:Int)<0)=false from decide_eq_false ⋯,dm m ⋯,LK,Mn,aA (aV (show m<=1000 by lia)),e1];rfl
structure GT (p:PV):Prop where
 dt:Dt 3 p
 ns:∀xs,p≠.eS xs
 it:∀xs,bT p=some xs->xs.length<=100/\∀x∈xs,Dt 2 x/\∀i,x=.int i->i.natAbs<2^110
def GT.row(h:GT p):Row p:=⟨h.dt.1,h.ns,λxs e=>⟨MB (h.it xs e).1 ↑12,λx hx=>((h.it xs e).2 x hx).1.1⟩⟩
def GT.bd(h:GT p)(e:bT p=some (xs.map PV.int)):Bd 110 xs:=λx hx=>((h.it _ e).2 (.int x) (M6.mpr ⟨x,hx,rfl⟩)).2 x rfl
def k_{xs:List PV}(h1:xs.length<=100)(h:∀x∈xs,Dt 2 x/\∀i,x=.int i->i.natAbs<2^110):GT (.tup xs):=⟨Dt.tup λp hp=>(h p hp).1,(λ_ e=>nomatch e),λys e=>by cases e;exact⟨h1,h⟩⟩
def y4{xs:List PV}(h1:xs.length<=100)(h:∀x∈xs,Dt 2 x/\∀i,x=.int i->i.natAbs<2^110):GT (.lst xs):=⟨Dt.lst λp hp=>(h p hp).1,(λ_ e=>nomatch e),λys e=>by cases e;exact⟨h1,h⟩⟩
def xa(i:Int):Dt 2 (.int i):=⟨⟨_,rfl⟩,.int i,rfl,rfl,MP _⟩
def Ey(b:Bool):Dt 2 (.bl b):=⟨⟨_,rfl⟩,.bool b,rfl,rfl,MP _⟩
def wY(h:(R5 x).canLay0=true):Dt 2 (.str x):=⟨⟨_,rfl⟩,.str x,rfl,h,MP _⟩
def pk(b:Bd 110 xs):∀x∈xs.map PV.int,Dt 2 x/\∀i,x=.int i->i.natAbs<2^110:=λx hx=>by
 obtain⟨i,hi,rfl⟩:=M6.mp hx;exact⟨xa i,λj e=>by cases e;exact b i hi⟩
def u_{xs:List PV}{lo hi:Option Int}(h:p∈jQ xs lo hi):p∈xs:=List.mem_of_mem_drop (List.mem_of_mem_take h)
theorem uY(xs:List PV)(lo hi:Option Int):(jQ xs lo hi).length<=xs.length:=by
 unfold jQ;rw[OI,PK];lia
def D5(xs ys:List PV)(h:xs.length+ys.length<=1000):dC (.tup xs) (.tup ys)=M.ok (.tup (xs++ys)):=by
 first|rfl|exact aA (aV h)
theorem dZ(S:Sz HP)(l:xs.length<=8)(b:Bd 110 xs)(c:Int):∃p,bb [tI xs,.int c,lI HP]=M.ok p/\GT p:=by
 have h6:=S.h6;have g0:GT (tI xs):=k_ (by rw[LK];lia) (pk b)
 by_cases h5:c%5>0
 .exact⟨tI xs,by unfold bb bL;dsimp? [aB (i:=c) (j:=5) ↑12,h5,decide_true],g0⟩
 .have k0:=Mq (c/5) (show (8:Int)≠0 by decide);have k1:=Ma (c/5) (show (0:Int)<8 by decide);obtain⟨k,hk⟩:=Mb k0;have ix:∀ps:List PV,ps.length=8->aO (.lst ps) (.int (k:Int))=M.ok (ps.getD k .bz):=λps hp=>Gm rfl k ⋯;have s1:∀lo hi,G5 (tI xs) lo hi=M.ok (.tup (jQ (xs.map PV.int) lo hi)):=λlo hi=>rfl;have n1:vV (.int 1)=M.ok (.int (-1)):=rfl;have a1:=D5 (xs.map PV.int) [.int 0] (by simp;lia);have cl:=uY (xs.map PV.int) none (some (-1));have cl2:=uY (xs.map PV.int) (some 1) none;rw[LK] at cl cl2;have a2:=D5 (jQ (xs.map PV.int) none (some (-1))) [.str "1"] (by simp;lia);have m1:=mul_one (.bl true) xs.length ⋯;have all:∀q∈[lI xs,.tup (xs.map PV.int++[.int 0]),.tup (jQ (xs.map PV.int) (some 1) none),.bz,.str "0",.tup (LO xs.length (.bl true)),.tup (jQ (xs.map PV.int) none (some (-1))++[.str "1"]),tI HP],GT q:=λq hq=>by
   simp only[L5,OL,or_false] at hq;rcases hq with rfl|rfl|rfl|rfl|rfl|rfl|rfl|rfl
   .exact y4 (by rw[LK];lia) (pk b)
   .refine k_ (by simp;lia) λx hx=>?_;rcases NT.mp hx with h|h
    .exact pk b x h
    .simp at h;subst h;exact⟨xa 0,λi e=>by cases e;decide⟩
   .exact k_ ⋯ λx hx=>pk b x (u_ hx)
   .exact⟨xT,(λ_ e=>nomatch e),(λ_ e=>nomatch e)⟩
   .exact⟨pY (by decide +kernel),(λ_ e=>nomatch e),(λ_ e=>nomatch e)⟩
   .refine k_ (by simp;lia) λx hx=>?_;rw[List.eq_of_mem_replicate hx];exact⟨Ey true,(λi e=>nomatch e)⟩
   .refine k_ (by simp;lia) λx hx=>?_;rcases NT.mp hx with h|h
    .exact pk b x (u_ h)
    .simp at h;subst h;exact⟨wY (by decide +kernel),(λi e=>nomatch e)⟩
   .exact k_ (by rw[LK];lia) (pk λx hx=>by have:=S.hx x hx;lia)
  refine⟨_,?_,all _ (getD_mem (k:=k) (by show k<8;lia))⟩;unfold bb bL;dsimp? [aB (i:=c) (j:=5) ↑12,h5,decide_false,pV,qA,zL,EN,s1,n1,m1,bx (i:=c) (j:=5) ↑12 ↑12,aB (i:=c/5) (j:=8) ↑12,hk];rw[show dC (tI xs) (.tup [.int 0])=_ from a1,a2];dsimp? []
  first
  | rw[vi (by show 8<=1000;decide),M.aS,ix _ rfl];rfl
  |skip
def same_int(n:Nat)(i:Int):aJ (n+1) [.int i,.int i]=M.ok (.bl true):=by
 show ay 4 (cx (aJ n)) _=_;unfold cx;dsimp? [lY,nK,decide_true]
def wN(n:Nat):aJ (n+1) [.str "told",.str "told"]=M.ok (.bl true):=by
 show ay 4 (cx (aJ n)) _=_;have e:gO (.str "told") (.str "told")=M.ok (.bl true):=(jb (n:=3) ↑12 (pY (by decide +kernel))).1;unfold cx;dsimp? [lY,nK,decide_true,e]
def GW(xs ys:List PV):zip2 [.tup xs,.tup ys]=M.ok ((xs.zip ys).map λz=>.tup [z.1,z.2]):=by
 show M.ok (N4 _ xs ys)=_;rw[List.zip,RH]
theorem lj{α:Type}:∀(xs:List α)(z:α×α),z∈xs.zip xs->z.1=z.2/\z.1∈xs
 | [],_,h=>nomatch h
 | x::r,z,h=>by
  rcases L5.mp (show z∈(x,x)::r.zip r from h) with e|e
  .rw[e];exact⟨rfl,L4⟩
  .exact⟨(lj r z e).1,LQ _ (lj r z e).2⟩
def nA(n:Nat)(xs:List PV)(h:∀x∈xs,aJ (n+1) [x,x]=M.ok (.bl true)):aJ (n+2) [.tup xs,.tup xs]=M.ok (.bl true):=by
 show ay 4 (cx (aJ (n+1))) _=_;unfold cx;dsimp? [lY,nK,decide_true,GW];refine hU (xs.zip xs) (λzs env=>(∃b c p,env=[p,p,b,c]/\p=some (.sh (.tup xs)))/\∀z∈zs,z.1=z.2/\z.1∈xs) ⟨⟨_,_,_,rfl,rfl⟩,λz hz=>lj xs z hz⟩ ?_ ?_
 .rintro⟨a,a'⟩ r env ⟨⟨b,c,p,rfl,hp⟩,hz⟩;obtain⟨e,hm⟩:a=a'/\a∈xs:=hz (a,a') L4;subst e;refine⟨_,[p,p,some (.sh a),some (.sh a)],rfl,?_,⟨_,_,_,rfl,hp⟩,λz Ke=>hz z (LQ _ Ke)⟩;dsimp? [h a hm]
 .rintro HS ⟨⟨b,c,p,rfl,hp⟩,_⟩;rfl
def u4(n:Nat)(xs:List Int):aJ (n+2) [tI xs,tI xs]=M.ok (.bl true):=nA n _ λx hx=>by
 obtain⟨i,_,rfl⟩:=M6.mp hx;exact same_int n i
def A_(h:aJ 3 [p,p]=M.ok (.bl true)):bK [p,p]=M.ok (.bl true):=by
 unfold bK aW;exact h
def jf(xs:List Int):bK [.tup [.str "told",tI xs],.tup [.str "told",tI xs]]=M.ok (.bl true):=A_ (nA 1 _ λx hx=>by
 simp only[L5,OL,or_false] at hx;rcases hx with rfl|rfl
 .exact wN 1
 .exact u4 0 xs)
def wk(Ls:List (List Int)):bK [.tup (Ls.map tI),.tup (Ls.map tI)]=M.ok (.bl true):=A_ (nA 1 _ λx hx=>by
 obtain⟨l,_,rfl⟩:=M6.mp hx;exact u4 0 l)
theorem rD{f:Nat->Int}(l:xs.length=n)(h:∀i,i<n->f i=vf xs i):(LZ n).map f=xs:=by
 refine PX (by rw[LK,Mn,l]) λi h1 h2=>?_;rw[NO,Q3,h i ⋯,cN h2]
theorem g9{zs:List Int}(S:Sz HP)(e:bT p=some (zs.map PV.int))(l:zs.length=HP.length):bu [lI HP,p]=M.ok (tI (lU zs HP)):=by
 have h6:=S.h6;have key:cY (dg 0) none (ak da (ak aO (ae 2) (ae 0)) (ak aO (ae 1) (ae 0))) ((LZ HP.length).map λi:Nat=>.int (i:Int)) [none,some (.sh (lI HP)),some (.sh p)]=M.ok ((LZ HP.length).map λi=>.int (vf zs i%vf HP i)):=by
  refine kY (inj:=λi:Nat=>PV.int (i:Int)) (LZ HP.length) λi hi=>?_;have J_:=MA.mp hi;have sp:=S.hx (vf HP i) (by rw[cN J_];exact Mz _);dsimp? [dW e (i:=i) ⋯,dW (p:=lI HP) (xs:=HP) rfl J_,aB (i:=vf zs i) (j:=vf HP i) ⋯]
 have e2:(LZ HP.length).map (λi=>vf zs i%vf HP i)=lU zs HP:=rD (fj l) λi hi=>(kZ l hi).symm;unfold bu cy;dsimp? [dm HP.length ⋯,LK,Mn,aA (aV (show HP.length<=1000 by lia)),key];rw[tI,<- e2,Nc];rfl
theorem kW(c k:Int)(h0:0<=k)(h:k<=200):∃m,aC [.int c,.int k]=M.ok (.int m):=by
 obtain⟨n,rfl⟩:=Mb h0;obtain⟨m,e,_⟩:=kP c n ⋯;exact⟨m,e⟩
def DP(h:(R5 x).canLay0=true):gO (.tup [.str x]) (.tup [.str x])=M.ok (.bl true):=(jb (n:=3) ↑12 (Dt.tup λp hp=>by
 simp at hp;subst hp;exact wY h)).1
def mU:gO (.tup [.str "setting"]) (.tup [.str "setting"])=M.ok (.bl true):=DP (by decide +kernel)
def sN:gO (.tup [.str "pulls"]) (.tup [.str "pulls"])=M.ok (.bl true):=DP (by decide +kernel)
def xX(p:PV):tell (M.ok p)=M.ok (.tup [.str "told",p]):=rfl
def oS:tell (some (.error (aQ,none)))=M.ok (.tup [.str "setting"]):=by rfl
def va:tell (some (.error (bw,none)))=M.ok (.tup [.str "pulls"]):=by rfl
def Bp(l:PV):tell (some (.error (aY,some [("lever",l)])))=M.ok (.tup [.str "lever",l]):=by rfl
theorem rM(S:Sz HP)(c:Int):eB [cT pz HP Ls,lI HP,.int c]=M.ok (.bl true):=by
 have h6:=S.h6;obtain⟨xs,e1,l1,b1⟩:=mi S c;obtain⟨m1,JR⟩:=kW c 31 ⋯ ⋯;obtain⟨p,ep,gp⟩:=dZ S ⋯ b1 m1;obtain⟨ys,e2,l2,b2⟩:=mi S (c/3);obtain⟨m2,Kz⟩:=kW c 32 ⋯ ⋯;obtain⟨q,eq,gq⟩:=dZ S ⋯ b2 m2;have n1:vV (.int 1)=M.ok (.int (-1)):=rfl;unfold eB cM;rcases km (pz:=pz) (Ls:=Ls) S gp.row with ⟨xs',rfl,hx,sx⟩|⟨np,sp⟩
 .rcases km (pz:=pz) (Ls:=Ls) S gq.row with ⟨ys',rfl,hy,sy⟩|⟨nq,sq⟩
  .have key:cY (dg 0) none (ak jN (ak aO (ae 2) (ae 0)) (ak aO (ae 1) (ae 0))) ((LZ HP.length).map λi:Nat=>.int (i:Int)) [none,some (.sh (tI xs')),some (.sh (tI ys'))]=M.ok ((LZ HP.length).map λi=>.int (vf ys' i-vf xs' i)):=by
    refine kY (inj:=λi:Nat=>PV.int (i:Int)) (LZ HP.length) λi hi=>?_;have J_:=MA.mp hi;dsimp? [dW (p:=tI xs') (xs:=xs') rfl (i:=i) (by rwa[hx.len]),dW (p:=tI ys') (xs:=ys') rfl (i:=i) (by rwa[hy.len])]
   have r:=g9 (p:=.lst ((LZ HP.length).map λi=>.int (vf ys' i-vf xs' i))) (zs:=(LZ HP.length).map λi=>vf ys' i-vf xs' i) S (by rw[Nc];rfl) (by rw[LK,Mn]);have ee:lU ((LZ HP.length).map λi=>vf ys' i-vf xs' i) HP=vU HP ys' xs' (-1):=by
    unfold vU;have z:(LZ HP.length).map (λi=>vf ys' i-vf xs' i)=(ys'.zip xs').map λz=>z.1+-1*z.2:=by
     refine rD (jm hy.len hx.len) λi hi=>?_;rw[cN (xs:=(ys'.zip xs').map _) (by rwa[jm hy.len hx.len]),cN (by rwa[hy.len]),cN (by rwa[hx.len]),NO,Nq];lia
    rw[z]
   rw[ee] at r;dsimp? [n1,e1,JR,ep,bx (i:=c) (j:=3) ↑12 ↑12,e2,Kz,eq,h_,i8,fI,rJ (pz:=pz) (Ls:=Ls) S hx hy,xX,sx,sy,dm HP.length ⋯,LK,Mn,aA (aV (show HP.length<=1000 by lia)),key,r,jf]
  .dsimp? [n1,e1,JR,ep,bx (i:=c) (j:=3) ↑12 ↑12,e2,Kz,eq,h_,i8,fI,qX (pz:=pz) (Ls:=Ls) S hx nq,oS,sx,sq,mU]
 .dsimp? [n1,e1,JR,ep,bx (i:=c) (j:=3) ↑12 ↑12,e2,Kz,eq,h_,i8,fI,r9 (q:=q) np,oS,sp,mU]
def qh(h:GT p):dy [p]=M.ok p:=by
 obtain⟨⟨a,ha⟩,_⟩:=h.dt;unfold dy fD;cases p with
 | lst xs=>dsimp? []
 | eS xs=>exact absurd rfl (h.ns xs)
 | tup xs=>dsimp? [];try rfl
 | int i=>rfl
 | bl b=>cases b<;>rfl
 | bz=>rfl
 | str x=>rfl
 | emp=>rfl
 |_=>cases ha
variable{v:Int}
variable{HU:List (List Int)}
theorem zf(S:Sz HP)(c:Int):gD [cT pz HP Ls,lI HP,.int c]=M.ok (.bl true):=by
 have h6:=S.h6;obtain⟨xs,e1,l1,b1⟩:=uR (HP:=HP) c HP.length ⋯;obtain⟨m1,JR⟩:=kW c 31 ⋯ ⋯;obtain⟨m3,em3⟩:=kW c 37 ⋯ ⋯;obtain⟨p,ep,gp⟩:=dZ S ⋯ b1 m1;have tail:∀p,GT p->(ao (aX 4 (ah dy (aa (ae 3) ai)))
   (ao (aX 5 (h_ [0,3] aH (ah jE (aa (ae 0) (aa (ae 1) ai)))))
   (ao (dY (bO (ak qF (ae 3) (ae 4))) (ao (retS (λ_=>M.ok (.bl false))) aj) aj)
   (ao (dY (cm (bO (ah aE (aa (ae 3) (aa (ah bV (aa (ae 1) ai)) ai))))) (ao (retS (ak gO (ae 5) (de (aa (λ_=>M.ok (.str "setting")) ai)))) aj) aj)
   (ao (retS (ah bK (aa (ae 5) (aa (de (aa (λ_=>M.ok (.str "told")) (aa (ah bu (aa (ae 1) (aa (ae 3) ai))) ai))) ai)))) aj))))
   [some (.sh (cT pz HP Ls)),some (.sh (lI HP)),some (.sh (.int c)),some (.sh p),none,none]).bind iU=M.ok (.bl true):=λp g=>by
  have cp:=qh g;have ne:=(jb ↑12 g.dt).2;have ww:=gY g.row.1 (λxs e=>g.row.2.2 xs e) HP.length;cases hb:rB HP.length p with
  | true =>
   obtain⟨zs,ez,lz⟩:=xh hb;rw[hb] at ww;dsimp? [cp,h_,i8,fI,yJ (pz:=pz) (Ls:=Ls) S g.row ez lz,xX,ne,ww,g9 S ez lz,jf]
  | false =>
   rw[hb] at ww;dsimp? [cp,h_,i8,fI,Ak (pz:=pz) (Ls:=Ls) g.row hb,oS,ne,ww,mU]
 have tt:=ED gp.row.1;unfold gD ed
 by_cases hc:m3%2=0/\iR p=true
 .obtain⟨ys,rfl⟩:∃ys,p=.tup ys:=by
   cases p with
   | tup ys=>exact⟨ys,rfl⟩
   | _=>cases hc.2
  have g2:GT (.lst ys):=y4 (gp.it ys rfl).1 (gp.it ys rfl).2;have:=tail _ g2;revert this;dsimp? [e1,JR,ep,em3,aB (i:=m3) (j:=2) ↑12,hc.1,decide_true];exact id
 .have:=tail _ gp;revert this
  by_cases h0:m3%2=0
  .have:iR p=false:=by cases e:iR p with
    | false=>rfl
    | true=>exact absurd ⟨h0,e⟩ hc
   rw[this] at tt;dsimp? [e1,JR,ep,em3,aB (i:=m3) (j:=2) ↑12,h0,decide_true,tt];exact id
  .dsimp? [e1,JR,ep,em3,aB (i:=m3) (j:=2) ↑12,h0,decide_false];exact id
theorem o3{set:PV->af->M af}{body:af->M Out}(J:Nat->af->Prop):∀(k j:Nat)(env:af),J j env->(∀i env,i<j+k->J i env->∃e' HS,set (.int (i:Int)) env=M.ok e'/\body e'=M.ok (.nx HS)/\J (i+1) HS)->∃HS,hG set body ((List.range' j k).map λi:Nat=>.int (i:Int)) env=M.ok (.nx HS)/\J (j+k) HS
 | 0,j,env,h,_=>⟨env,rfl,h⟩
 | k+1,j,env,h,H=>by
  obtain⟨e',HS,h1,h2,h3⟩:=H j env ⋯ h;obtain⟨JL,h4,h5⟩:=o3 J k (j+1) HS h3 λi env hi=>H i env ⋯;refine⟨JL,?_,by rwa[show j+(k+1)=j+1+k by lia]⟩;rwa[List.range'_succ,Mg,hG,h1,M.aS,h2,M.aS]
theorem sd{set:PV->af->M af}(J:Nat->af->Prop)(m:Nat){env:af}(h:J 0 env)(H:∀i env,i<m->J i env->∃e' HS,set (.int (i:Int)) env=M.ok e'/\body e'=M.ok (.nx HS)/\J (i+1) HS):∃HS,hG set body ((LZ m).map λi:Nat=>.int (i:Int)) env=M.ok (.nx HS)/\J m HS:=by
 have:=o3 (set:=set) (body:=body) J m 0 env h (λi env hi=>H i env ⋯);rw[Nat.zero_add] at this;rw[List.range_eq_range'];exact this
def xP(i:Int):zb (M.ok (.int i))=M.ok (.int i):=Mm rfl rfl
theorem xD{env:af}(h:j<xs.length):Bk i (xs.map PV.int) (.int v) env (.int (j:Int))=M.ok (.nx (env.set i (some (.ow ((xs.set j v).map PV.int))))):=by
 have:wW (xs.map PV.int).length (j:Int)=some j:=by
  rw[LK];unfold wW;simp;lia
 show (match wW (xs.map PV.int).length (j:Int) with|some j=>_|none=>_)=_;rw[this,List.map_set]
def DC(h:j<xs.length):vf (xs.set j v) i=if i=j then v else vf xs i:=by
 unfold vf;rw[Mc,Mc,M5]
 by_cases e:j=i
 .subst e;simp[h]
 .rw[if_neg e,if_neg (λz=>e z.symm)]
theorem vj{s:Int}(f g:Nat->Int):∀m,(∀l,l<m->f l%s=g l%s)->∀x:Int,(x+l8 m f)%s=(x+l8 m g)%s
 | 0,_,x=>rfl
 | m+1,h,x=>by
  rw[l8,l8,<- QJ,<- QJ,Qc,vj f g m (λl hl=>h l ⋯) x,h m ⋯,<- Qc]
theorem uU(g:List Int->Int->Int):∀(A:List (List Int))(P:List Int),P.length=A.length->∀k,k<=A.length->(((A.zip P).take k).map λz=>g z.1 z.2).sum=l8 k λl=>g (A.getD l []) (vf P l)
 | A,P,h,0,_=>rfl
 | A,P,h,k+1,hk=>by
  have l:k<(A.zip P).length:=by rw[MX];lia
  rw[List.take_succ_eq_append_getElem l,Qh,List.sum_append,uU g A P h k ⋯,l8];simp only[Mg,Pb,Sa,List.sum_nil,Qa,Nq];rw[cN (show k<P.length by lia),Mc,LL (show k<A.length by lia)];rfl
def zg(S:Sz HP){P T:List Int}(hx:sI HP xs)(hr:∀l∈HU,l.length=HP.length)(hP:P.length=HU.length)(hl:T.length=HP.length)(hT:∀i,i<HP.length->vf T i=vf xs i+l8 HU.length λl=>vf (HU.getD l []) i*vf P l):lU T HP=eF HP xs ((HU.map λl=>lU l HP).zip P):=by
 have hz:∀z∈(HU.map λl=>lU l HP).zip P,z.1.length=HP.length:=λz hz=>by
  obtain⟨l,h1,h2⟩:=M6.mp (MW (a:=z.1) (b:=z.2) hz).1;rw[<- h2];exact fj (hr l h1)
 have st:=qO S _ hx hz;refine sJ (by rw[fj hl,st.len]) λi hi=>?_;rw[fj hl] at hi;have r:=(t7 st.len).mp st i hi;rw[kZ hl hi,<- Int.emod_eq_of_lt r.1 r.2,u0 _ hx.len hz i hi,hT i hi];have zs:=uU (λl t=>t*vf l i) (HU.map λl=>lU l HP) P (by rwa[LK]) HU.length (by rw[LK];exact LR _);rw[List.take_of_length_le (by rw[MX,LK,hP,Rr];exact LR _)] at zs;rw[zs];refine vj _ _ _ (λl hl=>?_) _;rw[Mc,Mc,L_,LL hl];show vf HU[l] i*_%_=_*vf (lU HU[l] HP) i%_;rw[kZ (hr _ (Mz _)) hi,Ro,Qd (vf P l) (vf HU[l] i),Qd (vf P l) (vf HU[l] i%vf HP i),Sb]
structure Lv (HP:List Int) (HU:List (List Int)):Prop where
 len:∀l∈HU,l.length=HP.length/\Bd 110 l
 h8:HU.length<=8
def red(HP:List Int)(HU:List (List Int)):List (List Int):=HU.map λl=>lU l HP
def jg(HP:List Int)(HU:List (List Int)):(red HP HU).length=HU.length:=LK ..
theorem ue(S:Sz HP)(L:Lv HP HU):∀l∈red HP HU,l.length=HP.length/\Bd 110 l:=λl hl=>by
 obtain⟨m,h1,h2⟩:=M6.mp hl;rw[<- h2];refine⟨fj (L.len m h1).1,λx hx=>?_⟩;obtain⟨z,hz,rfl⟩:=M6.mp (show x∈(m.zip HP).map λz=>z.1%z.2 from hx);have:=S.hx z.2 (MW (a:=z.1) (b:=z.2) hz).2;have a:=Mq z.1 (show z.2≠0 by lia);have b:=Ma z.1 (show 0<z.2 by lia);lia
def zj(h:j<HU.length):aO (.lst (HU.map lI)) (.int (j:Int))=M.ok (lI HU[j]):=cW (j:=j) rfl (by rw[L_,LL h];rfl)
def getD_at(h:j<HU.length):HU.getD j []=HU[j]:=by rw[Mc,LL h];rfl
theorem tV(S:Sz HP)(L:Lv HP HU)(c:Int):fm [cT pz HP (red HP HU),lI HP,.lst (HU.map lI),.int c]=M.ok (.bl true):=by
 have h6:=S.h6;have h8:=L.h8;obtain⟨xs,e1,l1,b1⟩:=mi S c;obtain⟨m1,JR⟩:=kW c 31 ⋯ ⋯;obtain⟨p,ep,gp⟩:=dZ S ⋯ b1 m1;obtain⟨ys,e2,l2,b2⟩:=uR (HP:=HP) (c/5) HU.length h8;obtain⟨m2,Kz⟩:=kW c 32 ⋯ ⋯;obtain⟨q,eq,gq⟩:=dZ S ⋯ b2 m2;have n1:vV (.int 1)=M.ok (.int (-1)):=rfl;have ne:=(jb (n:=4) ↑12 (Dt.lst (S:=[p,q]) λx hx=>by
  simp at hx;rcases hx with rfl|rfl
  .exact gp.dt
  .exact gq.dt)).2
 have cp:=qh gp;have cq:=qh gq;unfold fm c6;rcases km (pz:=pz) (Ls:=red HP HU) S gp.row with ⟨xs',rfl,hx,sx⟩|⟨np,sp⟩
 .have tt:=ED gq.row.1;have ww:=gY gq.row.1 (λxs e=>gq.row.2.2 xs e) HU.length
  by_cases hq:iR q=true/\rB HU.length q=true
  .obtain⟨P,rfl,lP⟩:=xt hq.2 hq.1;have bP:Bd 110 P:=gq.bd rfl;rw[hq.1] at tt;rw[hq.2] at ww;have ty:=tq (pz:=pz) (Ls:=red HP HU) S hx (ue S L) (by rwa[jg]) bP (by rwa[jg]);dsimp? [n1,e1,JR,ep,bx (i:=c) (j:=5) ↑12 ↑12,LK,e2,Kz,eq,cp,cq,h_,i8,fI,ty,xX,ne,sx,tt,ww,yS,dm HU.length ⋯];have lp:∃HS,hG (dg 9) (ao (ko (k8 ip (aa (ah bV (aa (ae 1) ai)) ai)) (dg 10) (ao (EY 8 (ae 10) (sC 8 (ak dC (ak aO (ae 8) (ae 10)) (ak cG (ak aO (ak aO (ae 2) (ae 9)) (ae 10)) (ak aO (ae 5) (ae 9)))))) aj)) aj) ((LZ HU.length).map λi:Nat=>.int (i:Int)) [some (.sh (cT pz HP (red HP HU))),some (.sh (lI HP)),some (.sh (.lst (HU.map lI))),some (.sh (.int c)),some (.sh (tI xs')),some (.sh (tI P)),some (.sh (.lst [tI xs',tI P])),some (.sh (.tup [.str "told",tI (eF HP xs' ((red HP HU).zip P))])),some (.ow (xs'.map PV.int)),none,none]=M.ok (.nx HS)/\∃(T:List Int)(y z:Option SV),HS=[some (.sh (cT pz HP (red HP HU))),some (.sh (lI HP)),some (.sh (.lst (HU.map lI))),some (.sh (.int c)),some (.sh (tI xs')),some (.sh (tI P)),some (.sh (.lst [tI xs',tI P])),some (.sh (.tup [.str "told",tI (eF HP xs' ((red HP HU).zip P))])),some (.ow (T.map PV.int)),y,z]/\T.length=HP.length/\∀i,i<HP.length->vf T i=vf xs' i+l8 HU.length λl=>vf (HU.getD l []) i*vf P l:=by
    refine sd (λj HS=>∃(T:List Int)(y z:Option SV),HS=[some (.sh (cT pz HP (red HP HU))),some (.sh (lI HP)),some (.sh (.lst (HU.map lI))),some (.sh (.int c)),some (.sh (tI xs')),some (.sh (tI P)),some (.sh (.lst [tI xs',tI P])),some (.sh (.tup [.str "told",tI (eF HP xs' ((red HP HU).zip P))])),some (.ow (T.map PV.int)),y,z]/\T.length=HP.length/\∀i,i<HP.length->vf T i=vf xs' i+l8 j λl=>vf (HU.getD l []) i*vf P l) HU.length ⟨xs',_,_,rfl,hx.len,λi hi=>by rw[l8,Qa]⟩ ?_;rintro j env hj ⟨T,y,z,rfl,lT,vT⟩;have rj:=L.len HU[j] (Mz _);have ij:aO (tI P) (.int (j:Int))=M.ok (.int (vf P j)):=dW rfl ⋯;have bj:(vf P j).natAbs<2^110:=by rw[cN ⋯];exact bP _ (Mz _)
    obtain⟨HS,e,T',y',rfl,lT',vT'⟩:∃HS,hG (dg 10) (ao (EY 8 (ae 10) (sC 8 (ak dC (ak aO (ae 8) (ae 10)) (ak cG (ak aO (ak aO (ae 2) (ae 9)) (ae 10)) (ak aO (ae 5) (ae 9)))))) aj) ((LZ HP.length).map λi:Nat=>.int (i:Int)) [some (.sh (cT pz HP (red HP HU))),some (.sh (lI HP)),some (.sh (.lst (HU.map lI))),some (.sh (.int c)),some (.sh (tI xs')),some (.sh (tI P)),some (.sh (.lst [tI xs',tI P])),some (.sh (.tup [.str "told",tI (eF HP xs' ((red HP HU).zip P))])),some (.ow (T.map PV.int)),some (.sh (.int (j:Int))),z]=M.ok (.nx HS)/\∃(T':List Int)(z:Option SV),HS=[some (.sh (cT pz HP (red HP HU))),some (.sh (lI HP)),some (.sh (.lst (HU.map lI))),some (.sh (.int c)),some (.sh (tI xs')),some (.sh (tI P)),some (.sh (.lst [tI xs',tI P])),some (.sh (.tup [.str "told",tI (eF HP xs' ((red HP HU).zip P))])),some (.ow (T'.map PV.int)),some (.sh (.int (j:Int))),z]/\T'.length=HP.length/\∀i,i<HP.length->vf T' i=vf T i+if i<HP.length then vf HU[j] i*vf P j else 0:=by
     refine sd (λk HS=>∃(T':List Int)(z:Option SV),HS=[some (.sh (cT pz HP (red HP HU))),some (.sh (lI HP)),some (.sh (.lst (HU.map lI))),some (.sh (.int c)),some (.sh (tI xs')),some (.sh (tI P)),some (.sh (.lst [tI xs',tI P])),some (.sh (.tup [.str "told",tI (eF HP xs' ((red HP HU).zip P))])),some (.ow (T'.map PV.int)),some (.sh (.int (j:Int))),z]/\T'.length=HP.length/\∀i,i<HP.length->vf T' i=vf T i+if i<k then vf HU[j] i*vf P j else 0) HP.length ⟨T,_,rfl,lT,λi hi=>by rw[if_neg ⋯,Qa]⟩ ?_;rintro k env hk ⟨T',z,rfl,lT',vT'⟩;have a1:aO (.lst (T'.map PV.int)) (.int (k:Int))=M.ok (.int (vf T' k)):=dW rfl ⋯;have a2:aO (lI HU[j]) (.int (k:Int))=M.ok (.int (vf HU[j] k)):=dW rfl ⋯;have bk:(vf HU[j] k).natAbs<2^110:=by rw[cN ⋯];exact rj.2 _ (Mz _)
     refine⟨_,[some (.sh (cT pz HP (red HP HU))),some (.sh (lI HP)),some (.sh (.lst (HU.map lI))),some (.sh (.int c)),some (.sh (tI xs')),some (.sh (tI P)),some (.sh (.lst [tI xs',tI P])),some (.sh (.tup [.str "told",tI (eF HP xs' ((red HP HU).zip P))])),some (.ow ((T'.set k (vf T' k+vf HU[j] k*vf P j)).map PV.int)),some (.sh (.int (j:Int))),some (.sh (.int (k:Int)))],rfl,?_,_,_,rfl,by rw[OZ];exact lT',λi hi=>?_⟩
     .dsimp? [EY,sC,ownAt,p7,a1,zj hj,a2,ij,bR (k:=110) (l:=110) bk bj,xP,xD (i:=8) (xs:=T') (j:=k) ⋯]
     .rw[DC ⋯]
      by_cases e:i=k
      .subst e;have:=vT' i hi;rw[if_neg ⋯] at this;rw[if_pos rfl,if_pos ⋯,this];lia
      .rw[if_neg e,vT' i hi]
       by_cases e2:i<k
       .rw[if_pos e2,if_pos ⋯]
       .rw[if_neg e2,if_neg ⋯]
    refine⟨_,[some (.sh (cT pz HP (red HP HU))),some (.sh (lI HP)),some (.sh (.lst (HU.map lI))),some (.sh (.int c)),some (.sh (tI xs')),some (.sh (tI P)),some (.sh (.lst [tI xs',tI P])),some (.sh (.tup [.str "told",tI (eF HP xs' ((red HP HU).zip P))])),some (.ow (T'.map PV.int)),some (.sh (.int (j:Int))),y'],rfl,?_,T',_,_,rfl,lT',λi hi=>?_⟩
    .dsimp? [dm HP.length ⋯];rw[e];dsimp? []
    .rw[vT' i hi,if_pos hi,vT i hi,l8,getD_at hj];lia
   obtain⟨HS,e,T,y,z,rfl,lT,vT⟩:=lp;rw[e];have ts:=zg S hx (λl hl=>(L.len l hl).1) lP lT vT;have r:=g9 (p:=.lst (T.map PV.int)) S rfl lT;rw[ts] at r;dsimp? [];rw[r];dsimp? [];exact(congrArg (λm:M PV=>M.bind m λa=>M.ok a) (jf (eF HP xs' ((red HP HU).zip P)))).trans rfl
  .have hf:(iR q&&rB (red HP HU).length q)=false:=by
    rw[jg];cases a:iR q with
    | false=>rfl
    | true=>cases b:rB HU.length q with
     | false=>rfl
     | true=>exact absurd ⟨a,b⟩ hq
   have tn:=uf (pz:=pz) (Ls:=red HP HU) S hx gq.row hf;rw[jg] at hf;cases a:iR q with
   | false =>
    rw[a] at tt;dsimp? [n1,e1,JR,ep,bx (i:=c) (j:=5) ↑12 ↑12,LK,e2,Kz,eq,cp,cq,h_,i8,fI,tn,va,ne,sx,tt,sN]
   | true =>
    rw[a,QH] at hf;rw[a] at tt;rw[hf] at ww;dsimp? [n1,e1,JR,ep,bx (i:=c) (j:=5) ↑12 ↑12,LK,e2,Kz,eq,cp,cq,h_,i8,fI,tn,va,ne,sx,tt,ww,sN]
 .dsimp? [n1,e1,JR,ep,bx (i:=c) (j:=5) ↑12 ↑12,LK,e2,Kz,eq,cp,cq,h_,i8,fI,sY (q:=q) np,oS,ne,sp,mU]
def jV.kH{a b:af->M Out}{env:af}{R:PV->Prop}(J:af->Prop)(h:∃HS,a env=M.ok (.nx HS)/\J HS)(k:∀HS,J HS->jV ((b HS).bind iU) R):jV ((ao a b env).bind iU) R:=by
 obtain⟨HS,e,j⟩:=h;rw[ao,e];exact k HS j
def EJ:PV->Bool
 | .bl _=>true
 |_=>false
def HL(h:Ty p):tJ (λa=>a == "bool") dF dF p=M.ok (.bl (EJ p)):=by
 obtain⟨a,ha⟩:=h;cases p<;>first|rfl|cases ha
def Bw(h:Ty p):aE [.lst [p],.int 1]=M.ok (.bl (wB p)):=by
 have:=gY (p:=.lst [p]) ⟨_,rfl⟩ (λxs e=>by cases e;exact⟨by show 1<=1000;decide,λx hx=>by simp at hx;subst hx;exact h⟩) 1;rw[n6 (p:=.lst [p]) rfl] at this;rw[show ((1:Nat):Int)=1 from rfl] at this;rw[this];simp
theorem lH(S:Sz HP)(L:Lv HP HU){c num:Int}{t:PV}(gp:GT p)(dl:Dt 3 l)(tt:Ty t)(bt:∀i,t=.int i->i.natAbs<2^110){f:PV}(hf:tell (cO [cT pz HP (red HP HU),p,l,t])=M.ok f){nine:Option SV}:jV (((ao (dY (cm (bO (ah aP (aa (ae 4) (aa (ae 1) ai))))) (ao (retS (ak gO (ae 8) (de (aa (λ_=>M.ok (.str "setting")) ai)))) aj) aj) (ao (dY (ux (cm (bO (ah aE (aa (iX (aa (ae 6) ai)) (aa (λ_=>M.ok (.int 1)) ai))))) (cm (bO (fM we uQ (λ_=>M.ok (.int 0)) (ae 6) (ah bV (aa (ae 2) ai)))))) (ao (retS (oz (ak gO (ae 8) (de (aa (λ_=>M.ok (.str "lever")) (aa (ae 6) ai)))) (ak gO (iV (λa=>dH a "bool") dF dF (ak aO (ae 8) (λ_=>M.ok (.int 1)))) (iV (λa=>dH a "bool") dF dF (ae 6))))) aj) aj) (ao (dY (cm (bO (ah aE (aa (iX (aa (ae 7) ai)) (aa (λ_=>M.ok (.int 1)) ai))))) (ao (retS (ak gO (ae 8) (de (aa (λ_=>M.ok (.str "pulls")) ai)))) aj) aj) (ao (aX 9 (eV (dS (k8 ip (aa (ah bV (aa (ae 1) ai)) ai)) (dg 0) none (ak dC (ak aO (ae 2) (ae 0)) (ak cG (ae 4) (ak aO (ak aO (ae 1) (ae 3)) (ae 0)))) 1 [2,4,6,7]))) (ao (retS (ah bK (aa (ae 8) (aa (de (aa (λ_=>M.ok (.str "told")) (aa (ah bu (aa (ae 1) (aa (ae 9) ai))) ai))) ai)))) aj))))) [some (.sh (cT pz HP (red HP HU))),some (.sh (lI HP)),some (.sh (.lst (HU.map lI))),some (.sh (.int c)),some (.sh p),some (.sh (.int num)),some (.sh l),some (.sh t),some (.sh f),none]).bind iU) (λr=>r=.bl true):=by
 have h6:=S.h6;have h8:=L.h8;have rl:=jg HP HU;refine⟨.bl true,?_,rfl⟩;rcases km (pz:=pz) (Ls:=red HP HU) S gp.row with ⟨xs,rfl,hx,sx⟩|⟨np,sp⟩
 .have wl:=Bw dl.1
  by_cases hl:A5 0 (((red HP HU).length:Int)-1) l=true
  .obtain⟨j,rfl,hj⟩:∃j:Nat,l=.int (j:Int)/\j<HU.length:=by
    cases l with
    | int i =>
     have:=of_decide_eq_true (show decide _=true from hl);obtain⟨j,rfl⟩:=Mb this.1;exact⟨j,rfl,by lia⟩
    | _=>cases hl
   have wt:=Bw tt;have ch:(if decide ((0:Int)<=(j:Int))=true then M.ok (PV.bl (decide ((j:Int)<(HU.length:Int)))) else M.ok (PV.bl false))=M.ok (.bl true):=by
    rw[decide_eq_true (show (0:Int)<=(j:Int) by lia),if_pos rfl,decide_eq_true ⋯]
   cases ht:wB t with
   | false =>
    rw[nr (pz:=pz) (Ls:=red HP HU) S hx dl.1 hl tt ht,va] at hf;cases hf;rw[ht] at wt;dsimp? [sx,wl,show wB (.int (j:Int))=true from rfl,LK,ch,wt,sN]
   | true =>
    obtain⟨i,rfl⟩:∃i,t=.int i:=by
     cases t with
     | int i=>exact⟨i,rfl⟩
     | _=>cases ht
    have bi:=bt i rfl;rw[nV (pz:=pz) (Ls:=red HP HU) S hx (by rwa[rl]) (ue S L) bi,xX] at hf;cases hf;rw[ht] at wt;have rj:=L.len HU[j] (Mz _);have key:cY (dg 0) none (ak dC (ak aO (ae 2) (ae 0)) (ak cG (ae 4) (ak aO (ak aO (ae 1) (ae 3)) (ae 0)))) ((LZ HP.length).map λi:Nat=>.int (i:Int)) [none,some (.sh (.lst (HU.map lI))),some (.sh (tI xs)),some (.sh (.int (j:Int))),some (.sh (.int i))]=M.ok ((LZ HP.length).map λk=>.int (vf xs k+i*vf HU[j] k)):=by
     refine kY (inj:=λi:Nat=>PV.int (i:Int)) (LZ HP.length) λk hk=>?_;have Ka:=MA.mp hk;have bk:(vf HU[j] k).natAbs<2^110:=by rw[cN ⋯];exact rj.2 _ (Mz _)
     dsimp? [dW (p:=tI xs) (xs:=xs) rfl (i:=k) (by rwa[hx.len]),zj hj,dW (p:=lI HU[j]) (xs:=HU[j]) rfl (i:=k) ⋯,bR (k:=110) (l:=110) bi bk]
    have r:=g9 (p:=.lst ((LZ HP.length).map λk=>.int (vf xs k+i*vf HU[j] k))) (zs:=(LZ HP.length).map λk=>vf xs k+i*vf HU[j] k) S (by rw[Nc];rfl) (by rw[LK,Mn]);have ee:lU ((LZ HP.length).map λk=>vf xs k+i*vf HU[j] k) HP=vU HP xs ((red HP HU).getD j []) i:=by
     rw[getD_at (by rwa[rl])];have er:(red HP HU)[j]'(by rwa[rl])=lU HU[j] HP:=NO ..;rw[er];have lr:=fj rj.1;have lz:((LZ HP.length).map λk=>vf xs k+i*vf HU[j] k).length=HP.length:=by rw[LK,Mn]
     refine sJ (by rw[fj lz,pK hx.len lr]) λk hk=>?_;rw[fj lz] at hk;rw[kZ lz hk,yD hx.len lr hk,kZ rj.1 hk,cN (by rwa[lz]),NO,Q3,Qc,Qd,Qc (vf xs k) (i*(vf HU[j] k%vf HP k)),Qd i (vf HU[j] k%vf HP k),Sb]
    rw[ee] at r;dsimp? [sx,wl,show wB (.int (j:Int))=true from rfl,LK,ch,wt,dm HP.length ⋯,Mn,aA (aV (show HP.length<=1000 by lia)),key,r,jf]
  .have hl':A5 0 (((red HP HU).length:Int)-1) l=false:=by cases e:A5 0 (((red HP HU).length:Int)-1) l with
    | false=>rfl
    | true=>exact absurd e hl
   rw[mS (pz:=pz) (Ls:=red HP HU) S hx dl.1 hl',Bp] at hf;cases hf;have eqf:=(jb (n:=4) ↑12 (Dt.tup (S:=[.str "lever",l]) λx hx=>by
    simp at hx;rcases hx with rfl|rfl
    .exact pY (by decide +kernel)
    .exact dl)).1
   have ix:aO (.tup [.str "lever",l]) (.int 1)=M.ok l:=cW (j:=1) rfl rfl;have ib:=HL dl.1;have eb:∀b:Bool,decide (b=b)=true:=λb=>by simp
   cases l with
   | int i =>
    have nb:¬ (0<=i/\i<(HU.length:Int)):=λz=>hl (decide_eq_true ⋯);have ch:(if decide ((0:Int)<=i)=true then M.ok (PV.bl (decide (i<(HU.length:Int)))) else M.ok (PV.bl false))=M.ok (.bl false):=by
     rw[yy,decide_eq_false nb]
    dsimp? [sx,wl,show wB (.int i)=true from rfl,LK,ch,eqf,ix,ib,eb,beq_self_eq_true,decide_true]
   | _ =>
    rw[show wB _=false from rfl] at wl;dsimp? [sx,wl,eqf,ix,ib,eb,beq_self_eq_true,decide_true]
 .rw[mE (l:=l) (t:=t) np,oS] at hf;cases hf;dsimp? [sp,mU]
theorem yX{a b:Int}(h1:-1000<=a)(h2:a<=1000)(h3:-1000<=b)(h4:b<=1000):tj [.int a,.int b]=M.ok ((LZ (b-a).toNat).map λ(i:Nat)=>.int (a+(i:Int))):=by
 have h:-(2^62)<=a/\a<2^62/\-(2^62)<=b/\b<2^62:=by lia
 show cX (-(2^62)<=a/\a<2^62/\-(2^62)<=b/\b<2^62) _=_;rw[aA h]
def D_(i:Int):Dt 3 (.tup [.int i]):=(Cb i).2
theorem pE(S:Sz HP)(L:Lv HP HU){t:PV}(gp:GT p)(dl:Dt 3 l)(tt:Ty t)(bt:∀i,t=.int i->i.natAbs<2^110):∃f,tell (cO [cT pz HP (red HP HU),p,l,t])=M.ok f:=by
 have rl:=jg HP HU;rcases km (pz:=pz) (Ls:=red HP HU) S gp.row with ⟨xs,rfl,hx,sx⟩|⟨np,sp⟩
 .cases hl:A5 0 (((red HP HU).length:Int)-1) l with
  | true =>
   obtain⟨j,rfl,hj⟩:∃j:Nat,l=.int (j:Int)/\j<HU.length:=by
    cases l with
    | int i =>
     have:=of_decide_eq_true (show decide _=true from hl);obtain⟨j,rfl⟩:=Mb this.1;exact⟨j,rfl,by lia⟩
    | _=>cases hl
   cases ht:wB t with
   | false=>exact⟨_,by rw[nr (pz:=pz) (Ls:=red HP HU) S hx dl.1 hl tt ht,va]⟩
   | true =>
    obtain⟨i,rfl⟩:∃i,t=.int i:=by
     cases t with
     | int i=>exact⟨i,rfl⟩
     | _=>cases ht
    exact⟨_,by rw[nV (pz:=pz) (Ls:=red HP HU) S hx (by rwa[rl]) (ue S L) (bt i rfl),xX]⟩
  | false=>exact⟨_,by rw[mS (pz:=pz) (Ls:=red HP HU) S hx dl.1 hl,Bp]⟩
 .exact⟨_,by rw[mE (l:=l) (t:=t) np,oS]⟩
theorem sV(S:Sz HP)(L:Lv HP HU)(c:Int):fg [cT pz HP (red HP HU),lI HP,.lst (HU.map lI),.int c]=M.ok (.bl true):=by
 have h6:=S.h6;have h8:=L.h8
 suffices z:jV (fg [cT pz HP (red HP HU),lI HP,.lst (HU.map lI),.int c]) λr=>r=.bl true by
  obtain⟨_,e,rfl⟩:=z;exact e
 obtain⟨xs,e1,l1,b1⟩:=mi S c;obtain⟨m1,JR⟩:=kW c 31 ⋯ ⋯;obtain⟨p,ep,gp⟩:=dZ S ⋯ b1 m1;obtain⟨num,en,n0,n1⟩:∃m,aC [.int c,.int 33]=M.ok (.int m)/\0<=m/\m<2147483587:=kP c 33 ⋯;obtain⟨tm,et,bt⟩:∃n,bF [.int c,.int 34]=M.ok (.int n)/\n.natAbs<2^110:=lx c 34 ⋯;obtain⟨m5,e5⟩:=kW c 35 ⋯ ⋯;obtain⟨m6,e6⟩:=kW c 36 ⋯ ⋯;have ng:vV (.int 1)=M.ok (.int (-1)):=rfl;have p29:rm (.int 10) (.int 29)=M.ok (.int 100000000000000000000000000000):=rfl;show jV (((cC [some (.sh (cT pz HP (red HP HU))),some (.sh (lI HP)),some (.sh (.lst (HU.map lI))),some (.sh (.int c)),none,none,none,none,none,none])).bind iU) _;unfold cC;refine jV.kH (J:=λenv=>env=[some (.sh (cT pz HP (red HP HU))),some (.sh (lI HP)),some (.sh (.lst (HU.map lI))),some (.sh (.int c)),some (.sh p),none,none,none,none,none]) ⟨_,by dsimp? [ng,e1,JR,ep],rfl⟩ λenv hj=>?_;subst hj;refine jV.kH (J:=λenv=>env=[some (.sh (cT pz HP (red HP HU))),some (.sh (lI HP)),some (.sh (.lst (HU.map lI))),some (.sh (.int c)),some (.sh p),some (.sh (.int num)),none,none,none,none]) ⟨_,by dsimp? [en],rfl⟩ λenv hj=>?_;subst hj;refine jV.kH (J:=λenv=>∃l,env=[some (.sh (cT pz HP (red HP HU))),some (.sh (lI HP)),some (.sh (.lst (HU.map lI))),some (.sh (.int c)),some (.sh p),some (.sh (.int num)),some (.sh l),none,none,none]/\Dt 3 l) ⟨_,by dsimp? [bx (i:=num) (j:=8) ↑12 ↑12,LK,aB (i:=num/8) (j:=(HU.length:Int)+1) ⋯],_,rfl,nN (num/8%((HU.length:Int)+1))⟩ λenv hj=>?_;obtain⟨l0,rfl,d0⟩:=hj;refine jV.kH (J:=λenv=>∃l,env=[some (.sh (cT pz HP (red HP HU))),some (.sh (lI HP)),some (.sh (.lst (HU.map lI))),some (.sh (.int c)),some (.sh p),some (.sh (.int num)),some (.sh l),none,none,none]/\Dt 3 l) ?_ λenv hj=>?_
 .by_cases h0:num%8=0
  .have k0:=Mq (num/8) (show (8:Int)≠0 by decide);have k1:=Ma (num/8) (show (0:Int)<8 by decide);obtain⟨k,hk⟩:=Mb k0;have ix:∀ps:List PV,ps.length=8->aO (.lst ps) (.int (k:Int))=M.ok (ps.getD k .bz):=λps hp=>Gm rfl k ⋯;have all:∀q∈[PV.int (-1),.int (HU.length:Int),.bl true,.bz,.str "0",.tup [.int 0],.int (100000000000000000000000000000+num),.int (0-num)],Dt 3 q:=λq hq=>by
    simp only[L5,OL,or_false] at hq;rcases hq with rfl|rfl|rfl|rfl|rfl|rfl|rfl|rfl
    .exact nN _
    .exact nN _
    .exact E1 _
    .exact xT
    .exact pY (by decide +kernel)
    .exact D_ 0
    .exact nN _
    .exact nN _
   refine⟨_,?_,_,rfl,all _ (getD_mem (k:=k) (by show k<8;lia))⟩;dsimp? [aB (i:=num) (j:=8) ↑12,h0,decide_true,ng,LK,p29,bx (i:=num) (j:=8) ↑12 ↑12,aB (i:=num/8) (j:=8) ↑12,hk];rw[vi (by show 8<=1000;decide),M.aS,ix _ rfl];rfl
  .exact⟨_,by dsimp? [aB (i:=num) (j:=8) ↑12,h0,decide_false],_,rfl,d0⟩
 obtain⟨l,rfl,dl⟩:=hj;refine jV.kH (J:=λenv=>env=[some (.sh (cT pz HP (red HP HU))),some (.sh (lI HP)),some (.sh (.lst (HU.map lI))),some (.sh (.int c)),some (.sh p),some (.sh (.int num)),some (.sh l),some (.sh (.int tm)),none,none]) ⟨_,by dsimp? [et],rfl⟩ λenv hj=>?_;subst hj;refine jV.kH (J:=λenv=>∃t,env=[some (.sh (cT pz HP (red HP HU))),some (.sh (lI HP)),some (.sh (.lst (HU.map lI))),some (.sh (.int c)),some (.sh p),some (.sh (.int num)),some (.sh l),some (.sh t),none,none]/\Ty t/\∀i,t=.int i->i.natAbs<2^110) ?_ λenv hj=>?_
 .by_cases h0:m5%8=0
  .have k0:=Mq (m5/8) (show (5:Int)≠0 by decide);have k1:=Ma (m5/8) (show (0:Int)<5 by decide);obtain⟨k,hk⟩:=Mb k0;have ix:∀ps:List PV,ps.length=5->aO (.lst ps) (.int (k:Int))=M.ok (ps.getD k .bz):=λps hp=>Gm rfl k ⋯;have all:∀q∈[PV.bl true,.bz,.str "1",.tup [.int 1],.lst [.int 1]],Ty q/\∀i,q=.int i->i.natAbs<2^110:=λq hq=>by
    simp only[L5,OL,or_false] at hq;rcases hq with rfl|rfl|rfl|rfl|rfl<;>exact⟨⟨_,rfl⟩,(λi e=>nomatch e)⟩
   refine⟨_,?_,_,rfl,all _ (getD_mem (k:=k) (by show k<5;lia))⟩;dsimp? [e5,aB (i:=m5) (j:=8) ↑12,h0,decide_true,bx (i:=m5) (j:=8) ↑12 ↑12,aB (i:=m5/8) (j:=5) ↑12,hk];rw[ix _ rfl];rfl
  .exact⟨_,by dsimp? [e5,aB (i:=m5) (j:=8) ↑12,h0,decide_false],.int tm,rfl,⟨_,rfl⟩,λi e=>by cases e;exact bt⟩
 obtain⟨t,rfl,tt,bt'⟩:=hj;obtain⟨f,hf⟩:=pE (pz:=pz) S L gp dl tt bt';refine jV.kH (J:=λenv=>env=[some (.sh (cT pz HP (red HP HU))),some (.sh (lI HP)),some (.sh (.lst (HU.map lI))),some (.sh (.int c)),some (.sh p),some (.sh (.int num)),some (.sh l),some (.sh t),some (.sh f),none]) ⟨_,by dsimp? [h_,i8,fI,hf],rfl⟩ λenv hj=>?_;subst hj
 by_cases h0:m6%4=0
 .have b1':∀i,PV.int 1=.int i->i.natAbs<2^110:=λi e=>by cases e;decide
  obtain⟨f',hf'⟩:=pE (pz:=pz) S L gp dl (t:=.int 1) ⟨_,rfl⟩ b1';refine jV.kH (J:=λenv=>env=[some (.sh (cT pz HP (red HP HU))),some (.sh (lI HP)),some (.sh (.lst (HU.map lI))),some (.sh (.int c)),some (.sh p),some (.sh (.int num)),some (.sh l),some (.sh (.int 1)),some (.sh f'),none]) ⟨_,by dsimp? [e6,aB (i:=m6) (j:=4) ↑12,h0,decide_true,h_,i8,fI,hf'],rfl⟩ λenv hj=>?_;subst hj;exact lH S L gp dl ⟨_,rfl⟩ b1' hf' (nine:=none)
 .refine jV.kH (J:=λenv=>env=[some (.sh (cT pz HP (red HP HU))),some (.sh (lI HP)),some (.sh (.lst (HU.map lI))),some (.sh (.int c)),some (.sh p),some (.sh (.int num)),some (.sh l),some (.sh t),some (.sh f),none]) ⟨_,by dsimp? [e6,aB (i:=m6) (j:=4) ↑12,h0,decide_false],rfl⟩ λenv hj=>?_;subst hj;exact lH S L gp dl tt bt' hf (nine:=none)
theorem B1(ns:List Int)(hn:ns.length<=63):pd [.eS (ns.map PV.int)]=M.ok (.bl true):=by
 suffices z:jV (pd [.eS (ns.map PV.int)]) λr=>r=.bl true by
  obtain⟨_,e,rfl⟩:=z;exact e
 obtain⟨c0,ec0⟩:∃c,bA [.eS (ns.map PV.int),.int 0]=M.ok (.int c):=ml ns 0 ⋯;obtain⟨m0,em0⟩:=kW c0 1 ⋯ ⋯;obtain⟨HP,es,S⟩:=vp m0;obtain⟨c1,ec1⟩:∃c,bA [.eS (ns.map PV.int),.int 1]=M.ok (.int c):=ml ns 1 ⋯;obtain⟨m1,JR⟩:=kW c1 2 ⋯ ⋯;have h6:=S.h6;have k0:=Mq m1 (show (9:Int)≠0 by decide);have k1:=Ma m1 (show (0:Int)<9 by decide);obtain⟨m,hm⟩:=Mb k0;obtain⟨HU,er,lr,hr⟩:=tF ns m HP.length ⋯ h6;have L:Lv HP HU:=⟨hr,by lia⟩
 have mk:=Aw (p:=lI HP) (.inr rfl) HP HU rfl S ⋯ λl hl=>(hr l hl).1;have mk':nZ aL gM [.bz] [lI HP,.lst (HU.map lI)]=M.ok (cT (ones (red HP HU)) HP (red HP HU)):=mk;show jV ((uM [some (.sh (.eS (ns.map PV.int))),none,none,none,none,none,none]).bind iU) _;unfold uM;refine jV.kH (J:=λenv=>env=[some (.sh (.eS (ns.map PV.int))),some (.sh (lI HP)),none,none,none,none,none]) ⟨_,by dsimp? [ec0,em0,es],rfl⟩ λenv hj=>?_;subst hj;refine jV.kH (J:=λenv=>env=[some (.sh (.eS (ns.map PV.int))),some (.sh (lI HP)),some (.sh (.lst (HU.map lI))),none,none,none,none]) ⟨_,by dsimp? [ec1,JR,aB (i:=m1) (j:=9) ↑12,hm,er],rfl⟩ λenv hj=>?_;subst hj;refine jV.kH (J:=λenv=>env=[some (.sh (.eS (ns.map PV.int))),some (.sh (lI HP)),some (.sh (.lst (HU.map lI))),some (.sh (cT (ones (red HP HU)) HP (red HP HU))),none,none,none]) ⟨_,by dsimp? [mk'],rfl⟩ λenv hj=>?_;subst hj;refine jV.kH (J:=λenv=>∃x y z,env=[some (.sh (.eS (ns.map PV.int))),some (.sh (lI HP)),some (.sh (.lst (HU.map lI))),some (.sh (cT (ones (red HP HU)) HP (red HP HU))),x,y,z]) ?_ λenv hj=>?_
 .obtain⟨b,hb,hb2⟩:∃b:Nat,(tj [.int 2,.int (if (if (ns.length:Int)<32 then (ns.length:Int) else 32)>10 then (if (ns.length:Int)<32 then (ns.length:Int) else 32) else 10)])=M.ok ((LZ b).map λi:Nat=>.int (2+(i:Int)))/\b<=62:=by
   have key:∀z:Int,0<=z->z<=63->∃b:Nat,tj [.int 2,.int z]=M.ok ((LZ b).map λi:Nat=>.int (2+(i:Int)))/\b<=62:=λz h1 h2=>⟨(z-2).toNat,yX ↑12 ↑12 ⋯ ⋯,by lia⟩
   refine key _ ?_ ?_<;>(repeat' split)<;>lia
  have i2:∀(f:Int->Int->Int)(a b:Int),qT f [.int a,.int b]=M.ok (.int (f a b)):=λf a b=>rfl;obtain⟨HS,e,J⟩:=kl (set:=dg 4) (inj:=λi:Nat=>PV.int (2+(i:Int))) (body:=_) (λr env=>(∃x y z,env=[some (.sh (.eS (ns.map PV.int))),some (.sh (lI HP)),some (.sh (.lst (HU.map lI))),some (.sh (cT (ones (red HP HU)) HP (red HP HU))),x,y,z])/\∀i∈r,i<b) (by
   rintro k r env ⟨⟨x,y,z,rfl⟩,hk⟩;have Ka:=hk k L4;obtain⟨c,ec⟩:=ml ns (2+k) ⋯;rw[show ((2+k:Nat):Int)=2+(k:Int) by lia] at ec;obtain⟨c',ec'⟩:=kW c (2+(k:Int)) ⋯ ⋯;obtain⟨w,ew⟩:=kW c' 41 ⋯ ⋯;have w0:=Mq w (show (4:Int)≠0 by decide);have w1:=Ma w (show (0:Int)<4 by decide);obtain⟨v,hv⟩:=Mb w0;refine⟨_,[some (.sh (.eS (ns.map PV.int))),some (.sh (lI HP)),some (.sh (.lst (HU.map lI))),some (.sh (cT (ones (red HP HU)) HP (red HP HU))),some (.sh (.int (2+(k:Int)))),some (.sh (.int c')),some (.sh (.int (v:Int)))],rfl,?_,⟨_,_,_,rfl⟩,λi hi=>hk i (LQ _ hi)⟩
   .show (ao (aX 5 (ah aC (aa (ah bA (aa (ae 0) (aa (ae 4) ai))) (aa (ae 4) ai))))
 (ao (aX 6 (ak da (ah aC (aa (ae 5) (aa (λ_=>M.ok (.int 41)) ai))) (λ_=>M.ok (.int 4))))
 (ao (dY (mw (bO (ak gO (ae 6) (λ_=>M.ok (.int 0)))) (cm (bO (ah gD (aa (ae 3) (aa (ae 1) (aa (ae 5) ai))))))) (ao (retS (λ_=>M.ok (.bl false)))
 aj) aj)
 (ao (dY (mw (bO (ak gO (ae 6) (λ_=>M.ok (.int 1)))) (cm (bO (ah fm (aa (ae 3) (aa (ae 1) (aa (ae 2) (aa (ae 5) ai)))))))) (ao (retS (λ_=>M.ok (.bl false)))
 aj) aj)
 (ao (dY (mw (bO (ak gO (ae 6) (λ_=>M.ok (.int 2)))) (cm (bO (ah fg (aa (ae 3) (aa (ae 1) (aa (ae 2) (aa (ae 5) ai)))))))) (ao (retS (λ_=>M.ok (.bl false)))
 aj) aj)
 (ao (dY (mw (bO (ak gO (ae 6) (λ_=>M.ok (.int 3)))) (cm (bO (ah eB (aa (ae 3) (aa (ae 1) (aa (ae 5) ai))))))) (ao (retS (λ_=>M.ok (.bl false)))
 aj) aj)
 aj)))))) _=_
    have q1:=zf (pz:=ones (red HP HU)) (Ls:=red HP HU) S c';have q2:=tV (pz:=ones (red HP HU)) S L c';have q3:=sV (pz:=ones (red HP HU)) S L c';have q4:=rM (pz:=ones (red HP HU)) (Ls:=red HP HU) S c'
    match v,(show v<4 by lia),hv with
    | 0,_,hv=>dsimp? [ec,ec',ew,aB (i:=w) (j:=4) ↑12,hv,q1,show decide (((0:Nat):Int)=0)=true from rfl,show decide (((0:Nat):Int)=1)=false from rfl,show decide (((0:Nat):Int)=2)=false from rfl,show decide (((0:Nat):Int)=3)=false from rfl]
    | 1,_,hv=>dsimp? [ec,ec',ew,aB (i:=w) (j:=4) ↑12,hv,q2,show decide (((1:Nat):Int)=0)=false from rfl,show decide (((1:Nat):Int)=1)=true from rfl,show decide (((1:Nat):Int)=2)=false from rfl,show decide (((1:Nat):Int)=3)=false from rfl]
    | 2,_,hv=>dsimp? [ec,ec',ew,aB (i:=w) (j:=4) ↑12,hv,q3,show decide (((2:Nat):Int)=0)=false from rfl,show decide (((2:Nat):Int)=1)=false from rfl,show decide (((2:Nat):Int)=2)=true from rfl,show decide (((2:Nat):Int)=3)=false from rfl]
    | 3,_,hv=>dsimp? [ec,ec',ew,aB (i:=w) (j:=4) ↑12,hv,q4,show decide (((3:Nat):Int)=0)=false from rfl,show decide (((3:Nat):Int)=1)=false from rfl,show decide (((3:Nat):Int)=2)=false from rfl,show decide (((3:Nat):Int)=3)=true from rfl]) (LZ b) [some (.sh (.eS (ns.map PV.int))),some (.sh (lI HP)),some (.sh (.lst (HU.map lI))),some (.sh (cT (ones (red HP HU)) HP (red HP HU))),none,none,none] ⟨⟨_,_,_,rfl⟩,λi hi=>MA.mp hi⟩
  obtain⟨⟨x,y,z,rfl⟩,_⟩:=J;refine⟨_,?_,x,y,z,rfl⟩;dsimp? [i2,LK,hb];exact e
 obtain⟨x,y,z,rfl⟩:=hj;refine⟨.bl true,?_,rfl⟩;have key:cY (dg 0) none (ah bu (aa (ae 1) (aa (ae 0) ai))) (HU.map lI) [none,some (.sh (lI HP))]=M.ok (HU.map λl=>tI (lU l HP)):=kY HU λl hl=>by
  dsimp? [g9 (p:=lI l) S rfl (hr l hl).1]
 have rs:=wk (red HP HU);rw[red,Nc] at rs;dsimp? [hR (pz:=ones (red HP HU)) (HP:=HP) (levers:=red HP HU) (g:=ae 3) (env:=[some (.sh (.eS (ns.map PV.int))),some (.sh (lI HP)),some (.sh (.lst (HU.map lI))),some (.sh (cT (ones (red HP HU)) HP (red HP HU))),x,y,z]) rfl,LK,aA (aV (show HU.length<=1000 by lia)),key];rw[red,Nc];exact(congrArg (λm:M PV=>M.bind m λa=>M.ok a) rs).trans rfl
end l_
theorem PySem.Challenge.cw_dialvault_k13_kept_and_turned_holds : PySem.Challenge.rw_dialvault_k13_kept_and_turned.Holds :=
  l_.hold HD.said l_.cU λns h _ => l_.B1 ns h
end