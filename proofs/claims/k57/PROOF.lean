import PyProof.Rows.All
import Wide.All
import OpenK.AllK
import Wide.FinOn
import Lean
import PyProof.EqAt
import PyProof.EqKinds
import PyProof.TupleCall
import PySem.Challenge.RW_dialvault_k57_locks_met
set_option Elab.async false
set_option linter.all false
set_option maxRecDepth 100000
set_option maxHeartbeats 0
open PySem renaming wpAny_bind->R4,wpAny_pure->R9,wpAny_field->SH,wpAny_callSpecial?_slot->Ti,wpAny_mono->Tj,wpAny_newObj_type->Tz,wpAny_Call_Name_kw->T5,wpAny_holding->T9,wpAny_call_entry->Uh,wpAny_seqItems->Ui,wpAny_setField_rec->Uk,wpAny_passesOwn->Ur,wpAny_truthy_bool->Ut,mem_of_lookup->Uz,wpAny_loadPart->UE,wpAny_pyIter_tuple->UN,wpAny_standAt->UR,call_meets->UX,wpAny_execs_nil->Vd,codeAny_mono->Vw,wpAny_pyIter_enum->Vx,wpAny_setField->Vy,plainObj_wpAny_Assign_Attribute->VB,wpAny_rule->VE,wpAny_call->VI,wpAny_attempt->VM,wpAny_updateSeq_pair->VT,wpAny_loadPart'->V4,wpAny_newFunctionEnv_cells->We,wpAny_letOwnedTupleGo_enum->Wj,wpAny_binaryOp_repeat_ref->Ws,wpAny_assign_Name->Ww,wpAny_pyIter_list->Wx,wpAny_loadPart_at->Wy,wpAny_onRaise->WC,noFill_tuple_add->WJ,wpAny_pyNext_range_end->WU,wpAny_pyIter_rangeiter->WV,typeIs_int->WY,wpAny_ite_false->W_,codeAny_call_function->Xa,exec_Assign_Name_used->Xc,codeAny_handlers_test->Xd,codeAny_call_builtin->Xi,wpAny_handleBy_cons->Xv,seq_tuple_add->Xw,wpAny_pyIter_range->Xz,Within->XU,concat_meets->X9,wpAny_sequenceKey->X_,wpAny_typeOf->Yb,seqIndex_neg->Yc,slot_list_getitem->Yd,seqSlot_of->Yt,seqIndex_of->YA,wpAny_letGo->YB,wpAny_Name->YQ
open PySem.W renaming Frag->R5,kitOne->Sb,findIn->SG,keepIn->SN,kia_one->S1,fnOf->Tg,emptyDict->TF,looks_findIn->TQ,callWith_K->T6,InstAt->Ua,codeIn->Ub,instObj->Ud,methodCall_KW->Uo,clsIn->Uy,any_some->UD,exmOne->UI,isFn->UL,lookIn->UU,typeIn->UW,Looks->Va,takerIn->Ve,hasDictIn->Vp,specialIn->Vq,kitx_list->Vr,kitx_dict->Vs,cellsFrom_some->Vt,plainGet->VF,excIn->VO,takesIn->VZ,findObj->V2,plainGet_of->V7,looks_clsIn->V8,looks_mroIn->V9,callWith_K0->V_,kitAny->Wm,methodObj->Wv,mroIn->Wz,nsIn->W0,looks_typeIn->Xj,findObj_own->Xp,kitx_float->XE,kitx_tuple->XF,codeRec_of->XG,check_slot->XI,looks_find->XJ,isNs_of_in->XN,tail_of_in->XO,plainOver->XY,set_plain->XZ,kitx_none->X5,kitx_bool->X6,handedIn->Ym,kitx_int->Yn,kitx_str->Yo,kitx_own->Yp,shadowIn->Ys,makesIn->YF,bind_fn->YG,exm_one->YK,mg_of->YY,KitX->Y7
open PySem.Heap renaming get?_push_of_some->R6,lt_size->Sa,get?_push_size->Sg,get?_update_other->S9,size_push->Tc,get?_update_self->TZ,get?_none_of_le->UT,SameBut->Vo
open List renaming replicate->R7,getElem?_eq_getElem->R8,length_map->R_,size_toArray->Sf,mem_cons_of_mem->Sl,mem_cons_self->Sq,mem_cons->Ss,map_cons->Su,length_append->Sw,getElem?_map->Sx,all_eq_true->SD,mem_iff_getElem->SJ,append_nil->SK,mem_append_right->SQ,replicate_succ->SW,lookup_cons->SY,getElem?_append_right->S2,getElem?_eq_some_iff->S5,getElem?_append_left->S6,range->S7,map_map->S_,mem_singleton->Tq,map_replicate->Tu,getElem_mem->Tv,length_zipIdx->TN,flatten_cons->TV,fst_mem_of_mem_zipIdx->TX,length_cons->T3,getElem?_set->Uc,length_mapIdx->Ul,drop_eq_getElem_cons->Uq,length_zip->Us,mem_map->Uv,getElem_zipIdx->UB,mem_range->UC,mem_nil_iff->UG,lookup->UJ,map_nil->UM,of_mem_zip->UP,length_take->U0,length_drop->U1,set_cons_zero->Vf,getElem?_replicate->Vh,append_assoc->Vv,take_of_length_le->Vz,drop_eq_nil_of_le->VA,length_replicate->VC,mem_append_left->VQ,getElem?_set_ne->VR,mem_filter->VX,mem_append->VY,nodup_cons->V0,nil_append->V1,filterMap_cons->V5,length_zipWith->Wa,foldl->Wh,mem_of_find?_eq_some->Wt,getElem?_take_of_lt->WA,all_cons->WB,eq_of_mem_replicate->WG,cons_append->WN,getElem_map->WS,getElem?_set_self->WT,zipWith->W2,drop_of_length_le->W5,length_set->W8,length_singleton->Xb,mem_of_getElem?->Xh,getElem?_mapIdx->Xk,getElem?_zipIdx->Xm,mem_filterMap->XA,zip_cons_cons->XS,find?_eq_none->XT,all_map->Yi,all_eq_false->Yl,zipIdx_cons->Yr,length_tail->Yu,not_mem_nil->Yy,length->Yz,zipIdx_nil->YI,forIn_cons->YJ,find?_some->YO,forIn_nil->YS,drop_zero->YT,map_drop->Y4
open PySem.Value renaming ref->Sd,none->SM,bool->Te,type->TU,builtin->VN,int->WH,str->WI,float->Xf,bytes->Y8
open Nat renaming le_refl->Se,lt_of_lt_of_le->Sh,ne_of_lt->So,le_trans->SE,lt_of_le_of_lt->Tp,gcd->TR,zero_le->TY,lt_succ_self->T4,lt_irrefl->Uw,ne_of_gt->UK,mul_le_mul->UZ,mul_comm->U3,lcm->U5,mul_le_mul_left->U8,mul_assoc->Vc,le_of_lt->Vn,min_le_right->VG,le_add_right->VH,dvd_trans->VP,le_succ->VS,pow_le_pow_right->VU,mul_le_mul_right->VW,le_of_dvd->WE,gcd_dvd_left->WQ,lt_or_ge->W4,le_of_eq->X3,add_comm->Ye,gcd_dvd_right->Yh,dvd_mul_right->Yk,succ_ne_self->Yv,dvd_mul_left->Yw,log2_lt->YD,min_le_left->YM,div_le_self->YN
open PySem.Str renaming ofString->Si
open PySem.W.Fast renaming te4187177175401517315->Sj,te5923862056798008813->Sk,te14364793385576792824->Sv,te10110043849684766642->S4
open Option.some renaming inj->Sm
open Option renaming map_eq_some_iff->Sn,isSome_iff_exists->T_,bind_eq_some_iff->UH,map_some->UQ,bind_some->U4,getD_some->WL,getD_none->Yq,map->Zd
open PySem.Builtin.Range renaming rangeSize->Sy,small->Xu
open PySem.Builtin.SmallTypes renaming nextOf->SA,ownedTupleIsFree->TJ,ownedTupleHandOut->U7
open Eq renaming trans->SI
open Int renaming emod_lt_of_pos->SO,eq_ofNat_of_zero_le->SS,emod_nonneg->Td,toNat_natCast->TH,natAbs_mul->Um,gcd->UA,fdiv_eq_ediv_of_nonneg->UY,emod_eq_zero_of_dvd->Vk,dvd_of_emod_eq_zero->Vm,ediv_nonneg->V3,mul_assoc->WD,dvd_mul_left->WO,mul_ediv_add_emod->Xe,natAbs_neg->Xl,dvd_trans->Xy,lt_of_le_of_lt->XQ,natCast_nonneg->XR,ofNat_le->Yj,gcd_dvd_left->Yx,dvd_add->YE,mul_nonneg->YU,natAbs_dvd->YW,mul_le_mul->YX,toNat->Y5
open Bool renaming and_eq_true->SX,false_ne_true->To,and_eq_true_iff->Tt,false_eq_true->Wq,eq_iff_iff->W9,false_and->Xg,not_eq_true'->Yg,not_false->YV,not_true->YZ,true_and->Y0,and_true->Y3
open PyProof.Rows renaming slot_tuple_getitem->S0,callWith_type1->Tf,assignInOrder_cons->Wd,subscriptTail_builtinR->WW,entry_tuple_getitem->Xq,args_tuple_getitem->XH,assignInOrder_nil->XX,boot_range->YR
open PySem.PyData renaming canLay0->S3,canLayAll0->Th,depth->Tw,depthAll->TM,strOk->UO,int->Vg,list->Za,eqv->Ze
open False renaming elim->S8
open Array renaming getElem?_eq_some_iff->Tr,length_toList->V6,find?_toList->XC,toList->Y6
open PySem.AutoSeq1 renaming wpAny_loadPart'->TL,sub_tuple_tuple->Vb,idx_int->WM
open Ne renaming symm->T7
open True renaming intro->Ue
open PySem.Obj renaming mapFields->Ug,data_mapFields->Uj,isFreed_of_fields->US,mapSeq->WX
open PySem.Builtin.Slice renaming slicePlaces->Up,sliceAdjust->U6,sliceApplied->Wf
open PySem.SeqAt renaming shaped->Uu,noMix->VV,noMixAll->Wr
open PySem.Builtin.Tuple renaming tupleExact->Ux,tupleItemsOf->Wg,tupleTooMany->Wn
open PySem.F renaming args_tuple_add_2->U9,entry_tuple_add->Vi,plainAttrs_list->Vj,slot_tuple_add->Vu,excBase_ValueError->Wo,attr_ValueError->WK
open PySem.Builtin.List renaming listTooLong->U_
open PySem.Flow renaming next->VD
open PySem.Spec renaming same->VJ,sameAll->W6
open PySem.NameKind renaming free->VL,cell->Xx
open PySem.Builtin.Int renaming intBits->Wb
open PySem.Calls renaming Name_function_global->Wc,callWith_builtin->WZ
open Sum renaming inl->Wu,inr->Xn
open Classical renaming skolem->WR
open Nat.succ renaming inj->W3
open PyProof.Rows.IsTup renaming new->Xo
open PySem.Heap.SameBut renaming update->Xr
open PySem.EntryCells renaming newEntry->Xs
open PySem.W.Looks renaming here->XD
open PySem.Code renaming quiet_builtin->XM,isFrame->X8
open PySem.Within renaming cons->X0
open PySem.Heap.Ns1 renaming of_empty->X4
open PySem.Around renaming under->X7
open PySem.Shared renaming heap->YC
open ForInStep renaming yield->YH
open PySem.W.Frag renaming In->YL
open PySem.Walks renaming range->Y9
open PySem.IsRange renaming new->Y_
open Prod renaming snd->Zb
open PySem.Heap.IsSliceOf renaming new->Zc
noncomputable section
theorem aR(h:True:=by rfl):True:=h
theorem aD(h:True:=by decide):True:=h
theorem aI(h:True:=by intro _;rfl):True:=h
theorem aK(h:True:=by kernel_rfl):True:=h
theorem aF(h:True:=by first | exact .inl rfl | exact .inr rfl | assumption):True:=h
theorem aU(h:True:=by with_unfolding_all rfl):True:=h
theorem aN(h:True:=by decide +kernel):True:=h
theorem aG(h:True:=by first | exact .inl rfl | exact .inr rfl):True:=h
namespace L2
open PySem PySem.Spec PyProof.Rows
abbrev Key:=Sum Int Str
def FK:Key->Value->Bool
 | .inl k,v=>Value.isInt k v
 | .inr x,v=>Value.isStrOf x v
def Ll(w:World):Key->Int
 | .inl k=>hashInt k
 | .inr x=>hashStr w x
theorem cQ:∀ {k:Key} {v:Value},FK k v=true->(∃ i t,k=Wu i/\v=WH i t)\/(∃ x t,k=Xn x/\v=WI x t)
 | .inl i,v,h=>by
  obtain⟨t,e⟩:=Value.isInt_shape (k:=i) (v:=v) h;exact .inl ⟨i,t,rfl,e⟩
 | .inr x,v,h=>by
  obtain⟨t,e⟩:=Value.isStrOf_shape (x:=x) (v:=v) h;exact .inr ⟨x,t,rfl,e⟩
theorem IV(a b:Int):decide ((Wu a:Key)=Wu b)=(a==b):=by
 by_cases e:a=b
 .subst e;simp
 .have h:¬ (Wu a:Key)=Wu b:=λq=>e (Sum.inl.inj q);rw[decide_eq_false h];exact(beq_eq_false_iff_ne.mpr e).symm
theorem HV(a b:Str):decide ((Xn a:Key)=Xn b)=decide (a=b):=by
 by_cases e:a=b
 .subst e;simp
 .have h:¬ (Xn a:Key)=Xn b:=λq=>e (Sum.inr.inj q);rw[decide_eq_false h,decide_eq_false e]
theorem Im(a:Int)(b:Str):decide ((Wu a:Key)=Xn b)=false:=decide_eq_false (λq=>nomatch q)
theorem Gp(a:Str)(b:Int):decide ((Xn a:Key)=Wu b)=false:=decide_eq_false (λq=>nomatch q)
def t6(prog:Program)(w:World):PySem.KeyKind prog w Key where
 is:=FK
 hash:=Ll w
 inj:=λv a b ha hb=>by
  rcases cQ ha with ⟨i,t,rfl,rfl⟩ | ⟨x,t,rfl,rfl⟩
  .rcases cQ hb with ⟨j,u,rfl,e⟩ | ⟨y,u,rfl,e⟩
   .injection e with e1 _;rw[e1]
   .exact nomatch e
  .rcases cQ hb with ⟨j,u,rfl,e⟩ | ⟨y,u,rfl,e⟩
   .exact nomatch e
   .injection e with e1 _;rw[e1]
 byValue:=λk v h=>by
  rcases cQ h with ⟨i,t,rfl,rfl⟩ | ⟨x,t,rfl,rfl⟩ <;> rfl
 pyHash:=λhv h=>by
  rcases cQ hv with ⟨i,t,rfl,rfl⟩ | ⟨x,t,rfl,rfl⟩
  .exact wpAny_pyHash_int h
  .exact wpAny_pyHash_str h
 eqBool:=λhu hv h=>by
  rcases cQ hu with ⟨i,t,rfl,rfl⟩ | ⟨x,t,rfl,rfl⟩
  .rcases cQ hv with ⟨j,u,rfl,rfl⟩ | ⟨y,u,rfl,rfl⟩
   .rw[IV] at h;exact wpAny_eqBool_int h
   .rw[Im] at h;exact SeqAt.EqAt.int_str i t y u _ _ _ _ h
  .rcases cQ hv with ⟨j,u,rfl,rfl⟩ | ⟨y,u,rfl,rfl⟩
   .rw[Gp] at h;exact SeqAt.EqAt.str_int x t j u _ _ _ _ h
   .rw[HV] at h;exact wpAny_eqBool_str h
 «strs»:=λk x t v h=>by
  rcases cQ h with ⟨i,u,rfl,e⟩ | ⟨y,u,rfl,e⟩
  .exact nomatch e
  .injection e with e1 _
   subst e1;cases v <;> rfl
inductive V where
 | bG | bl (b:Bool) | int (i:Int) | str (x:Str) | byt (b:Array UInt8) | FW (b:UInt64) | ref (a:Addr) | ty (n:String)
 deriving DecidableEq
def RelV:V->Value->Prop
 | .bG,u=>u=SM
 | .bl b,u=>u=Te b
 | .int i,u=>∃ t,u=WH i t
 | .str x,u=>∃ t,u=WI x t
 | .byt b,u=>∃ t,u=Y8 b t
 | .FW b,u=>∃ t,u=Xf b t
 | .ref a,u=>u=Sd a
 | .ty n,u=>u=TU n
abbrev Vals:List V->List Value->Prop:=Paired RelV
theorem Vals.length{xs:List V}{us:List Value}(r:Vals xs us):xs.length=us.length:=Paired.length r
theorem Vals.get:∀ {xs:List V} {us:List Value} {i:Nat} {x:V},Vals xs us->xs[i]?=some x->∃ u,us[i]?=some u/\RelV x u
 | _,_,_,_,.nil,e=>by simp at e
 | _,_,0,_,.cons r _,e=>by simp at e;subst e;exact⟨_,rfl,r⟩
 | _,_,i+1,x,.cons _ t,e=>by
  obtain⟨u,h1,h2⟩:=Vals.get (i:=i) (x:=x) t (by simpa using e);exact⟨u,by simpa using h1,h2⟩
theorem Vals.set{x:V}{u:Value}(r:RelV x u):∀ {xs:List V} {us:List Value} (i:Nat),Vals xs us->Vals (xs.set i x) (us.set i u)
 | _,_,_,.nil=>.nil
 | _,_,0,.cons _ t=>.cons r t
 | _,_,i+1,.cons q t=>.cons q (Vals.set r i t)
theorem Vals.append:∀ {xs ys:List V} {us ws:List Value},Vals xs us->Vals ys ws->Vals (xs++ys) (us++ws)
 | _,_,_,_,.nil,s=>s
 | _,_,_,_,.cons r t,s=>.cons r (Vals.append t s)
theorem Vals.take:∀ {xs:List V} {us:List Value} (n:Nat),Vals xs us->Vals (xs.take n) (us.take n)
 | _,_,0,_=>.nil
 | _,_,_+1,.nil=>.nil
 | _,_,n+1,.cons r t=>.cons r (Vals.take n t)
theorem Vals.drop:∀ {xs:List V} {us:List Value} (n:Nat),Vals xs us->Vals (xs.drop n) (us.drop n)
 | _,_,0,r=>r
 | _,_,_+1,.nil=>.nil
 | _,_,n+1,.cons _ t=>Vals.drop n t
def lO:Option V->Option Value->Prop
 | some v,some u=>RelV v u
 | none,none=>True
 | _,_=>False
def KV{κ:Type}:List (κ×V)->List (κ×Value)->Prop:=Paired λ(p:κ×V) (q:κ×Value)=>p.1=q.1/\RelV p.2 q.2
def kV:Key->V
 | .inl i=>.int i
 | .inr x=>.str x
inductive HO where
 | lst (xs:List V)
 | tup (xs:List V)
 | dK (OV:List (Key×V)) | dT (OV:List (List Key×V))
 | set (S:Int->Bool) (n:Nat)
 | ins (C dx:Addr) (fs:List (Str×V))
 | own (x:Addr)
 | xd (fs:List (Str×V))
 | met (f x:Addr)
 | Cd (lo hi:Int)
 | jM (o:Obj) (u:HO)
 | Fl (ps:Array Value)
 | ext (φ:Heap->Prop)
abbrev Hp:=Addr->Option HO
def upd(H:Hp)(a:Addr)(o:HO):Hp:=λb=>if b=a then some o else H b
variable{a:Addr}{H:Hp}
theorem aA{o:HO}:upd H a o a=some o:=by unfold upd;rw[if_pos rfl]
variable{b:Addr}
theorem av{o:HO}(h:b≠a):upd H a o b=H b:=by unfold upd;rw[if_neg h]
theorem xX{o u:HO}:upd (upd H a o) a u=upd H a u:=by
 funext b;unfold upd;split <;> rfl
theorem cn{o:HO}(h:H a=some o)(h':H b=none):a≠b:=by
 intro e;subst e;rw[h] at h';cases h'
section
variable(P:Program)(w:World)
def bZ(H:Hp)(h:Heap)(a:Addr):HO->Prop
 | .lst xs=>xs.length<=sizeLine/\∃ (Og:List Value) (n:Nat),Vals xs Og/\h.get? a=some { cls:=.type "list", data:=.seq Og.toArray n }
 | .tup xs=>xs.length<=sizeLine/\∃ Og:List Value,Vals xs Og/\IsTup h a Og.toArray
 | .dK OV=>OV.length<=sizeLine/\(a==sysModules)=false/\∃ vs,KV OV vs/\h.DictOf (t6 P w) a vs
 | .dT OV=>OV.length<=sizeLine/\(a==sysModules)=false/\∃ xs:List (List Key×Addr×Value),
   Paired (λ(p:List Key×V) (q:List Key×Addr×Value)=>p.1=q.1/\H q.2.1=some (.tup (p.1.map kV))/\RelV p.2 q.2.2) OV xs ∧
   ∃ o es ep,h.get? a=some o/\o.ExactDict/\o.data=.dict es ep/\es.toList=xs.map (entryOfKey (tupleKind (t6 P w)))/\(xs.map (·.1)).Nodup
 | .set S n=>h.SetOf (intKind P w) a S n
 | .ins C dx fs=>H dx=some (.own a)/\fs.length<=1000/\dx≠a/\h.get? a=some (Ud C dx) ∧
   ∃ mA,h.Ns1 dx mA/\(∀ f,lO (fs.lookup f) (mA f))/\XU mA (fs.map (·.1))
 | .own _=>∃ o,h.get? a=some o
 | .xd fs=>∃ mA,h.Ns1 a mA/\∀ f,lO (fs.lookup f) (mA f)
 | .Cd lo hi=>∃ t u v,h.get? a=some { cls:=.type "range", data:=.fields #[.int lo t,.int hi u,.int 1 v] }
 | .jM o u=>h.get? a=some o/\bZ H h a u
 | .Fl ps=>h.get? a=some { cls:=.none,data:=.fields ps }
 | .met f x=>h.get? a=some (Wv (.ref f) (.ref x))
 | .ext φ=>φ h/\(∃ o,h.get? a=some o)/\∀ h1 h2:Heap,φ h1->(∀ o,h1.get? a=some o->h2.get? a=some o)->φ h2
def nI(H:Hp)(h:Heap):Prop:=∀ a o,H a=some o->bZ P w H h a o
end
variable{h h':Heap}{H':Hp}{w:World}{P:Program}
section
variable{o:HO}
theorem bZ.lt(x:bZ P w H h a o):a<h.objs.size:=by
 cases o with
 | lst xs=>obtain⟨_,_,_,_,e⟩:=x;exact Sa e
 | tup xs=>obtain⟨_,_,_,p⟩:=x;exact p.lt
 | dK OV=>obtain⟨_,_,_,_,o,_,_,e,_⟩:=x;exact Sa e
 | dT OV=>obtain⟨_,_,_,_,o,_,_,e,_⟩:=x;exact Sa e
 | set S n=>obtain⟨o,_,_,_,e,_⟩:=x;exact Sa e
 | ins C dx fs=>obtain⟨_,_,_,e,_⟩:=x;exact Sa e
 | own y=>obtain⟨_,e⟩:=x;exact Sa e
 | xd fs=>obtain⟨_,⟨_,_,_,e,_⟩,_⟩:=x;exact Sa e
 | Cd lo hi=>obtain⟨_,_,_,e⟩:=x;exact Sa e
 | jM ob u=>obtain⟨e,_⟩:=x;exact Sa e
 | Fl ps=>exact Sa (show h.get? a=some _ from x)
 | met f y=>exact Sa (show h.get? a=some _ from x)
 | ext φ=>obtain⟨_,⟨_,e⟩,_⟩:=x;exact Sa e
theorem Paired.Jk{α β:Type}{F G:α->β->Prop}:∀ {l₁:List α} {l₂:List β},Paired F l₁ l₂->(∀ a b,F a b->G a b)->Paired G l₁ l₂
 | _,_,.nil,_=>.nil
 | _,_,.cons r t,f=>.cons (f _ _ r) (Paired.Jk t f)
theorem bZ.lg(x:bZ P w H h a o)(k:∀ b u,(b=a\/H b=some (.own a))->h.get? b=some u->h'.get? b=some u)
  (ho:∀ b,H b=some (.own a)->H' b=some (.own a)) (ht:∀ b xs,H b=some (.tup xs)->H' b=some (.tup xs)):bZ P w H' h' a o:=by
 induction o with
 | lst xs=>obtain⟨z,Og,n,r,e⟩:=x;exact⟨z,Og,n,r,k _ _ (.inl rfl) e⟩
 | tup xs=>obtain⟨z,Og,r,ob,e,c⟩:=x;exact⟨z,Og,r,ob,k _ _ (.inl rfl) e,c⟩
 | dK OV=>obtain⟨z,y,vs,r,ob,es,ep,e,c⟩:=x;exact⟨z,y,vs,r,ob,es,ep,k _ _ (.inl rfl) e,c⟩
 | dT OV =>
  obtain⟨z,y,xs,r,ob,es,ep,e,c⟩:=x;exact⟨z,y,xs,Paired.Jk r λp q z=>⟨z.1,ht _ _ z.2.1,z.2.2⟩,ob,es,ep,k _ _ (.inl rfl) e,c⟩
 | set S n=>obtain⟨ob,es,ep,t,e,c⟩:=x;exact⟨ob,es,ep,t,k _ _ (.inl rfl) e,c⟩
 | ins C dx fs =>
  obtain⟨d,z,ne,e,mA,⟨od,es,ep,e2,c⟩,r⟩:=x;exact⟨ho _ d,z,ne,k _ _ (.inl rfl) e,mA,⟨od,es,ep,k _ _ (.inr d) e2,c⟩,r⟩
 | own y=>obtain⟨ob,e⟩:=x;exact⟨ob,k _ _ (.inl rfl) e⟩
 | xd fs=>obtain⟨mA,⟨od,es,ep,e,c⟩,r⟩:=x;exact⟨mA,⟨od,es,ep,k _ _ (.inl rfl) e,c⟩,r⟩
 | Cd lo hi=>obtain⟨t,u,v,e⟩:=x;exact⟨t,u,v,k _ _ (.inl rfl) e⟩
 | jM ob u ih=>obtain⟨e,q⟩:=x;exact⟨k _ _ (.inl rfl) e,ih q⟩
 | Fl ps =>
  have e:h.get? a=some { cls:=.none,data:=.fields ps }:=x;show h'.get? a=some { cls:=.none,data:=.fields ps };exact k a _ (.inl rfl) e
 | met f y =>
  have e:h.get? a=some (Wv (.ref f) (.ref y)):=x;show h'.get? a=some (Wv (.ref f) (.ref y));exact k a _ (.inl rfl) e
 | ext φ=>obtain⟨p,⟨o,e⟩,st⟩:=x;exact⟨st _ _ p λo q=>k _ _ (.inl rfl) q,⟨o,k _ _ (.inl rfl) e⟩,st⟩
theorem nI.lt(x:nI P w H h)(e:H a=some o):a<h.objs.size:=(x a o e).lt
theorem nI.fresh(x:nI P w H h)(e:h.objs.size<=a):H a=none:=by
 cases q:H a with
 | none=>rfl
 | some u=>exact absurd (Sh (x.lt q) e) (Uw _)
theorem nI.kept(x:nI P w H h)(k:∀ b u,h.get? b=some u->h'.get? b=some u):nI P w H h':=λa o e =>
 (x a o e).lg (λb u _ q=>k b u q) (λ_ q=>q) λ_ _ q=>q
theorem nI.laid(x:nI P w H h)(k:∀ b u,h.get? b=some u->h'.get? b=some u)(hp:h.objs.size<=a)(new:bZ P w (upd H a o) h' a o):nI P w (upd H a o) h':=λb u e=>by
 have hn:=x.fresh hp
 by_cases hb:b=a
 .subst hb;rw[aA] at e;cases e;exact new
 .rw[av hb] at e;exact(x b u e).lg (λc v _ q=>k c v q) (λc q=>by rw[av (cn q hn)];exact q) λc xs q=>by rw[av (cn q hn)];exact q
end
def Rd(H:Hp)(a:Addr)(u:HO):Prop:=H a=some u\/∃ o,H a=some (.jM o u)
theorem Rd.ok{u:HO}(r:Rd H a u)(x:nI P w H h):bZ P w H h a u:=by
 rcases r with r | ⟨o,r⟩
 .exact x a u r
 .obtain⟨_,q⟩:=x a _ r;exact q
def K7:Option HO->Prop
 | some (.lst _)=>True
 | some (.dK _)=>True
 | some (.dT _)=>True
 | some (.set _ _)=>True
 | some (.ins _ _ _)=>True
 | some (.ext _)=>True
 | _=>False
section
variable{x e:Addr}{o':HO}
theorem nI.write(ok:nI P w H h)(mu:K7 (H x))(he:e=x\/H e=some (.own x))(k:∀ b u,b≠e->h.get? b=some u->h'.get? b=some u)(Rv:∃ u,h'.get? e=some u)
  (new:bZ P w (upd H x o') h' x o'):nI P w (upd H x o') h':=λb u q=>by
 have RZ:∀ c y,H c=some (.own y)->c≠x:=λc y r z=>by subst z;rw[r] at mu;exact mu
 have ntup:∀ c xs,H c=some (.tup xs)->c≠x:=λc xs r z=>by subst z;rw[r] at mu;exact mu
 by_cases hb:b=x
 .subst hb;rw[aA] at q;cases q;exact new
 .rw[av hb] at q
  by_cases QC:b=e
  .have q':H b=some (.own x):=by
    rcases he with z | z
    .exact absurd (QC.trans z) hb
    .rw[QC];exact z
   rw[q] at q';cases q';obtain⟨v,hv⟩:=Rv;exact⟨v,by rw[QC];exact hv⟩
  .refine(ok b u q).lg (λc v hc r=>k c v ?_ r) (λc r=>by rw[av (RZ c b r)];exact r) λc xs r=>by rw[av (ntup c xs r)];exact r
   rcases hc with rfl | hc
   .exact QC
   .rintro rfl;rcases he with z | z
    .exact RZ c b hc z
    .rw[hc] at z;cases z;exact hb rfl
end
structure Un (fs ex:List Addr) (H H':Hp) (h h':Heap):Prop where
 keep:∀ b o,h.get? b=some o->H b=none->b ∉ fs->b ∉ ex->h'.get? b=some o
 slot:∀ b o,h.get? b=some o->H b=none->b∈fs->b ∉ ex->∃ sl,h'.get? b=some { o with slots:=sl }
 free:∀ b o,h.get? b=some o->H b=none->b ∉ ex->H' b=none
 there:∀ b o,h.get? b=some o->b ∉ ex->∃ o',h'.get? b=some o'
 oz:∀ b xs,H b=some (.tup xs)->H' b=some (.tup xs)
 j3:∀ b o u,H b=some (.jM o u)->H' b=some (.jM o u)
 oJ:∀ b ps,H b=some (.Fl ps)->∃ more,H' b=some (.Fl (ps++more))
section
variable{fs fs' ex ex':List Addr}{H1 H2:Hp}{h1 h2:Heap}{x e:Addr}{o:HO}
theorem Un.any(u:Un fs ex H H1 h h1){ob:Obj}(q:h.get? b=some ob)(n:H b=none)(hx:b ∉ ex):∃ sl,h1.get? b=some { ob with slots:=sl }:=by
 by_cases hb:b∈fs
 .exact u.slot b ob q n hb hx
 .exact⟨ob.slots,u.keep b ob q n hb hx⟩
theorem Un.kept(k:∀ b u,h.get? b=some u->h'.get? b=some u):Un fs ex H H h h' :=
 ⟨λb ob q _ _ _=>k b ob q,λb ob q _ _ _=>⟨ob.slots,k b ob q⟩,λ_ _ _ n _=>n,λb ob q _=>⟨ob,k b ob q⟩,λ_ _ q=>q,λ_ _ _ q=>q,λ_ ps q=>⟨#[],by rw[q];simp⟩⟩
theorem Un.refl:Un fs ex H H h h:=Un.kept λ_ _ q=>q
theorem Un.laid(k:∀ b u,h.get? b=some u->h'.get? b=some u)(hp:h.objs.size<=a)(hn:H a=none):Un fs ex H (upd H a o) h h' where
 keep:=λb u q _ _ _=>k b u q
 slot:=λb u q _ _ _=>⟨u.slots,k b u q⟩
 free:=λb u q n _=>by rw[av (So (Sh (Sa q) hp))];exact n
 there:=λb u q _=>⟨u,k b u q⟩
 oz:=λb xs q=>by rw[av (cn q hn)];exact q
 j3:=λb u xs q=>by rw[av (cn q hn)];exact q
 oJ:=λb ps q=>⟨#[],by rw[av (cn q hn),q];simp⟩
theorem Un.write(mu:K7 (H x))(he:e=x\/H e=some (.own x))(k:∀ b u,b≠e->h.get? b=some u->h'.get? b=some u)(Rv:∃ u,h'.get? e=some u):Un fs ex H (upd H x o) h h':=by
 have hx:∀ b,H b=none->b≠x:=λb n z=>by subst z;rw[n] at mu;exact mu
 have hb:∀ b,H b=none->b≠e:=λb n z=>by
  subst z;rcases he with r | r
  .exact hx b n r
  .rw[n] at r;cases r
 have hm:∀ b u,H b=some u->¬ K7 (some u)->b≠x:=λb u q nm z=>by subst z;rw[q] at mu;exact nm mu
 refine⟨λb u q n _ _=>k b u (hb b n) q,λb u q n _ _=>⟨u.slots,k b u (hb b n) q⟩,λb u q n _=>by rw[av (hx b n)];exact n,λb u q _=>?_,
  λb xs q=>by rw[av (hm b _ q λz=>z)];exact q,λb u xs q=>by rw[av (hm b _ q λz=>z)];exact q,λb ps q=>⟨#[],by rw[av (hm b _ q λz=>z),q];simp⟩⟩
 by_cases QC:b=e
 .subst QC;exact Rv
 .exact⟨u,k b u QC q⟩
end
def La(h:Heap)(H:Hp):List Addr:=(S7 h.objs.size).filter λa=>(H a).isSome
def sP(h:Heap)(H:Hp):Heap:=PySem.W.hideAll h (La h H)
theorem zb(h:Heap)(H:Hp):(sP h H).objs.size=h.objs.size:=PySem.W.hideAll_size _ _
variable{o:Obj}
theorem C5(e:h.get? b=some o)(n:H b=none):(sP h H).get? b=some o :=
 PySem.W.hideAll_get _ e λhm=>by
  have q:(H b).isSome=true:=(VX.mp hm).2;rw[n] at q;simp at q
theorem D8(e:(sP h H).get? b=some o):h.get? b=some o/\H b=none:=by
 have e':h.get? b=some o:=PySem.W.of_hideAll (La h H) e;refine⟨e',?_⟩;cases q:H b with
 | none=>rfl
 | some x =>
  have hm:b∈La h H:=VX.mpr ⟨UC.mpr (Sa e'),by simp[q]⟩;have z:(sP h H).get? b=none:=PySem.W.hideAll_none (La h H) hm;rw[z] at e;cases e
def Fo(g h:Heap)(L:Addr):List (Addr×Obj):=(S7 h.objs.size).filterMap λa=>if a=L\/(g.get? a).isSome=true then none else (h.get? a).map λo=>(a,o)
def rest(g h:Heap)(L d:Addr):List (Addr×Obj):=(Fo g h L).filter λp=>decide (p.1≠d)
structure Mod (K:R5) (mg:Str->Option Value) (base:Heap):Prop where
 Dw:K.In base
 glob:base.Ns mainGlobals mg
 blt:∃ mb,base.Ns builtinsNs mb/\∀ x:Str,x ≠ "__name__" -> mb x=bootBuiltins x
 nolimit:base.NoLimit
structure Cx where
 prog:Program
 w:World
 K:R5
 mg:Str->Option Value
 base:Heap
 A:Around
 N:List Str
 s₀:Shared
 H₀:Hp
 env:Env
 outer:List Env
 stack:List Env
 ex:List Addr
 fn:Str->Bool
 calm:Bool
 pn:List (Addr×Obj)
 xe:Value->Shared->Prop
def wt(l:List Env):List Addr:=l.filterMap (·.frame)
abbrev Cx.fs(X:Cx):List Addr:=wt X.outer
def BE(sc:Scope)(x:Str):Prop:=sc.names.lookup x=some .local\/sc.names.lookup x=some .cell\/sc.names.lookup x=some .free
def Loc(sc:Scope)(x:Str):Prop:=sc.names.lookup x=some .local\/sc.names.lookup x=some .cell
def Look(env:Env)(h:Heap)(m:Str->Option Value)(x:Str)(u:Value):Prop :=
 (env.kindOf x=some .local/\m x=some u)\/((env.kindOf x=some .cell\/env.kindOf x=some .free)/\∃ c,env.cells.lookup x=some c/\h.IsCell c (some u))
structure Cx.Ok (X:Cx):Prop where
 mod:Mod X.K X.mg X.base
 kind:X.env.scope.kind=.function
 glob:X.env.globals=mainGlobals
 blt:X.env.builtins=builtinsNs
 above:X.s₀.heap.objs.size<=X.env.locals
 inj:∀ x y c,X.env.cells.lookup x=some c->X.env.cells.lookup y=some c->x=y
 has:∀ x,(X.env.kindOf x=some .cell\/X.env.kindOf x=some .free)->∃ c,X.env.cells.lookup x=some c
 F7:∀ x c,X.fn x=true->X.env.cells.lookup x=some c->X.s₀.heap.objs.size<=c
 hd:X.calm=true->X.A.handled=none
 frames:X.A.frames=some X.stack
 Gu:X.stack=X.outer\/(X.stack=X.env::X.outer/\X.env.frame=some X.env.locals)
 Je:∀ b∈X.ex,b≠X.env.locals/\∀ x c,X.env.cells.lookup x=some c->c≠b
 bs:∀ b o,X.base.get? b=some o->X.s₀.heap.get? b=some o/\X.H₀ b=none
 Ao:X.base.objs.size<=X.s₀.heap.objs.size
 uk:∀ b o,X.base.get? b=some o->b ∉ X.ex
 u0:∀ b∈X.ex,b ∉ X.fs
 kK:X.s₀.heap.FunFrames X.base X.outer
 Dg:∀ b∈X.fs,X.H₀ b=none
structure Inv (X:Cx) (Oa:List (Addr×Obj)) (σ:List (Option V)) (H:Hp) (s:Shared):Prop where
 ok:X.Ok
 os:s.os=X.s₀.os
 bare:AllBare s.gens
 base:Un X.fs X.ex X.H₀ H X.s₀.heap s.heap
 loc:∃ m,s.heap.Ns X.env.locals m/\∀ (i:Nat) (x:Str) (v:V),X.N[i]?=some x->σ[i]?=some (some v)->BE X.env.scope x->∃ u,RelV v u/\Look X.env s.heap m x u
 cell:∀ x c,X.env.cells.lookup x=some c->∃ v,s.heap.IsCell c v
 free:H X.env.locals=none
 eQ:∀ x c,X.env.cells.lookup x=some c->H c=none
 pin:∀ p∈X.pn++Oa,s.heap.get? p.1=some p.2/\H p.1=none/\p.1≠X.env.locals/\p.1 ∉ X.fs/\∀ v,p.2.data≠.cell v
 bJ:nI X.prog X.w H s.heap
 len:σ.length=X.N.length
variable{s:Shared}{Oa:List (Addr×Obj)}{X:Cx}
variable{ch:List Addr}{d':Drawn}{t':Nat}{g':Array GenState}
variable{it:Addr}
variable{x:Str}{i:Nat}{N:List Str}
variable{u:Value}{v:V}{E:Value->Shared->Prop}{A:Around}
section
variable{σ:List (Option V)}
theorem Cx.Ok.Lg(ok:X.Ok)(e:X.base.get? b=some o):b ∉ X.fs:=λhb=>by
 have:=(ok.kK.mem hb).1;rw[e] at this;cases this
theorem Inv.bs(I:Inv X Oa σ H s):∀ b o,X.base.get? b=some o->s.heap.get? b=some o/\H b=none:=λb o e =>
 ⟨I.base.keep b o (I.ok.bs b o e).1 (I.ok.bs b o e).2 (I.ok.Lg e) (I.ok.uk b o e),I.base.free b o (I.ok.bs b o e).1 (I.ok.bs b o e).2 (I.ok.uk b o e)⟩
theorem Inv.bk(I:Inv X Oa σ H s):∀ b o,X.base.get? b=some o->s.heap.get? b=some o:=λb o e=>(I.bs b o e).1
theorem Inv.mod(I:Inv X Oa σ H s):Mod X.K X.mg X.base:=I.ok.mod
theorem Inv.hU(I:Inv X Oa σ H s):X.K.In s.heap:=I.ok.mod.Dw.keeps I.bk
theorem Inv.lt(I:Inv X Oa σ H s):X.env.locals<s.heap.objs.size:=let ⟨_,hn,_⟩:=I.loc;hn.lt
theorem Inv.sz(I:Inv X Oa σ H s):X.s₀.heap.objs.size<=s.heap.objs.size:=SE I.ok.above (Vn I.lt)
theorem Inv.LR(I:Inv X Oa σ H s)(h:s.heap.objs.size<=a):a ∉ X.fs:=λhb=>by
 obtain⟨_,o,ho,_⟩:=I.ok.kK.mem hb;exact absurd (Sh (Sa ho) (SE I.sz h)) (Uw _)
theorem Inv.AF(I:Inv X Oa σ H s):∀ x c,X.env.cells.lookup x=some c->c≠X.env.locals:=λx c e z=>by
 obtain⟨v,o,ho,hd⟩:=I.cell x c e;obtain⟨m,⟨o',es,ep,Qp,RI,_⟩,_⟩:=I.loc;rw[z,Qp] at ho;cases ho;rw[RI] at hd;cases hd
theorem Inv.kK(I:Inv X Oa σ H s):s.heap.FunFrames X.base X.outer:=by
 have all:∀ (l:List Env),(∀ b∈wt l,b∈X.fs)->X.s₀.heap.FunFrames X.base l->s.heap.FunFrames X.base l:=by
  intro l
  induction l with
  | nil=>intro _ _;trivial
  | cons env r ih =>
   intro hs hl;obtain⟨hk,⟨L,o,hf,hn,ho,hd⟩,hr⟩:=hl;have hL:L∈X.fs:=hs L (by unfold wt;rw[V5,hf];exact Sq);obtain⟨sl,e⟩:=I.base.slot L o ho (I.ok.Dg L hL) hL λz=>I.ok.u0 L z hL;exact⟨hk,⟨L,_,hf,hn,e,hd⟩,ih (λb hb=>hs b (by unfold wt;rw[V5,hf];exact Sl _ hb)) hr⟩
 exact all X.outer (λ_ hb=>hb) I.ok.kK
theorem Inv.stack(I:Inv X Oa σ H s):s.heap.FunFrames X.base X.stack:=by
 rcases I.ok.Gu with e | ⟨e,hf⟩
 .rw[e];exact I.kK
 .rw[e];obtain⟨m,hn,_⟩:=I.loc;refine .cons (by rw[I.ok.kind];decide) hf hn ?_ I.kK;exact UT (SE I.ok.Ao I.ok.above)
theorem Inv.sJ(I:Inv X Oa σ H s):∀ b∈wt X.stack,b∈X.env.locals::X.fs:=λb hb=>by
 rcases I.ok.Gu with e | ⟨e,hf⟩
 .rw[e] at hb;exact Sl _ hb
 .rw[e] at hb;unfold wt at hb;rw[V5,hf] at hb;exact hb
theorem Inv.sI(I:Inv X Oa σ H s):∀ b∈wt X.stack,H b=none:=λb hb=>by
 rcases Ss.mp (I.sJ b hb) with e | hb
 .rw[e];exact I.free
 .obtain⟨_,o,ho,_⟩:=I.ok.kK.mem hb;exact I.base.free b o ho (I.ok.Dg b hb) λz=>I.ok.u0 b z hb
theorem Inv.step(I:Inv X Oa σ H s)
  (Qh:∀ b∈ch,(b∈X.ex\/X.s₀.heap.objs.size<=b)/\b≠X.env.locals/\(∀ x c,X.env.cells.lookup x=some c->c≠b)/\∀ p∈X.pn++Oa,p.1≠b)
  (keep:∀ b o,b≠X.env.locals->b ∉ X.fs->b ∉ ch->s.heap.get? b=some o->H b=none->h'.get? b=some o)
  (slot:∀ b o,b≠X.env.locals->b∈X.fs->b ∉ ch->s.heap.get? b=some o->H b=none->∃ sl,h'.get? b=some { o with slots:=sl }) (free:∀ b o,b ∉ ch->s.heap.get? b=some o->H b=none->H' b=none)
  (there:∀ b o,b ∉ ch->s.heap.get? b=some o->∃ o',h'.get? b=some o')
  (oz:∀ b xs,H b=some (.tup xs)->H' b=some (.tup xs)) (j3:∀ b o u,H b=some (.jM o u)->H' b=some (.jM o u)) (oJ:∀ b ps,H b=some (.Fl ps)->∃ more,H' b=some (.Fl (ps++more)))
  (ns:∀ m,s.heap.Ns X.env.locals m->h'.Ns X.env.locals m) (bJ:nI X.prog X.w H' h') (hg:AllBare g') :
  Inv X Oa σ H' { s with heap:=h',gens:=g',drawn:=d',toks:=t' }:=by
 have neL:∀ b o,X.s₀.heap.get? b=some o->b≠X.env.locals:=λb o e=>So (Sh (Sa e) I.ok.above);have neC:∀ b o,X.s₀.heap.get? b=some o->b ∉ X.ex->b ∉ ch:=λb o e hx hb=>by
  rcases(Qh b hb).1 with z | z
  .exact hx z
  .exact absurd (Sh (Sa e) z) (Uw _)
 have cellK:∀ x c,X.env.cells.lookup x=some c->∀ v,s.heap.IsCell c v->h'.IsCell c v:=λx c e v ⟨o,ho,hd⟩=>by
  have RY:c ∉ ch:=λz=>(Qh c z).2.2.1 x c e rfl
  by_cases hc:c∈X.fs
  .obtain⟨sl,q⟩:=slot c o (I.AF x c e) hc RY ho (I.eQ x c e);exact⟨_,q,hd⟩
  .exact⟨o,keep c o (I.AF x c e) hc RY ho (I.eQ x c e),hd⟩
 refine⟨I.ok,I.os,hg,⟨λb o e n hb hx=>?_,λb o e n hb hx=>?_,λb o e n hx=>?_,λb o e hx=>?_,λb xs e=>oz b xs (I.base.oz b xs e),λb o xs e=>j3 b o xs (I.base.j3 b o xs e),λb ps e=>?_⟩,?_,λx c e=>?_,?_,λx c e=>?_,λp hp=>?_,bJ,I.len⟩
 .exact keep b o (neL b o e) hb (neC b o e hx) (I.base.keep b o e n hb hx) (I.base.free b o e n hx)
 .obtain⟨sl,e1⟩:=I.base.slot b o e n hb hx;obtain⟨sl',e2⟩:=slot b _ (neL b o e) hb (neC b o e hx) e1 (I.base.free b o e n hx);exact⟨sl',e2⟩
 .obtain⟨o',e1⟩:=I.base.there b o e hx;exact free b o' (neC b o e hx) e1 (I.base.free b o e n hx)
 .obtain⟨o',e1⟩:=I.base.there b o e hx;exact there b o' (neC b o e hx) e1
 .obtain⟨m1,e1⟩:=I.base.oJ b ps e;obtain⟨m2,e2⟩:=oJ b _ e1;exact⟨m1++m2,by rw[e2,Array.append_assoc]⟩
 .obtain⟨m,hn,hl⟩:=I.loc;refine⟨m,ns m hn,λi x v e1 e2 e3=>?_⟩;obtain⟨u,r,l⟩:=hl i x v e1 e2 e3;refine⟨u,r,?_⟩;rcases l with l | ⟨k,c,e,z⟩
  .exact .inl l
  .exact .inr ⟨k,c,e,cellK x c e _ z⟩
 .obtain⟨v,z⟩:=I.cell x c e;exact⟨v,cellK x c e v z⟩
 .obtain⟨m,⟨o,_,_,ho,_⟩,_⟩:=I.loc;exact free _ o (λz=>(Qh _ z).2.1 rfl) ho I.free
 .obtain⟨v,o,ho,hd⟩:=I.cell x c e;exact free c o (λz=>(Qh c z).2.2.1 x c e rfl) ho (I.eQ x c e)
 .obtain⟨e,n,ne,nf,d⟩:=I.pin p hp;have RY:p.1 ∉ ch:=λz=>(Qh p.1 z).2.2.2 p hp rfl;exact⟨keep p.1 p.2 ne nf RY e n,free p.1 p.2 RY e n,ne,nf,d⟩
theorem Inv.un(I:Inv X Oa σ H s)(u:Un X.fs [] H H' s.heap h')(bJ:nI X.prog X.w H' h'):Inv X Oa σ H' { s with heap:=h',toks:=t' }:=by
 obtain⟨m,⟨o,es,ep,ho,r⟩,_⟩:=id I.loc;obtain⟨sl,hL⟩:=u.any ho I.free (by simp);exact I.step (g':=s.gens) (d':=s.drawn) (ch:=[]) (λ_ z=>nomatch z) (λb o _ hb _ e n=>u.keep b o e n hb (by simp)) (λb o _ hb _ e n=>u.slot b o e n hb (by simp)) (λb o _ e n=>u.free b o e n (by simp)) (λb o _ e=>u.there b o e (by simp)) u.oz u.j3 u.oJ (λm' hm=>by
  obtain⟨o',es',ep',Qp,r'⟩:=hm;rw[ho] at Qp;cases Qp;exact⟨_,es',ep',hL,r'⟩) bJ I.bare
theorem Inv.call(I:Inv X Oa σ H s)(u:Un (wt X.stack) ch H H' s.heap h')(bJ:nI X.prog X.w H' h')(hg:AllBare g')
  (Qh:∀ b∈ch,(b∈X.ex\/X.s₀.heap.objs.size<=b)/\b≠X.env.locals/\(∀ x c,X.env.cells.lookup x=some c->c≠b)/\∀ p∈X.pn++Oa,p.1≠b) :
  Inv X Oa σ H' { s with heap:=h',gens:=g',drawn:=d',toks:=t' }:=by
 obtain⟨m,⟨o,es,ep,ho,r⟩,_⟩:=id I.loc;obtain⟨sl,hL⟩:=u.any ho I.free λz=>(Qh _ z).2.1 rfl;exact I.step (ch:=ch) Qh (λb o hL hb hc e n=>u.keep b o e n (λz=>(Ss.mp (I.sJ b z)).elim hL hb) hc) (λb o _ _ hc e n=>u.any e n hc) (λb o hc e n=>u.free b o e n hc) (λb o hc e=>u.there b o e hc) u.oz u.j3 u.oJ (λm' hm=>by
  obtain⟨o',es',ep',Qp,r'⟩:=hm;rw[ho] at Qp;cases Qp;exact⟨_,es',ep',hL,r'⟩) bJ hg
theorem Inv.turned(I:Inv X Oa σ H s)(k:∀ b o,b≠it->s.heap.get? b=some o->h'.get? b=some o)(hn:H it=none)(hL:it≠X.env.locals)
  (h1:it∈X.ex\/X.s₀.heap.objs.size<=it) (h2:∀ x c,X.env.cells.lookup x=some c->c≠it) (h3:∀ p∈X.pn++Oa,p.1≠it):Inv X Oa σ H { s with heap:=h',toks:=t' }:=by
 have nit:∀ b u,H b=some u->b≠it:=λb u e z=>by rw[z,hn] at e;cases e
 refine I.step (g':=s.gens) (d':=s.drawn) (ch:=[it]) (λb hb=>?_) (λb o _ _ hc e _=>k b o (λz=>hc (by simp[z])) e) (λb o _ _ hc e _=>⟨o.slots,k b o (λz=>hc (by simp[z])) e⟩) (λ_ _ _ _ n=>n)
  (λb o hc e=>⟨o,k b o (λz=>hc (by simp[z])) e⟩) (λ_ _ e=>e) (λ_ _ _ e=>e) (λb ps e=>⟨#[],by rw[e];simp⟩) (λm hm=>?_) (λb u e=>?_) I.bare
 .have e:b=it:=by simpa using hb
  subst e;exact⟨h1,hL,h2,h3⟩
 .obtain⟨o,es,ep,ho,r⟩:=hm;exact⟨o,es,ep,k _ o (T7 hL) ho,r⟩
 .refine(I.bJ b u e).lg (λc v hc q=>k c v ?_ q) (λ_ q=>q) λ_ _ q=>q;rcases hc with z | z
  .rw[z];exact nit b u e
  .exact nit c _ z
theorem Inv.tok(I:Inv X Oa σ H s)(t:Nat):Inv X Oa σ H { s with toks:=t }:=I.un (h':=s.heap) (t':=t) Un.refl I.bJ
theorem Inv.kept{t':Nat}(I:Inv X Oa σ H s)(k:∀ b u,s.heap.get? b=some u->h'.get? b=some u):Inv X Oa σ H { s with heap:=h',toks:=t' }:=I.un (Un.kept k) (I.bJ.kept k)
theorem Inv.laid{a:Addr}{o:HO}{t':Nat}(I:Inv X Oa σ H s)(k:∀ b u,s.heap.get? b=some u->h'.get? b=some u)(hp:s.heap.objs.size<=a)(new:bZ X.prog X.w (upd H a o) h' a o) :
  Inv X Oa σ (upd H a o) { s with heap:=h',toks:=t' }:=I.un (Un.laid k hp (I.bJ.fresh hp)) (I.bJ.laid k hp new)
theorem Inv.write{x e:Addr}{o:HO}{t':Nat}(I:Inv X Oa σ H s)(mu:K7 (H x))(he:e=x\/H e=some (.own x))(k:∀ b u,b≠e->s.heap.get? b=some u->h'.get? b=some u)(Rv:∃ u,h'.get? e=some u)
  (new:bZ X.prog X.w (upd H x o) h' x o):Inv X Oa σ (upd H x o) { s with heap:=h',toks:=t' }:=I.un (Un.write mu he k Rv) (I.bJ.write mu he k Rv new)
theorem Inv.yg{Qn:List (Addr×Obj)}(I:Inv X Oa σ H s)(h:∀ p∈Qn,s.heap.get? p.1=some p.2/\H p.1=none/\p.1≠X.env.locals/\p.1 ∉ X.fs/\∀ v,p.2.data≠.cell v):Inv X Qn σ H s :=
 ⟨I.ok,I.os,I.bare,I.base,I.loc,I.cell,I.free,I.eQ,λp hp=>(VY.mp hp).elim (λz=>I.pin p (VQ _ z)) (h p),I.bJ,I.len⟩
theorem pU(hN:N.Nodup){j:Nat}(a:N[i]?=some x)(b:N[j]?=some x):i=j:=by
 obtain⟨h1,e1⟩:=S5.mp a;obtain⟨h2,e2⟩:=S5.mp b;exact(List.getElem_inj hN).mp (e1.trans e2.symm)
theorem nq{M:Model}{Q:Unit->Shared->Prop}(I:Inv X Oa σ H s)(hN:X.N.Nodup)(hi:X.N[i]?=some x)(hx:Loc X.env.scope x)(r:RelV v u)
  (h:∀ s',Inv X Oa (σ.set i (some v)) H s'->(∃ a,Vo a s.heap s'.heap/\(a=X.env.locals\/X.env.cells.lookup x=some a))->Q () s') (hf:autoParam (X.fn x=true\/X.env.scope.names.lookup x=some .local) aF._auto_1):wpAny M A (storeName X.env x u) Q E s:=by
 obtain⟨m,hn,hl⟩:=id I.loc;have hcls:(X.env.scope.kind==.class||(X.env.scope.kind==.module&&X.env.locals != X.env.globals))=false:=by rw[I.ok.kind];rfl
 have hiσ:i<σ.length:=by rw[I.len];exact(S5.mp hi).1
 have AF:=I.AF;have tracked:∀ {a:Addr} {h':Heap},(∃ o,s.heap.get? a=some o/\H a=none)->Vo a s.heap h'->nI X.prog X.w H h':=λ{a h'} ha hs b ob e=>by
  obtain⟨_,_,Qy⟩:=ha;refine(I.bJ b ob e).lg (λc w' hc q=>(hs.2 c ?_).trans q) (λ_ q=>q) λ_ _ q=>q;rintro rfl;rcases hc with rfl | hc
  .rw[Qy] at e;cases e
  .rw[Qy] at hc;cases hc
 rcases hx with hk | hk
 .refine wpAny_storeName_local hk hn (λh' RO hs=>?_) hcls;obtain⟨oL,_,_,hoL,_⟩:=id hn;refine h _ ⟨I.ok,I.os,I.bare,⟨λb o e n hb hx=>?_,λb o e n hb hx=>?_,I.base.free,λb o e hx=>?_,I.base.oz,I.base.j3,I.base.oJ⟩,⟨_,RO,λj y v' e1 e2 e3=>?_⟩,λy c e=>?_,I.free,I.eQ,λp hp=>?_,tracked ⟨oL,hoL,I.free⟩ hs,by simpa using I.len⟩ ⟨_,hs,.inl rfl⟩
  .exact(hs.2 b (So (Sh (Sa e) I.ok.above))).trans (I.base.keep b o e n hb hx)
  .obtain⟨sl,e1⟩:=I.base.slot b o e n hb hx;exact⟨sl,(hs.2 b (So (Sh (Sa e) I.ok.above))).trans e1⟩
  .obtain⟨o',e1⟩:=I.base.there b o e hx;exact⟨o',(hs.2 b (So (Sh (Sa e) I.ok.above))).trans e1⟩
  .by_cases hj:j=i
   .subst hj;rw[hi] at e1;cases e1;rw[WT hiσ] at e2;cases e2;exact⟨u,r,.inl ⟨hk,by simp⟩⟩
   .rw[VR (T7 hj)] at e2;obtain⟨u',r',q⟩:=hl j y v' e1 e2 e3;refine⟨u',r',?_⟩;rcases q with ⟨k,e⟩ | ⟨k,c,e,z⟩
    .refine .inl ⟨k,?_⟩;have:y≠x:=λe=>hj (pU hN e1 (e▸hi));simp[this,e]
    .exact .inr ⟨k,c,e,z.sameBut hs (AF y c e)⟩
  .obtain⟨w',z⟩:=I.cell y c e;exact⟨w',z.sameBut hs (AF y c e)⟩
  .obtain⟨e,n,ne,nf,d⟩:=I.pin p hp;exact⟨(hs.2 p.1 ne).trans e,n,ne,nf,d⟩
 .have hfn:X.fn x=true:=by
   rcases hf with z | z
   .exact z
   .rw[z] at hk;cases hk
  obtain⟨c,hc⟩:=I.ok.has x (.inl hk);obtain⟨w',z⟩:=I.cell x c hc;refine wpAny_storeName_cell I.ok.kind hk hc z (λh' Q5 hs=>?_);obtain⟨oc,hoc,hocd⟩:=id z;refine h { s with heap:=h' } ⟨I.ok,I.os,I.bare,⟨λb o e n hb hx=>?_,λb o e n hb hx=>?_,I.base.free,λb o e hx=>?_,I.base.oz,I.base.j3,I.base.oJ⟩,⟨m,hn.sameBut hs (T7 (AF x c hc)),λj y v' e1 e2 e3=>?_⟩,λy c' e=>?_,I.free,I.eQ,λp hp=>?_,tracked ⟨oc,hoc,I.eQ x c hc⟩ hs,by simpa using I.len⟩ ⟨c,hs,.inr hc⟩
  .exact(hs.2 b (So (Sh (Sa e) (I.ok.F7 x c hfn hc)))).trans (I.base.keep b o e n hb hx)
  .obtain⟨sl,e1⟩:=I.base.slot b o e n hb hx;exact⟨sl,(hs.2 b (So (Sh (Sa e) (I.ok.F7 x c hfn hc)))).trans e1⟩
  .obtain⟨o',e1⟩:=I.base.there b o e hx;exact⟨o',(hs.2 b (So (Sh (Sa e) (I.ok.F7 x c hfn hc)))).trans e1⟩
  .by_cases hj:j=i
   .subst hj;rw[hi] at e1;cases e1;rw[WT hiσ] at e2;cases e2;exact⟨u,r,.inr ⟨.inl hk,c,hc,Q5⟩⟩
   .rw[VR (T7 hj)] at e2;obtain⟨u',r',q⟩:=hl j y v' e1 e2 e3;refine⟨u',r',?_⟩;rcases q with q | ⟨k,c',e,z'⟩
    .exact .inl q
    .refine .inr ⟨k,c',e,z'.sameBut hs ?_⟩;rintro rfl;exact hj (pU hN e1 (I.ok.inj _ _ _ e hc▸hi))
  .by_cases hcc:c'=c
   .subst hcc;exact⟨_,Q5⟩
   .obtain⟨w2,z2⟩:=I.cell y c' e;exact⟨w2,z2.sameBut hs hcc⟩
  .obtain⟨e,n,ne,nf,d⟩:=I.pin p hp;refine⟨(hs.2 p.1 ?_).trans e,n,ne,nf,d⟩;intro q;rw[q,hoc] at e;have q':oc=p.2:=Sm e;exact d w' (by rw[<- q'];exact hocd)
theorem jU{M:Model}{Q:Unit->Shared->Prop}(I:Inv X Oa σ H s)(hN:X.N.Nodup)(hi:X.N[i]?=some x)(hx:Loc X.env.scope x)(r:RelV v u)
  (h:∀ s',Inv X Oa (σ.set i (some v)) H s'->Q () s') (hf:autoParam (X.fn x=true\/X.env.scope.names.lookup x=some .local) aF._auto_1):wpAny M A (storeName X.env x u) Q E s :=
 nq I hN hi hx r (λs' I' _=>h s' I') hf
theorem Inv.BN{s':Shared}(I:Inv X Oa σ H s)(ho:s'.os=s.os)(u:Un (wt X.stack) ch H H' s.heap s'.heap)(bJ:nI X.prog X.w H' s'.heap)(hg:AllBare s'.gens)
  (Qh:∀ b∈ch,(b∈X.ex\/X.s₀.heap.objs.size<=b)/\b≠X.env.locals/\(∀ x c,X.env.cells.lookup x=some c->c≠b)/\∀ p∈X.pn++Oa,p.1≠b):Inv X Oa σ H' s':=by
 obtain⟨h',g',d',t',o'⟩:=s';have e:o'=s.os:=ho;subst e;exact I.call (g':=g') (t':=t') (d':=d') u bJ hg Qh
end
abbrev XK:=Value->Option Addr->Hp->Prop
abbrev St:=List (Option V)
abbrev VK:=V->Hp->Prop
abbrev TE:=St->Hp->VK->Prop
abbrev TT:=St->Hp->(Bool->Hp->Prop)->Prop
abbrev TA:=St->Hp->(List V->Hp->Prop)->Prop
structure Ends where
 nx:St->Hp->Prop
 rt:VK
 bk:St->Hp->Prop:=λ_ _=>False
 ct:St->Hp->Prop:=λ_ _=>False
abbrev TS:=Ends->St->Hp->Prop
def EP(X:Cx)(Oa:List (Addr×Obj))(σ:St)(Q:VK)(u:Value)(s':Shared):Prop:=∃ v H',Inv X Oa σ H' s'/\RelV v u/\Q v H'
def TP(X:Cx)(Oa:List (Addr×Obj))(σ:St)(Q:Bool->Hp->Prop)(b:Bool)(s':Shared):Prop:=∃ H',Inv X Oa σ H' s'/\Q b H'
def AP(X:Cx)(Oa:List (Addr×Obj))(σ:St)(Q:List V->Hp->Prop)(us:List Value)(s':Shared):Prop:=∃ vs H',Inv X Oa σ H' s'/\Vals vs us/\Q vs H'
def SP(X:Cx)(Oa:List (Addr×Obj))(D:Ends)(f:Flow)(s':Shared):Prop :=
 match f with
 | .next=>∃ σ' H',Inv X Oa σ' H' s'/\D.nx σ' H'
 | .brk=>∃ σ' H',Inv X Oa σ' H' s'/\D.bk σ' H'
 | .cont=>∃ σ' H',Inv X Oa σ' H' s'/\D.ct σ' H'
 | .ret u=>∃ v σ' H',Inv X Oa σ' H' s'/\RelV v u/\D.rt v H'
def PE(X:Cx)(e:Expr)(t:TE):Prop :=
 ∀ (Oa:List (Addr×Obj)) (s:Shared) (σ:St) (H:Hp) (Q:VK),Inv X Oa σ H s->t σ H Q->wpAny (model X.prog X.w) X.A (eval e X.env) (EP X Oa σ Q) X.xe s
def PT(X:Cx)(e:Expr)(t:TT):Prop :=
 ∀ (Oa:List (Addr×Obj)) (s:Shared) (σ:St) (H:Hp) (Q:Bool->Hp->Prop),Inv X Oa σ H s->t σ H Q->wpAny (model X.prog X.w) X.A (isTrue e X.env (eval e X.env)) (TP X Oa σ Q) X.xe s
def PW(X:Cx)(e:Expr)(t:TT):Prop :=
 ∀ (whole:Sem Value) (Oa:List (Addr×Obj)) (s:Shared) (σ:St) (H:Hp) (Q:Bool->Hp->Prop),Inv X Oa σ H s->t σ H Q->wpAny (model X.prog X.w) X.A (isTrue e X.env whole) (TP X Oa σ Q) X.xe s
variable{e:Expr}
theorem PW.pt{t:TT}(h:PW X e t):PT X e t:=h _
def PA(X:Cx)(es:List Expr)(t:TA):Prop :=
 ∀ (pos:Pos) (Oa:List (Addr×Obj)) (s:Shared) (σ:St) (H:Hp) (Q:List V->Hp->Prop),Inv X Oa σ H s->t σ H Q->wpAny (model X.prog X.w) X.A (spliced (backTo pos (starEach es X.env))) (AP X Oa σ Q) X.xe s
def PS(X:Cx)(st:Stmt)(t:TS):Prop :=
 ∀ (Oa:List (Addr×Obj)) (s:Shared) (σ:St) (H:Hp) (D:Ends),Inv X Oa σ H s->t D σ H->wpAny (model X.prog X.w) X.A (exec st X.env) (SP X Oa D) X.xe s
def kO(X:Cx)(st:List Stmt)(t:TS):Prop :=
 ∀ (Oa:List (Addr×Obj)) (s:Shared) (σ:St) (H:Hp) (D:Ends),Inv X Oa σ H s->t D σ H->wpAny (model X.prog X.w) X.A (execs st X.env) (SP X Oa D) X.xe s
theorem cU{α:Type}{t:Sem α}{Q Q':α->Shared->Prop}{M:Model}(h:wpAny M A t Q E s)(hQ:∀ a s,Q a s->Q' a s):wpAny M A t Q' E s:=Tj h hQ λ_ _ x=>x
variable{pos:Pos}
variable{Q:Value->Shared->Prop}{σ:St}
variable{ta:TE}
variable{c:Expr}
section
def LM(i:Nat):TE:=fun σ H Q=>∃ v,σ[i]?=some (some v)/\Q v H
def tC(v:V):TE:=λ_ H Q=>Q v H
theorem lj(hN:X.N[i]?=some x)(hv:BE X.env.scope x)(hd:autoParam ((x==("__debug__" : Str))=false) aD._auto_1)(Pn:autoParam ((x==("__classdict__" : Str))=false) aD._auto_1):PE X (.Name x pos) (LM i):=by
 intro Oa s σ H Q I h;obtain⟨v,e,h⟩:=h;obtain⟨m,hn,hl⟩:=I.loc;obtain⟨u,r,l⟩:=hl i x v hN e hv;have fin:EP X Oa σ Q u s:=⟨v,H,I,r,h⟩
 rcases l with ⟨hk,hm⟩ | ⟨hk,c,hc,Qx⟩
 .exact YQ (wpAny_loadName_local I.ok.kind hk hn hm fin) hd
 .rcases hk with hk | hk
  .exact YQ (wpAny_loadName_cell I.ok.kind hk hc Qx fin) hd
  .exact YQ (wpAny_loadName_free I.ok.kind hk hc Qx fin Pn) hd
theorem GO{i j pos}:PE X (.Constant (.int i) j pos) (tC (.int i)):=λ_ _ _ H _ I h=>wpAny_Constant_int ⟨.int i,H,I.tok _,⟨_,rfl⟩,h⟩
theorem KC{b j pos}:PE X (.Constant (.bool b) j pos) (tC (.bl b)):=λ_ _ _ H _ I h=>Constant_bool ⟨.bl b,H,I,rfl,h⟩
theorem GR{j pos}:PE X (.Constant .none j pos) (tC .bG):=λ_ _ _ H _ I h=>Constant_none ⟨.bG,H,I,rfl,h⟩
theorem AZ{x j pos}:PE X (.Constant (.str x) j pos) (tC (.str x)):=λ_ _ _ H _ I h=>Calls.Constant_str ⟨.str x,H,I.tok _,⟨_,rfl⟩,h⟩
def Gl(X:Cx)(x:Str):Prop:=X.env.kindOf x=some .globalImplicit
theorem jt(I:Inv X Oa σ H s)(hg:Gl X x)(hm:X.mg x=some u)(h:Q u s)
  (hd:autoParam ((x==("__debug__" : Str))=false) aD._auto_1):wpAny (model X.prog X.w) X.A (eval (.Name x pos) X.env) Q E s :=
 Wc I.ok.kind hg (Calls.loadGlobal_global (by rw[I.ok.glob];exact I.mod.glob.keeps I.bk) hm h) hd
theorem j9(I:Inv X Oa σ H s)(hg:Gl X x)(hm:X.mg x=none)(hv:bootBuiltins x=some u)(h:Q u s)
  (hn:autoParam (x ≠ "__name__") aD._auto_1) (hd:autoParam ((x==("__debug__" : Str))=false) aD._auto_1):wpAny (model X.prog X.w) X.A (eval (.Name x pos) X.env) Q E s:=by
 obtain⟨mb,h1,h2⟩:=I.mod.blt;exact Wc I.ok.kind hg (Calls.loadGlobal_builtin (by rw[I.ok.glob];exact I.mod.glob.keeps I.bk) hm (by rw[I.ok.blt];exact h1.keeps I.bk) ((h2 x hn).trans hv) h) hd
theorem tU(hg:Gl X x)(hm:X.mg x=some u)(r:RelV v u)(hd:autoParam ((x==("__debug__" : Str))=false) aD._auto_1):PE X (.Name x pos) (tC v) :=
 λ_ _ _ H _ I h=>jt I hg hm ⟨v,H,I,r,h⟩ hd
theorem f7(hg:Gl X x)(hm:X.mg x=none)(hv:bootBuiltins x=some u)(r:RelV v u)(hn:autoParam (x ≠ "__name__") aD._auto_1)(hd:autoParam ((x==("__debug__" : Str))=false) aD._auto_1):PE X (.Name x pos) (tC v) :=
 λ_ _ _ H _ I h=>j9 I hg hm hv ⟨v,H,I,r,h⟩ hn hd
variable{a b:Expr}{tb:TE}
def tB(t:TE):TT:=fun σ H Q=>t σ H λx H1=>∃ c,x=.bl c/\Q c H1
theorem Il{t:TE}(h:PE X e t)(he:autoParam (∀ whole,isTrue e X.env whole=(do let v <- whole;standAt e.pos;holding [v] (truthy v))) aI._auto_1):PT X e (tB t):=by
 intro Oa s σ H Q I hw;refine isTrue_plain (cU (h Oa s σ H _ I hw) λv s1 ⟨x,H1,I1,r1,q1⟩=>?_) (he _);obtain⟨d,rfl,q⟩:=q1;cases r1;exact Ut ⟨H1,I1,q⟩
variable{tA tB':TT}{rest:List Expr}
def N9(t u:TT):TT:=fun σ H Q=>t σ H λc H1=>if c=true then Q true H1 else u σ H1 Q
def Md(t:TT):TT:=fun σ H Q=>t σ H λc H1=>Q (!c) H1
theorem pw_or1(ha:PT X a tA):PW X (.BoolOp .Or [a] pos) tA:=by
 intro wh Oa s σ H Q I h;refine isTrue_or (cU (ha Oa s σ H Q I h) λc s1 e=>?_);cases c with
 | false=>exact isTrue_or_nil e
 | true=>exact e
theorem pw_or(ha:PT X a tA)(hb:PW X (.BoolOp .Or (b::rest) pos) tB'):PW X (.BoolOp .Or (a::b::rest) pos) (N9 tA tB'):=by
 intro wh Oa s σ H Q I h;refine isTrue_or (cU (ha Oa s σ H _ I h) λc s1 ⟨H1,I1,q1⟩=>?_);cases c with
 | true=>exact⟨H1,I1,q1⟩
 | false=>exact hb wh Oa s1 σ H1 Q I1 q1
theorem Hu(ha:PT X a tA):PT X (.UnaryOp .Not a pos) (Md tA):=by
 intro Oa s σ H Q I h;exact isTrue_not (ha Oa s σ H (λc H1=>Q (!c) H1) I h)
def Kf(ta tb:TE):TE:=fun σ H Q=>ta σ H λx H1=>∃ c,x=.bl c/\if c=true then tb σ H1 Q else Q (.bl false) H1
def JX(ta:TE):TE:=fun σ H Q=>ta σ H λx H1=>∃ c,x=.bl c/\Q (.bl (!c)) H1
theorem nL{op}{t:TE}(h:PE X a t):PE X (.BoolOp op [a] pos) t:=λOa s σ H Q I hw=>BoolOp_one (h Oa s σ H Q I hw)
theorem HE(ha:PE X a ta)(hb:PE X (.BoolOp .And (b::rest) pos) tb):PE X (.BoolOp .And (a::b::rest) pos) (Kf ta tb):=by
 intro Oa s σ H Q I h;refine BoolOp_and (cU (ha Oa s σ H _ I h) λv s1 ⟨x,H1,I1,r1,q1⟩=>?_);obtain⟨c,rfl,q1⟩:=q1;cases r1;refine Ut ?_;cases c with
 | true=>exact hb Oa s1 σ H1 Q I1 q1
 | false=>exact⟨.bl false,H1,I1,rfl,q1⟩
theorem HP(ha:PE X a ta):PE X (.UnaryOp .Not a pos) (JX ta):=by
 intro Oa s σ H Q I h;refine UnaryOp_ (cU (ha Oa s σ H _ I h) λv s1 ⟨x,H1,I1,r1,q1⟩=>?_);obtain⟨c,rfl,q1⟩:=q1;cases r1;exact not_of (Ut ⟨.bl (!c),H1,I1,rfl,q1⟩)
def NX(t:TT)(ta tb:TE):TE:=fun σ H Q=>t σ H λc H1=>if c=true then ta σ H1 Q else tb σ H1 Q
theorem BW(hc:PT X c tA)(ha:PE X a ta)(hb:PE X b tb):PE X (.IfExp c a b pos) (NX tA ta tb):=by
 intro Oa s σ H Q I h;refine wpAny_IfExp (cU (hc Oa s σ H _ I h) λd s1 ⟨H1,I1,q1⟩=>?_);cases d with
 | true=>exact ha Oa s1 σ H1 Q I1 q1
 | false=>exact hb Oa s1 σ H1 Q I1 q1
end
def gS(K:R5)(H:Hp)(a:Addr)(xs:List V):Prop :=
 Rd H a (.lst xs) ∨
  ∃ (o:Obj) (Og:Array Value) (n:Nat),K.lookup a=some o/\o.cls=.type "list" /\ o.dict=none/\o.data=.seq Og n/\Og.size<=sizeLine/\Vals xs Og.toList
def gk(K:R5)(H:Hp)(a:Addr)(xs:List V):Prop :=
 Rd H a (.tup xs) ∨
  ∃ (o:Obj) (Og:Array Value) (n:Nat),K.lookup a=some o/\o.cls=.type "tuple" /\ o.data=.seq Og n/\Og.size<=sizeLine/\Vals xs Og.toList
def Mc:Value->Option V
 | .none=>some .bG
 | .bool b=>some (.bl b)
 | .int i _=>some (.int i)
 | .str x _=>some (.str x)
 | .bytes b _=>some (.byt b)
 | .float b _=>some (.FW b)
 | .ref a=>some (.ref a)
 | .type n=>some (.ty n)
 | _=>none
theorem RelV.abs{x:V}(r:RelV x u):Mc u=some x:=by
 cases x with
 | bG=>cases r;rfl
 | bl _=>cases r;rfl
 | int _=>obtain⟨t,rfl⟩:=r;rfl
 | str _=>obtain⟨t,rfl⟩:=r;rfl
 | byt _=>obtain⟨t,rfl⟩:=r;rfl
 | FW _=>obtain⟨t,rfl⟩:=r;rfl
 | ref _=>cases r;rfl
 | ty _=>cases r;rfl
theorem RelV.inj{x y:V}{u:Value}(r:RelV x u)(q:RelV y u):x=y:=Sm (r.abs.symm.trans q.abs)
theorem Vals.inj:∀ {xs ys:List V} {us:List Value},Vals xs us->Vals ys us->xs=ys
 | _,_,_,.nil,.nil=>rfl
 | _,_,_,.cons r t,.cons r' t'=>by rw[r.inj r',Vals.inj t t']
section
variable{xs ys:List V}
theorem gS.of{K:R5}(h:H a=some (.lst xs)):gS K H a xs:=.inl (.inl h)
theorem gk.of{K:R5}(h:H a=some (.tup xs)):gk K H a xs:=.inl (.inl h)
theorem Inv.list(I:Inv X Oa σ H s)(h:gS X.K H a xs):∃ Og:List Value,Vals xs Og/\PlainL s.heap a Og.toArray/\xs.length<=sizeLine:=by
 rcases h with h | ⟨o,Og,n,hk,hc,hd,hs,hz,r⟩
 .obtain⟨z,Og,n,r,e⟩:=h.ok I.bJ;exact⟨Og,r,⟨_,n,e,rfl,rfl,rfl⟩,z⟩
 .refine⟨Og.toList,r,⟨o,n,I.hU a o hk,hc,hd,by simpa using hs⟩,?_⟩;have e:=r.length;simp only[V6] at e;lia
theorem Inv.tuple(I:Inv X Oa σ H s)(h:gk X.K H a xs):∃ Og:List Value,Vals xs Og/\IsTup s.heap a Og.toArray/\xs.length<=sizeLine:=by
 rcases h with h | ⟨o,Og,n,hk,hc,hs,hz,r⟩
 .obtain⟨z,Og,r,p⟩:=h.ok I.bJ;exact⟨Og,r,p,z⟩
 .refine⟨Og.toList,r,⟨o,I.hU a o hk,hc,n,by simpa using hs⟩,?_⟩;have e:=r.length;simp only[V6] at e;lia
theorem Inv.qG(I:Inv X Oa σ H s)(h:gS X.K H a xs)(h':gS X.K H a ys):xs=ys:=by
 obtain⟨Og,r,⟨o,n,e,_,_,d⟩,_⟩:=I.list h;obtain⟨its',r',⟨o',n',e',_,_,d'⟩,_⟩:=I.list h';rw[e] at e';cases e';rw[d] at d';injection d' with d1 _
 have:Og=its':=by simpa using congrArg Y6 d1
 subst this;exact r.inj r'
theorem Inv.m_(I:Inv X Oa σ H s)(h:gk X.K H a xs)(h':gk X.K H a ys):xs=ys:=by
 obtain⟨Og,r,⟨o,e,_,n,d⟩,_⟩:=I.tuple h;obtain⟨its',r',⟨o',e',_,n',d'⟩,_⟩:=I.tuple h';rw[e] at e';cases e';rw[d] at d';injection d' with d1 _
 have:Og=its':=by simpa using congrArg Y6 d1
 subst this;exact r.inj r'
end
abbrev Cx.qz(X:Cx)(E:Value->Shared->Prop):Cx:={ X with xe:=E }
theorem Cx.Ok.qz{X:Cx}(ok:X.Ok)(E:Value->Shared->Prop):(X.qz E).Ok :=
 ⟨ok.mod,ok.kind,ok.glob,ok.blt,ok.above,ok.inj,ok.has,ok.F7,ok.hd,ok.frames,ok.Gu,ok.Je,ok.bs,ok.Ao,ok.uk,ok.u0,ok.kK,ok.Dg⟩
theorem Cx.Ok.eD(ok:(X.qz E).Ok):X.Ok :=
 ⟨ok.mod,ok.kind,ok.glob,ok.blt,ok.above,ok.inj,ok.has,ok.F7,ok.hd,ok.frames,ok.Gu,ok.Je,ok.bs,ok.Ao,ok.uk,ok.u0,ok.kK,ok.Dg⟩
theorem Inv.qz(I:Inv X Oa σ H s)(E:Value->Shared->Prop):Inv (X.qz E) Oa σ H s:=⟨I.ok.qz E,I.os,I.bare,I.base,I.loc,I.cell,I.free,I.eQ,I.pin,I.bJ,I.len⟩
theorem Inv.eD(I:Inv (X.qz E) Oa σ H s):Inv X Oa σ H s:=⟨I.ok.eD,I.os,I.bare,I.base,I.loc,I.cell,I.free,I.eQ,I.pin,I.bJ,I.len⟩
theorem SP.eD{D:Ends}{f:Flow}{s':Shared}(h:SP (X.qz E) Oa D f s'):SP X Oa D f s':=by
 cases f with
 | next=>obtain⟨σ',H',I,q⟩:=h;exact⟨σ',H',I.eD,q⟩
 | brk=>obtain⟨σ',H',I,q⟩:=h;exact⟨σ',H',I.eD,q⟩
 | cont=>obtain⟨σ',H',I,q⟩:=h;exact⟨σ',H',I.eD,q⟩
 | ret u=>obtain⟨v,σ',H',I,r,q⟩:=h;exact⟨v,σ',H',I.eD,r,q⟩
variable{te:TE}
variable{tc:TT}
section
variable{st:Stmt}{rest:List Stmt}{t u:TS}
def JP:TS:=λD σ H=>D.nx σ H
def LS(t u:TS):TS:=λD σ H=>t { D with nx:=u D } σ H
theorem ya:kO X [] JP:=λ_ _ σ H _ I h=>Vd ⟨σ,H,I,h⟩
theorem vc(h1:PS X st t)(h2:kO X rest u):kO X (st::rest) (LS t u):=by
 intro Oa s σ H D I h;refine wpAny_execs_cons (cU (h1 Oa s σ H { D with nx:=u D } I h) λf s1 q=>?_);cases f with
 | next =>
  obtain⟨σ',H',I',q⟩:=q;exact h2 Oa s1 σ' H' D I' q
 | ret v=>exact q
 | brk=>exact q
 | cont=>exact q
theorem xT(h1:PS X st t):kO X [st] t:=by
 intro Oa s σ H D I h;refine wpAny_execs_cons (cU (h1 Oa s σ H D I h) λf s1 q=>?_);cases f with
 | next=>exact Vd q
 | ret v=>exact q
 | brk=>exact q
 | cont=>exact q
theorem Inv.quiet(I:Inv X Oa σ H s):interactive X.env=false:=by simp[interactive,I.ok.kind]
def Ji(te:TE):TS:=λD σ H=>te σ H λ_ H1=>D.nx σ H1
theorem pd(he:PE X e te)(hs:autoParam (swapsWith e none pos.line X.env=pure false) aR._auto_1):PS X (.Expr e pos) (Ji te):=by
 intro Oa s σ H D I h;exact wpAny_Expr_any (cU (he Oa s σ H _ I h) λv s1 ⟨x,H1,I1,r1,q1⟩=>⟨σ,H1,I1,q1⟩) I.quiet hs
def M5(te:TE):TS:=λD σ H=>te σ H D.rt
theorem AO(he:PE X e te):PS X (.Return (some e) pos) (M5 te):=by
 intro Oa s σ H D I h;exact wpAny_Return_some (cU (he Oa s σ H _ I h) λv s1 ⟨x,H1,I1,r1,q1⟩=>⟨x,σ,H1,I1,r1,q1⟩)
def MT(c:TT)(t u:TS):TS:=λD σ H=>c σ H λb H1=>if b=true then t D σ H1 else u D σ H1
theorem Ki{a b:List Stmt}(hc:PT X c tc)(ha:kO X a t)(hb:kO X b u):PS X (.If c a b pos) (MT tc t u):=by
 intro Oa s σ H D I h;refine wpAny_If (cU (hc Oa s σ H _ I h) λd s1 ⟨H1,I1,q1⟩=>?_);cases d with
 | true=>exact ha Oa s1 σ H1 D I1 q1
 | false=>exact hb Oa s1 σ H1 D I1 q1
end
abbrev TG:=V->St->Hp->(St->Hp->Prop)->Prop
abbrev GX:=List V->St->Hp->(St->Hp->Prop)->Prop
def PG(X:Cx)(target:Expr)(t:TG):Prop :=
 ∀ (Oa:List (Addr×Obj)) (s:Shared) (σ:St) (H:Hp) (v:V) (u:Value) (Q:St->Hp->Prop),Inv X Oa σ H s->RelV v u->t v σ H Q ->
  wpAny (model X.prog X.w) X.A (assign target X.env u) (λ_ s'=>∃ σ' H',Inv X Oa σ' H' s'/\Q σ' H') X.xe s
def K0(X:Cx)(ts:List Expr)(t:GX):Prop :=
 ∀ (Oa:List (Addr×Obj)) (s:Shared) (σ:St) (H:Hp) (vs:List V) (us:List Value) (Q:St->Hp->Prop),Inv X Oa σ H s->Vals vs us->t vs σ H Q ->
  wpAny (model X.prog X.w) X.A (assignInOrder ((assignEach ts X.env).map (·.2)) us) (λ_ s'=>∃ σ' H',Inv X Oa σ' H' s'/\Q σ' H') X.xe s
abbrev GH:=V->V->V->Hp->(Hp->Prop)->Prop
def Kt(X:Cx)(t:GH):Prop :=
 ∀ (Oa:List (Addr×Obj)) (s:Shared) (σ:St) (H:Hp) (o i v:V) (ov iv u:Value) (Q:Hp->Prop),Inv X Oa σ H s->RelV o ov->RelV i iv->RelV v u->t o i v H Q ->
  wpAny (model X.prog X.w) X.A (setItem ov iv u) (λ_ s'=>∃ H',Inv X Oa σ H' s'/\Q H') X.xe s
variable{es:List Expr}
variable{n k:Nat}
variable{tg:Expr}
def aH(i:Nat):TG:=λv σ H Q=>Q (σ.set i (some v)) H
theorem Ed(hN:X.N.Nodup)(hi:X.N[i]?=some x)(hx:Loc X.env.scope x)(hf:autoParam (X.fn x=true\/X.env.scope.names.lookup x=some .local) aF._auto_1):PG X (.Name x pos) (aH i):=by
 intro Oa s σ H v u Q I r h;exact Ww (jU I hN hi hx r (λs' I'=>⟨_,H,I',h⟩) hf)
def fP:GX:=λvs σ H Q=>vs=[]/\Q σ H
def bg(t:TG)(u:GX):GX:=λvs σ H Q=>∃ v r,vs=v::r/\t v σ H fun σ' H'=>u r σ' H' Q
theorem bO:K0 X [] fP:=by
 intro Oa s σ H vs us Q I r h;obtain⟨e,h⟩:=h;subst e;cases r;exact XX ⟨σ,H,I,h⟩
theorem aB{t:TG}{u:GX}(h1:PG X e t)(h2:K0 X es u)
  (hs:autoParam ((assignEach (e::es) X.env).map (·.2)=assign e X.env::(assignEach es X.env).map (·.2)) aR._auto_1):K0 X (e::es) (bg t u):=by
 intro Oa s σ H vs us Q I r h;obtain⟨v,vr,e1,h⟩:=h;subst e1;cases r with
 | cons r rr =>
  rw[hs];refine Wd (cU (h1 Oa s σ H _ _ _ I r h) λ_ s1 ⟨σ1,H1,I1,q1⟩=>?_);exact h2 Oa s1 σ1 H1 _ _ Q I1 rr q1
def fN(K:R5)(n:Nat)(t:GX):TG:=λv σ H Q=>∃ a xs,v=.ref a/\gk K H a xs/\xs.length=n/\t xs σ H Q
theorem cK{t:GX}(hc:X.calm=true)(h:K0 X es t)
  (hn:autoParam ((assignEach es X.env).length=n) aR._auto_1) (O6:autoParam ((assignEach es X.env).findIdx? (·.1)=none) aR._auto_1):PG X (.Tuple es k pos) (fN X.K n t):=by
 intro Oa s σ H v u Q I r hw;obtain⟨a,xs,e1,hq,hl,hw⟩:=hw;subst e1;cases r;obtain⟨Og,rv,ht,hz⟩:=I.tuple hq;refine assign_Tuple_tuple (I.ok.hd hc) ht (by simp[hn,<- hl,rv.length]) O6 λh' hx=>?_;have I1:Inv X Oa σ H { s with heap:=h' }:=I.kept (t':=s.toks) λb o e=>hx b o (So (Sa e)) e;exact h Oa _ σ H xs _ Q I1 (by simpa using rv) hw
def M_(to ti:TE)(t:GH):TG:=λv σ H Q=>to σ H λo H1=>ti σ H1 λi H2=>t o i v H2 λH3=>Q σ H3
theorem Gq{o i:Expr}{to ti:TE}{t:GH}(ho:PE X o to)(hi:PE X i ti)(hs:Kt X t)
  (ha:autoParam (∀ v,assign (.Subscript o i pos) X.env v=(do
   let ov <- holding [v] (eval o X.env)
   let iv <- holding [v,ov] (eval i X.env)
   standAt pos
   holding [v,ov,iv] (setItem ov iv v)
   release [v,ov,iv] [])) aI._auto_1):PG X (.Subscript o i pos) (M_ to ti t):=by
 intro Oa s σ H v u Q I r h;rw[ha];refine R4 (T9 (cU (ho Oa s σ H _ I h) λov s1 ⟨x,H1,I1,r1,q1⟩=>?_));refine R4 (T9 (cU (hi Oa s1 σ H1 _ I1 q1) λiv s2 ⟨y,H2,I2,r2,q2⟩=>?_));refine R4 (UR (R4 (T9 (cU (hs Oa s2 σ H2 x y v ov iv u _ I2 r1 r2 r q2) λ_ s3 ⟨H3,I3,q3⟩=>?_))));exact wpAny_release ⟨σ,H3,I3,q3⟩
def Ex(te:TE)(g:TG):TS:=λD σ H=>te σ H λx H1=>g x σ H1 D.nx
theorem Ce{g:TG}(he:PE X e te)(hg:PG X tg g)(hs:autoParam (swapsWithSole [tg] e pos.line X.env=pure false) aR._auto_1)(hw:autoParam (swappedStores [tg] e X.env=pure none) aR._auto_1)
  (h1:autoParam ((assignEach [tg] X.env).map (·.2)=[assign tg X.env]) aR._auto_1):PS X (.Assign [tg] e pos) (Ex te g):=by
 intro Oa s σ H D I h;refine wpAny_Assign_stores (cU (he Oa s σ H _ I h) λv s1 ⟨x,H1,I1,r1,q1⟩=>?_) hs hw;rw[h1];exact cU (hg Oa s1 σ H1 x v _ I1 r1 q1) λ_ s2 q=>q
theorem Dq{pos':Pos}(hN:X.N.Nodup)(hi:X.N[i]?=some x)(hx:Loc X.env.scope x)(he:PE X e te)(hs:autoParam (swapsWith e (some (.Name x pos')) pos.line X.env=pure false) aR._auto_1)(hf:autoParam (X.fn x=true\/X.env.scope.names.lookup x=some .local) aF._auto_1) :
  PS X (.Assign [.Name x pos'] e pos) (Ex te (aH i)):=by
 intro Oa s σ H D I h;refine wpAny_Assign_Name (cU (he Oa s σ H _ I h) λv s1 ⟨y,H1,I1,r1,q1⟩=>?_) hs;exact jU I1 hN hi hx r1 (λs2 I2=>⟨_,H1,I2,q1⟩) hf
def Mj(i j:Nat)(ta:TA):TS:=λD σ H=>ta σ H λvs H1=>∃ v w,vs=[v,w]/\D.nx ((σ.set i (some v)).set j (some w)) H1
theorem IF{j:Nat}{y:Str}{a b:Expr}{ta:TA}{px py pt:Pos}{kt k2 Rp}(hc:X.calm=true)(hN:X.N.Nodup)(hi:X.N[i]?=some x)(hj:X.N[j]?=some y)(hij:i≠j)
  (hx:X.env.scope.names.lookup x=some .local) (hy:X.env.scope.names.lookup y=some .local) (ha:PA X [a,b] ta)
  (hw:swappedStores [.Tuple [.Name x px,.Name y py] kt pt] (.Tuple [a,b] k2 Rp) X.env=pure (some [x,y]))
  (hs:autoParam (swapsWithSole [.Tuple [.Name x px,.Name y py] kt pt] (.Tuple [a,b] k2 Rp) pos.line X.env=pure false) aR._auto_1) :
  PS X (.Assign [.Tuple [.Name x px,.Name y py] kt pt] (.Tuple [a,b] k2 Rp) pos) (Mj i j ta):=by
 intro Oa s σ H D I h;rw[exec_Assign_arm];refine R4 (UR ?_);rw[hs];refine R4 (R9 ?_);rw[if_neg (by decide)];refine R4 (Tuple_ (cU (ha _ Oa s σ H _ I h) λus s1 ⟨vs,H1,I1,r1,q1⟩=>?_));obtain⟨v,w,e1,q1⟩:=q1;subst e1;obtain⟨u1,u2,rfl,rv,Qf⟩:∃ u1 u2,us=[u1,u2]/\RelV v u1/\RelV w u2:=by
  cases r1 with
  | cons p q =>
   cases q with
   | cons p' q' =>
    cases q';exact⟨_,_,rfl,p,p'⟩
 refine Tz ?_ (by show 2<=sizeLine;decide);have I2:Inv X Oa σ H1 { s1 with heap:=s1.heap.push { cls:=.type "tuple", data:=.seq [u1,u2].toArray } }:=I1.kept (t':=s1.toks) λb o e=>R6 _ e;rw[hw];refine R4 (R9 ?_);show wpAny (model X.prog X.w) X.A (do rule "assign.swapped-stores";let items <- unpackItems (.ref s1.heap.objs.size) 2 none;assignInOrder [λv=>bindName X.env y v,λv=>bindName X.env x v] items.reverse;pure VD) _ _ _;refine R4 (VE (R4 (unpackItems_tuple (items:=#[u1,u2]) (I.ok.hd hc) (Xo s1.heap _) λh' hx'=>?_)));have I3:=I2.kept (h':=h') (t':=s1.toks) λb o e=>hx' b o (So (Sa e)) e;show wpAny _ _ (assignInOrder [λv=>bindName X.env y v,λv=>bindName X.env x v] [u2,u1] >>= λ_=>pure VD) _ _ _;refine R4 (Wd (wpAny_bindName (jU I3 hN hj (.inl hy) Qf (λs2 I4=>?_) (.inr hy))));refine Wd (wpAny_bindName (jU I4 hN hi (.inl hx) rv (λs3 I5=>XX (R9 ?_)) (.inr hx)));rw[List.set_comm _ _ (T7 hij)] at I5;exact⟨_,H1,I5,q1⟩
variable{tb:TS}{body:List Stmt}
def Gk(c:TT)(tb:TS):TS:=λD σ H=>∃ W:Nat->St->Hp->Prop,(∃ m,W m σ H)/\∀ m σ H,W m σ H ->
 c σ H λb H1=>if b=true then ∃ N:St->Hp->Prop,(∀ σ' H',N σ' H'->∃ m',m'<m/\W m' σ' H')/\tb { D with nx:=N,ct:=N,bk:=D.nx } σ H1 else D.nx σ H1
theorem C6(hp:PassesOwn (model X.prog X.w) X.A X.env X.xe)(hc:PT X c tc)(hb:kO X body tb):PS X (.While c body [] pos) (Gk tc tb):=by
 intro Oa s σ H D I h;obtain⟨W,⟨m0,w0⟩,turn⟩:=h;refine wpAny_While (codeAny_whileLoop (λn s'=>∃ σ' H',Inv X Oa σ' H' s'/\W n σ' H') ?_ m0 ⟨σ,H,I,w0⟩);rintro n s1 ⟨σ1,H1,I1,w1⟩;refine Ur hp (cU (hc Oa s1 σ1 H1 _ I1 (turn n σ1 H1 w1)) λb s2 ⟨H2,I2,q2⟩=>?_);cases b with
 | true =>
  obtain⟨N,hN,q2⟩:=q2;rw[if_pos rfl];refine Ur hp (cU (hb Oa s2 σ1 H2 _ I2 q2) λf s3 q3=>?_);cases f with
  | next =>
   obtain⟨σ3,H3,I3,n3⟩:=q3;obtain⟨m',hm,w3⟩:=hN σ3 H3 n3;exact⟨m',hm,σ3,H3,I3,w3⟩
  | cont =>
   obtain⟨σ3,H3,I3,n3⟩:=q3;obtain⟨m',hm,w3⟩:=hN σ3 H3 n3;exact⟨m',hm,σ3,H3,I3,w3⟩
  | brk=>exact q3
  | ret v=>exact q3
 | false =>
  rw[if_neg To];exact Vd ⟨σ1,H2,I2,q2⟩
structure It where
 go:Nat->Hp->Prop
 wo:Nat->Hp->V->Hp->Prop
 stop:Nat->Hp->Prop
def ni(X:Cx)(Oa:List (Addr×Obj))(H:Hp)(b:Addr):Prop :=
 H b=none/\b≠X.env.locals/\b ∉ X.fs/\(b∈X.ex\/X.s₀.heap.objs.size<=b)/\(∀ x c,X.env.cells.lookup x=some c->c≠b)/\∀ p∈X.pn++Oa,p.1≠b
theorem Inv.vI(I:Inv X Oa σ H s)(hb:s.heap.objs.size<=b)(hn:H' b=none):ni X Oa H' b:=by
 refine⟨hn,UK (Sh I.lt hb),I.LR hb,.inr (SE I.sz hb),λx c e z=>?_,λp hp z=>?_⟩
 .obtain⟨v,q⟩:=I.cell x c e;exact absurd (Sh q.lt (by rw[z];exact hb)) (Uw _)
 .exact absurd (Sh (Sa (I.pin p hp).1) (by rw[z];exact hb)) (Uw _)
structure Turn (P:Program) (w:World) (K:R5) (tg:Expr) (J:It) (fp:List Addr) (it:Addr) (tn:Nat->Heap->Prop):Prop where
 mem:it∈fp
 obj:∀ i h,tn i h->∀ b∈fp,∃ o,h.get? b=some o/\∀ v,o.data≠.cell v
 keep:∀ i h h',tn i h->(∀ b∈fp,∀ o,h.get? b=some o->h'.get? b=some o)->tn i h'
 item:∀ (X:Cx),X.prog=P->X.w=w->X.K=K->X.calm=true->∀ (i:Nat) (Oa:List (Addr×Obj)) (s:Shared) (σ:St) (H:Hp) (E:Value->Shared->Prop),Inv X Oa σ H s->(∀ b∈fp,ni X Oa H b)->tn i s.heap->J.go i H ->
  wpAny (model P w) X.A (pyNext (.ref it)) (λr s1=>∃ u,r=some u ∧
   wpAny (model P w) X.A (letOwnedTupleGo tg (.ref it) u) (λ_ s2=>∃ x H',Inv X Oa σ H' s2/\RelV x u/\J.wo i H x H'/\tn (i+1) s2.heap/\∀ b∈fp,H' b=none) E s1) E s
 done:∀ (X:Cx),X.prog=P->X.w=w->X.K=K->X.calm=true->∀ (i:Nat) (Oa:List (Addr×Obj)) (s:Shared) (σ:St) (H:Hp) (E:Value->Shared->Prop),Inv X Oa σ H s->(∀ b∈fp,ni X Oa H b)->tn i s.heap->J.stop i H ->
  wpAny (model P w) X.A (pyNext (.ref it)) (λr s1=>r=none/\Inv X Oa σ H s1) E s
 self:∀ (A:Around) (i:Nat) (s:Shared) (Q:Value->Shared->Prop) (E:Value->Shared->Prop),tn i s.heap->Q (.ref it) s->wpAny (model P w) A (pyIter (.ref it)) Q E s
abbrev TI:=St->Hp->(It->Hp->Prop)->Prop
def M4(X:Cx)(Oa:List (Addr×Obj))(σ:St)(tg:Expr)(R:It->Hp->Prop)(itv:Value)(s2:Shared):Prop :=
 ∃ (it:Addr) (fp:List Addr) (tn:Nat->Heap->Prop) (J:It) (H':Hp),itv=.ref it/\Inv X Oa σ H' s2/\Turn X.prog X.w X.K tg J fp it tn/\tn 0 s2.heap/\(∀ b∈fp,ni X Oa H' b)/\R J H'
def PI(X:Cx)(tg iter:Expr)(wi:TI):Prop :=
 ∀ (Oa:List (Addr×Obj)) (s:Shared) (σ:St) (H:Hp) (R:It->Hp->Prop),Inv X Oa σ H s->wi σ H R ->
  wpAny (model X.prog X.w) X.A (eval iter X.env) (λv s1=>wpAny (model X.prog X.w) X.A (pyIter v) (M4 X Oa σ tg R) X.xe s1) X.xe s
theorem yn {M : Model} {n : String} {vs : Array Value} {Q : Unit -> Shared -> Prop} (ho : s.heap.get? it = some o) (hc : o.cls = .type n) (hd : o.data = .fields vs)
    (hn : ["enumerate", "zip", "dict_itemiterator", "dict_reverseitemiterator", "odict_iterator", "itertools.zip_longest", "itertools.pairwise"].contains n = false) (hQ : Q () s) : wpAny M A (letOwnedTupleGo tg (.ref it) u) Q E s := by
  unfold letOwnedTupleGo;cases tg <;> first
    | exact R9 hQ
    | (cases u <;> first
        | exact R9 hQ
        | (refine R4 (wpAny_load ho ?_)
           rw [hc, hd];show wpAny M A (if (["enumerate", "zip", "dict_itemiterator", "dict_reverseitemiterator", "odict_iterator", "itertools.zip_longest", "itertools.pairwise"].contains n && vs[0]? == some (rawInt _)) = true then _ else _) Q E s;rw [if_neg (by intro h; rw [hn, Xg] at h; cases h)];exact R9 hQ))
def NB(K:R5)(a:Addr):It :=
 ⟨λi H=>∃ xs x,gS K H a xs/\xs[i]?=some x,λi H x H'=>H'=H/\∀ xs,gS K H a xs->xs[i]?=some x,λi H=>∃ xs,gS K H a xs/\xs.length<=i⟩
def Nn(K:R5)(a:Addr):It :=
 ⟨λi H=>∃ xs x,gk K H a xs/\xs[i]?=some x,λi H x H'=>H'=H/\∀ xs,gk K H a xs->xs[i]?=some x,λi H=>∃ xs,gk K H a xs/\xs.length<=i⟩
def JR(lo:Int)(n:Nat):It:=⟨λi _=>i<n,λi H x H'=>H'=H/\x=.int (lo+i),λi _=>n<=i⟩
theorem z8{K:R5}(a it:Addr):Turn P w K tg (NB K a) [it] it (λi h=>h.IsListIter it a i) where
 mem:=by simp
 obj:=λi h st b hb=>by
  have e:b=it:=by simpa using hb
  subst e;obtain⟨o,e,c,d⟩:=st;exact⟨o,e,λv z=>by rw[d] at z;cases z⟩
 keep:=λi h h' st k=>st.at λo e=>k it (by simp) o e
 item:=by
  intro X hP hw hK hc i Oa s σ H E I hf st hg;subst hP hw hK;obtain⟨xs,x,hq,hx⟩:=hg;obtain⟨Og,rv,p,hz⟩:=I.list hq;obtain⟨u,hu,ru⟩:=rv.get hx;obtain⟨f0,f1,f2,f3,f4,f5⟩:=hf it (by simp);refine wpAny_pyNext_list_item st p.isList (x:=u) (by simpa using hu) λh' QF sb=>?_;have I1:Inv X Oa σ H { s with heap:=h' }:=I.turned (t':=s.toks) (λb o hb e=>(sb.2 b hb).trans e) f0 f1 f3 f4 f5;obtain⟨o,e,c,d⟩:=id QF;exact⟨u,rfl,yn (s:={ s with heap:=h' }) e c d (by decide) ⟨x,H,I1,ru,⟨rfl,λys hy=>by rw[I.qG hy hq];exact hx⟩,QF,λb hb=>(hf b hb).1⟩⟩
 done:=by
  intro X hP hw hK hc i Oa s σ H E I hf st hg;subst hP hw hK;obtain⟨xs,hq,hx⟩:=hg;obtain⟨Og,rv,p,hz⟩:=I.list hq;obtain⟨f0,f1,f2,f3,f4,f5⟩:=hf it (by simp);have hl:=rv.length;exact wpAny_pyNext_list_end (I.ok.hd hc) st p.isList (by simp;lia) λh' eb=>⟨rfl,I.turned (t':=s.toks) (λb o hb e=>eb b o hb e) f0 f1 f3 f4 f5⟩
 self:=λ_ _ _ _ _ st h=>wpAny_pyIter_listiter st h
theorem w4{K:R5}(a it:Addr):Turn P w K tg (Nn K a) [it] it (λi h=>h.IsTupleIter it a i) where
 mem:=by simp
 obj:=λi h st b hb=>by
  have e:b=it:=by simpa using hb
  subst e;obtain⟨o,e,c,d⟩:=st;exact⟨o,e,λv z=>by rw[d] at z;cases z⟩
 keep:=λi h h' st k=>st.at λo e=>k it (by simp) o e
 item:=by
  intro X hP hw hK hc i Oa s σ H E I hf st hg;subst hP hw hK;obtain⟨xs,x,hq,hx⟩:=hg;obtain⟨Og,rv,p,hz⟩:=I.tuple hq;obtain⟨u,hu,ru⟩:=rv.get hx;obtain⟨f0,f1,f2,f3,f4,f5⟩:=hf it (by simp);refine wpAny_pyNext_tuple_item st (show s.heap.IsTuple a Og.toArray from p) (x:=u) (by simpa using hu) λh' QF sb=>?_;have I1:Inv X Oa σ H { s with heap:=h' }:=I.turned (t':=s.toks) (λb o hb e=>(sb.2 b hb).trans e) f0 f1 f3 f4 f5;obtain⟨o,e,c,d⟩:=id QF;exact⟨u,rfl,yn (s:={ s with heap:=h' }) e c d (by decide) ⟨x,H,I1,ru,⟨rfl,λys hy=>by rw[I.m_ hy hq];exact hx⟩,QF,λb hb=>(hf b hb).1⟩⟩
 done:=by
  intro X hP hw hK hc i Oa s σ H E I hf st hg;subst hP hw hK;obtain⟨xs,hq,hx⟩:=hg;obtain⟨Og,rv,p,hz⟩:=I.tuple hq;obtain⟨f0,f1,f2,f3,f4,f5⟩:=hf it (by simp);have hl:=rv.length;exact wpAny_pyNext_tuple_end (I.ok.hd hc) st (show s.heap.IsTuple a Og.toArray from p) (by simp;lia) λh' eb=>⟨rfl,I.turned (t':=s.toks) (λb o hb e=>eb b o hb e) f0 f1 f3 f4 f5⟩
 self:=λ_ _ _ _ _ st h=>wpAny_pyIter_tupleiter st h
theorem xG{K:R5}(it:Addr)(lo:Int)(n:Nat):Turn P w K tg (JR lo n) [it] it (λi h=>IsRangeIter h it (lo+(i:Nat)*1) ((n:Int)-(i:Nat)) 1) where
 mem:=by simp
 obj:=λi h st b hb=>by
  have e:b=it:=by simpa using hb
  subst e;exact⟨_,st,λv z=>by
   have z':Data.fields _=Data.cell v:=z;cases z'⟩
 keep:=λi h h' st k=>k it (by simp) _ st
 item:=by
  intro X hP hw hK hc i Oa s σ H E I hf st hg;subst hP hw hK;obtain⟨f0,f1,f2,f3,f4,f5⟩:=hf it (by simp);have W:=Y9 (prog:=X.prog) (w:=X.w) (I.ok.hd hc) it lo 1 n;refine W.item i s _ _ hg st λv h' tk hv QF kk=>?_;obtain⟨t,rfl⟩:=hv;have I1:Inv X Oa σ H { s with heap:=h',toks:=tk }:=I.turned (λb o hb e=>kk b o (by simpa using hb) e) f0 f1 f3 f4 f5;refine⟨_,rfl,yn (s:={ s with heap:=h',toks:=tk }) (n := "range_iterator") QF rfl rfl (by decide) ⟨.int (lo+i),H,I1,⟨t,?_⟩,⟨rfl,rfl⟩,QF,λb hb=>(hf b hb).1⟩⟩;rw[Int.mul_one]
 done:=by
  intro X hP hw hK hc i Oa s σ H E I hf st hg;subst hP hw hK;obtain⟨f0,f1,f2,f3,f4,f5⟩:=hf it (by simp);exact WU (I.ok.hd hc) st (by have:n<=i:=hg;lia) λh' eb=>⟨rfl,I.turned (t':=s.toks) (λb o hb e=>eb b o hb e) f0 f1 f3 f4 f5⟩
 self:=λ_ _ _ _ _ st h=>WV st h
variable{p:Pos}
variable{fp:List Addr}
theorem uS{R:It->Hp->Prop}{lo hi:Int}{t u v:Tok}{tk:Nat}(I:Inv X Oa σ H s)(h1:-(2^62)<=lo)(h2:lo<2^62)(h3:-(2^62)<=hi)(h4:hi<2^62)
  (q:R (JR lo (hi-lo).toNat) H):wpAny (model X.prog X.w) X.A (pyIter (.ref s.heap.objs.size)) (M4 X Oa σ tg R) E { s with heap:=s.heap.push { cls:=.type "range", data:=.fields #[.int lo t,.int hi u,.int 1 v] },toks:=tk }:=by
 refine Xz (Y_ ..) (small_one h1 h2 h3 h4) ?_;have I1:Inv X Oa σ H { s with heap:=s.heap.push { cls:=.type "range", data:=.fields #[.int lo t,.int hi u,.int 1 v] },toks:=tk }:=I.kept λb o e=>R6 _ e;refine⟨(s.heap.push { cls:=.type "range", data:=.fields #[.int lo t,.int hi u,.int 1 v] }).objs.size,[(s.heap.push { cls:=.type "range", data:=.fields #[.int lo t,.int hi u,.int 1 v] }).objs.size],_,_,H,rfl,
  I1.kept (t':=tk) λb o e=>R6 _ e,xG _ lo (hi-lo).toNat,?_,λb hb=>?_,q⟩
 .have e1:lo+((0:Nat):Int)*1=lo:=by simp
  have e2:(((hi-lo).toNat:Nat):Int)-((0:Nat):Int)=Sy lo hi 1:=by rw[rangeSize_one];split <;> lia
  show IsRangeIter _ _ (lo+((0:Nat):Int)*1) ((((hi-lo).toNat:Nat):Int)-((0:Nat):Int)) 1;rw[e1,e2];exact Sg _ rfl
 .have e:b=(s.heap.push { cls:=.type "range", data:=.fields #[.int lo t,.int hi u,.int 1 v] }).objs.size:=by simpa using hb
  subst e;exact I1.vI (Se _) (I1.bJ.fresh (Se _))
def FJ(ta:TA):TI:=fun σ H R=>ta σ H λvs H1=>∃ j:Int,vs=[.int j]/\-(2^62)<=j/\j<2^62/\R (JR 0 j.toNat) H1
def FF(ta:TA):TI:=fun σ H R=>ta σ H λvs H1=>∃ i j:Int,vs=[.int i,.int j]/\(-(2^62)<=i/\i<2^62/\-(2^62)<=j/\j<2^62)/\R (JR i (j-i).toNat) H1
theorem i9{a:Expr}{ta:TA}(hg:Gl X "range")(hm:X.mg "range" = none)(ha:PA X [a] ta)(hs:autoParam (starEach [a] X.env=[(false,eval a X.env)]) aR._auto_1):PI X tg (.Call (.Name "range" p) [a] [] pos) (FJ ta):=by
 intro Oa s σ H R I h;refine Call_ (j9 I hg hm YR (Tf (cU (ha pos Oa s σ H _ I h) λus s1 ⟨vs,H1,I1,r1,q1⟩=>?_) hs rfl));obtain⟨j,e,q1,q2,q⟩:=q1;subst e;cases r1 with
 | cons r rr =>
  cases rr;obtain⟨t,rfl⟩:=r;exact call_range_1 (uS I1 (by lia) (by lia) q1 q2 (by simpa using q))
theorem rG{a b:Expr}{ta:TA}(hg:Gl X "range")(hm:X.mg "range" = none)(ha:PA X [a,b] ta)(hs:autoParam (starEach [a,b] X.env=[(false,eval a X.env),(false,eval b X.env)]) aR._auto_1)(P8:autoParam (starEach [b] X.env=[(false,eval b X.env)]) aR._auto_1) :
  PI X tg (.Call (.Name "range" p) [a,b] [] pos) (FF ta):=by
 intro Oa s σ H R I h;refine Call_ (j9 I hg hm YR (Tf (cU (ha pos Oa s σ H _ I h) λus s1 ⟨vs,H1,I1,r1,q1⟩=>?_) (by rw[hs,P8]) (by rw[P8];rfl)));obtain⟨i,j,e,⟨q1,q2,q3,q4⟩,q⟩:=q1;subst e;cases r1 with
 | cons r rr =>
  cases rr with
  | cons r' rr =>
   cases rr;obtain⟨t,rfl⟩:=r;obtain⟨t',rfl⟩:=r';exact call_range_2 (uS I1 q1 q2 q3 q4 q)
def Lh(wi:TI)(g:TG)(tb:TS):TS:=λD σ H=>wi σ H λJ H1=>∃ W:Nat->Nat->St->Hp->Prop,(∃ m,W 0 m σ H1)/\∀ i m σ H,W i m σ H ->
 (J.stop i H/\D.nx σ H)\/(J.go i H/\∃ N:St->Hp->Prop,(∀ σ' H',N σ' H'->∃ m',m'<m/\W (i+1) m' σ' H')/\∀ x H',J.wo i H x H'->g x σ H' fun σ2 H2=>tb { D with nx:=N,ct:=N,bk:=D.nx } σ2 H2)
def mP(fp:List Addr)(h:Heap):List (Addr×Obj):=fp.filterMap λb=>(h.get? b).map λo=>(b,o)
theorem jd(hb:b∈fp)(e:h.get? b=some o):(b,o)∈mP fp h:=XA.mpr ⟨b,hb,by rw[e];rfl⟩
theorem Am{p:Addr×Obj}(hp:p∈mP fp h):p.1∈fp/\h.get? p.1=some p.2:=by
 obtain⟨b,hb,e⟩:=XA.mp hp;cases q:h.get? b with
 | none=>rw[q] at e;cases e
 | some o =>
  rw[q] at e;have e':(b,o)=p:=Sm e;subst e';exact⟨hb,q⟩
theorem Inv.pinned(I:Inv X Oa σ H s)(hf:∀ b∈fp,ni X Oa H b)(ho:∀ b∈fp,∃ o,s.heap.get? b=some o/\∀ v,o.data≠.cell v):Inv X (Oa++mP fp s.heap) σ H s :=
 I.yg λp hp=>(VY.mp hp).elim (λz=>I.pin p (SQ _ z)) λz=>by
  obtain⟨hb,e⟩:=Am z;obtain⟨f0,f1,f2,_⟩:=hf p.1 hb;obtain⟨o,e',d⟩:=ho p.1 hb;rw[e] at e';cases e';exact⟨e,f0,f1,f2,d⟩
theorem Inv.ma{pl:List (Addr×Obj)}(I:Inv X (Oa++pl) σ H s):Inv X Oa σ H s:=I.yg λp hp=>I.pin p (SQ _ (VQ _ hp))
theorem Gz{iter:Expr}{wi:TI}{g:TG}(hp:PassesOwn (model X.prog X.w) X.A X.env X.xe)(hc:X.calm=true)(hi:PI X tg iter wi)(hg:PG X tg g)(hb:kO X body tb)
  (hs:autoParam (∀ x,foldedSetIterable iter X.env x=pure x) aI._auto_1):PS X (.For tg iter body [] pos) (Lh wi g tb):=by
 intro Oa s σ H D I h;refine wpAny_For (cU (hi Oa s σ H _ I h) λv s1 h1=>cU h1 λitv s2 h2=>?_) hs;obtain⟨it,fp,tn,J,H2,e,I2,T,Q0,f2,W,⟨m0,w0⟩,turn⟩:=h2;subst e;have Qu:∀ {H':Hp},(∀ b∈fp,H' b=none)->∀ b∈fp,ni X Oa H' b:=λhn b hb=>⟨hn b hb,(f2 b hb).2⟩
 refine codeAny_forLoop_any (λn s'=>∃ i σ' H',Inv X Oa σ' H' s'/\tn i s'.heap/\(∀ b∈fp,H' b=none)/\W i n σ' H') ?_ m0 ⟨0,σ,H2,I2,Q0,λb hb=>(f2 b hb).1,w0⟩;rintro n s3 ⟨i,σ3,H3,I3,Ry,fr3,w3⟩;rcases turn i n σ3 H3 w3 with ⟨stop,qn⟩ | ⟨go,N,hN,step⟩
 .refine Ur hp (cU (T.done X rfl rfl rfl hc i Oa s3 σ3 H3 X.xe I3 (Qu fr3) Ry stop) λr s4 ⟨hr,I4⟩=>?_);subst hr;exact Vd ⟨σ3,H3,I4,qn⟩
 .refine Ur hp (cU (T.item X rfl rfl rfl hc i Oa s3 σ3 H3 X.xe I3 (Qu fr3) Ry go) λr s4 ⟨u,hr,h4⟩=>?_);subst hr;refine Ur hp (cU h4 λ_ s5 ⟨x,H5,I5,r5,y5,st5,fr5⟩=>?_);have I5':=I5.pinned (Qu fr5) (T.obj _ _ st5);refine Ur hp (cU (hg _ s5 σ3 H5 x u _ I5' r5 (step x H5 y5)) λ_ s6 ⟨σ6,H6,I6,q6⟩=>?_);refine Ur hp (cU (hb _ s6 σ6 H6 _ I6 q6) λf s7 q7=>?_);have again:∀ {σ7:St} {H7:Hp},Inv X (Oa++mP fp s5.heap) σ7 H7 s7->N σ7 H7->∃ m,m<n/\∃ i σ' H',Inv X Oa σ' H' s7/\tn i s7.heap/\(∀ b∈fp,H' b=none)/\W i m σ' H':=λ{σ7 H7} I7 n7=>by
   obtain⟨m',hm,w7⟩:=hN σ7 H7 n7;refine⟨m',hm,i+1,σ7,H7,I7.ma,T.keep _ _ _ st5 λb hb o e=>(I7.pin (b,o) (SQ _ (SQ _ (jd hb e)))).1,λb hb=>?_,w7⟩;obtain⟨o,e,d⟩:=T.obj _ _ st5 b hb;exact(I7.pin (b,o) (SQ _ (SQ _ (jd hb e)))).2.1
  cases f with
  | next=>obtain⟨σ7,H7,I7,n7⟩:=q7;exact again I7 n7
  | cont=>obtain⟨σ7,H7,I7,n7⟩:=q7;exact again I7 n7
  | brk=>obtain⟨σ7,H7,I7,q7⟩:=q7;exact⟨σ7,H7,I7.ma,q7⟩
  | ret v=>obtain⟨x7,σ7,H7,I7,r7,q7⟩:=q7;exact⟨x7,σ7,H7,I7.ma,r7,q7⟩
abbrev R2:=V->V->Hp->VK->Prop
def gA(X:Cx)(f:Value->Value->Sem Value)(r:R2):Prop :=
 ∀ (Oa:List (Addr×Obj)) (s:Shared) (σ:St) (H:Hp) (x y:V) (v u:Value) (Q:VK),Inv X Oa σ H s->RelV x v->RelV y u->r x y H Q ->
  wpAny (model X.prog X.w) X.A (f v u) (EP X Oa σ Q) X.xe s
def MF(X:Cx)(f:Value->Sem Value)(r:V->Hp->VK->Prop):Prop :=
 ∀ (Oa:List (Addr×Obj)) (s:Shared) (σ:St) (H:Hp) (x:V) (v:Value) (Q:VK),Inv X Oa σ H s->RelV x v->r x H Q ->
  wpAny (model X.prog X.w) X.A (f v) (EP X Oa σ Q) X.xe s
def dc(X:Cx)(f:Value)(r:List V->Hp->VK->Prop):Prop :=
 ∀ (Oa:List (Addr×Obj)) (s:Shared) (σ:St) (H:Hp) (xs:List V) (us:List Value) (Q:VK),Inv X Oa σ H s->Vals xs us->r xs H Q ->
  wpAny (model X.prog X.w) X.A (call f us) (EP X Oa σ Q) X.xe s
def Jg(r:R2)(ta tb:TE):TE:=fun σ H Q=>ta σ H λx H1=>tb σ H1 λy H2=>r x y H2 Q
def Nz(r:V->Hp->VK->Prop)(ta:TE):TE:=fun σ H Q=>ta σ H λx H1=>r x H1 Q
def rI(C:Int->Int->Prop)(g:Int->Int->V):R2:=λx y H Q=>∃ i j,x=.int i/\y=.int j/\C i j/\Q (g i j) H
def yi(g:Int->Int->V):R2:=λx y H Q=>∃ i j,x=.int i/\y=.int j/\Q (g i j) H
def rU(g:Int->V):V->Hp->VK->Prop:=λx H Q=>∃ i,x=.int i/\Q (g i) H
variable{f:Value->Value->Sem Value}
variable{r:R2}
section
variable{a b:Expr}{tb tc:TE}
theorem GN(ha:PE X a ta)(hb:PE X b tb){R:V->V->Hp->Prop}(I:Inv X Oa σ H s)
  (h:ta σ H λx H1=>tb σ H1 λy H2=>R x y H2)
  (hf:∀ v u s2 x y H2,Inv X Oa σ H2 s2->RelV x v->RelV y u->R x y H2->wpAny (model X.prog X.w) X.A (f v u) Q X.xe s2) :
  wpAny (model X.prog X.w) X.A (eval a X.env) (λv s₁=>wpAny (model X.prog X.w) X.A (eval b X.env) (λu s₂=>wpAny (model X.prog X.w) X.A (f v u) Q X.xe s₂) X.xe s₁) X.xe s:=by
 refine cU (ha Oa s σ H _ I h) λv s1 ⟨x,H1,I1,r1,q1⟩=>?_;refine cU (hb Oa s1 σ H1 _ I1 q1) λu s2 ⟨y,H2,I2,r2,q2⟩=>?_;exact hf v u s2 x y H2 I2 r1 r2 q2
theorem F1{op:Operator}(ho:gA X (binaryOp op) r)(ha:PE X a ta)(hb:PE X b tb):PE X (.BinOp a op b pos) (Jg r ta tb):=by
 intro Oa s σ H Q I h;exact wpAny_BinOp (GN ha hb I h λv u s2 x y H2 I2 rx ry q=>ho Oa s2 σ H2 x y v u Q I2 rx ry q)
theorem KZ{op:UnaryOp}{r:V->Hp->VK->Prop}(ho:MF X (unaryOp op) r)(ha:PE X a ta):PE X (.UnaryOp op a pos) (Nz r ta):=by
 intro Oa s σ H Q I h;exact UnaryOp_ (cU (ha Oa s σ H _ I h) λv s1 ⟨x,H1,I1,r1,q1⟩=>ho Oa s1 σ H1 x v Q I1 r1 q1)
theorem Ld{C:Int->Int->Prop}{g:Int->Int->Int}
  (rule:∀ (i j:Int) (t u:Tok) (s:Shared) (Q:Value->Shared->Prop) (E:Value->Shared->Prop),C i j->Q (.int (g i j) s.toks) { s with toks:=s.toks+1 }->wpAny (model X.prog X.w) X.A (f (.int i t) (.int j u)) Q E s) :
  gA X f (rI C λi j=>.int (g i j)):=by
 intro Oa s σ H x y v u Q I rx ry h;obtain⟨i,j,rfl,rfl,hc,q⟩:=h;obtain⟨t,rfl⟩:=rx;obtain⟨t',rfl⟩:=ry;exact rule i j t t' s _ _ hc ⟨.int (g i j),H,I.tok _,⟨_,rfl⟩,q⟩
theorem Jm{g:Int->Int->Int}
  (rule:∀ (i j:Int) (t u:Tok) (s:Shared) (Q:Value->Shared->Prop) (E:Value->Shared->Prop),Q (.int (g i j) s.toks) { s with toks:=s.toks+1 }->wpAny (model X.prog X.w) X.A (f (.int i t) (.int j u)) Q E s) :
  gA X f (yi λi j=>.int (g i j)):=by
 intro Oa s σ H x y v u Q I rx ry h;obtain⟨i,j,rfl,rfl,q⟩:=h;obtain⟨t,rfl⟩:=rx;obtain⟨t',rfl⟩:=ry;exact rule i j t t' s _ _ ⟨.int (g i j),H,I.tok _,⟨_,rfl⟩,q⟩
theorem EG{g:Int->Int->Bool}
  (rule:∀ (i j:Int) (t u:Tok) (s:Shared) (Q:Value->Shared->Prop) (E:Value->Shared->Prop),Q (.bool (g i j)) s->wpAny (model X.prog X.w) X.A (f (.int i t) (.int j u)) Q E s) :
  gA X f (yi λi j=>.bl (g i j)):=by
 intro Oa s σ H x y v u Q I rx ry h;obtain⟨i,j,rfl,rfl,q⟩:=h;obtain⟨t,rfl⟩:=rx;obtain⟨t',rfl⟩:=ry;exact rule i j t t' s _ _ ⟨.bl (g i j),H,I,rfl,q⟩
def Gn(i j:Int):Prop:=0<=j/\j<=1000000/\i.natAbs<2^64
theorem Hk:gA X (binaryOp .Add) (yi λi j=>.int (i+j)):=Jm λ_ _ _ _ _ _ _ q=>add_int q
theorem Gy:gA X (binaryOp .Sub) (yi λi j=>.int (i-j)):=Jm λ_ _ _ _ _ _ _ q=>sub_int q
theorem DP:gA X (binaryOp .Mod) (rI (λ_ j=>j≠0) λi j=>.int (i.fmod j)):=Ld λ_ _ _ _ _ _ _ hc q=>mod_int' hc q
theorem H0:gA X (binaryOp .Pow) (rI Gn λi j=>.int (i^j.toNat)):=Ld λ_ _ _ _ _ _ _ hc q=>pow_int_small hc.1 hc.2.1 hc.2.2 q
theorem N1{f:Value->Sem Value}{g:Int->Int}
  (rule:∀ (i:Int) (t:Tok) (s:Shared) (Q:Value->Shared->Prop) (E:Value->Shared->Prop),Q (.int (g i) s.toks) { s with toks:=s.toks+1 }->wpAny (model X.prog X.w) X.A (f (.int i t)) Q E s) :
  MF X f (rU λi=>.int (g i)):=by
 intro Oa s σ H x v Q I rx h;obtain⟨i,rfl,q⟩:=h;obtain⟨t,rfl⟩:=rx;exact rule i t s _ _ ⟨.int (g i),H,I.tok _,⟨_,rfl⟩,q⟩
theorem GA:MF X (unaryOp .USub) (rU λi=>.int (-i)):=N1 λ_ _ _ _ _ q=>neg_int q
end
variable{op:CmpOp}
variable{us:List Value}
section
variable{a b:Expr}{tb tc:TE}
theorem iH{Q:VK}{k k':Bool}(I:Inv X Oa σ H s)(q:Q (.bl k) H)(e:k=k'):EP X Oa σ Q (.bool k') s:=by
 subst e;exact⟨.bl k,H,I,rfl,q⟩
theorem Be:gA X (compareOp .Lt) (yi λi j=>.bl (decide (i<j))):=EG λ_ _ _ _ _ _ _ q=>lt_int q
theorem vj:gA X (compareOp .LtE) (yi λi j=>.bl (decide (i<=j))):=EG λ_ _ _ _ _ _ _ q=>le_int q
theorem Fy:gA X (compareOp .Gt) (yi λi j=>.bl (decide (j<i))):=EG λ_ _ _ _ _ _ _ q=>gt_int q
theorem Ga:gA X (compareOp .GtE) (yi λi j=>.bl (decide (j<=i))):=EG λ_ _ _ _ _ _ _ q=>ge_int q
theorem Bv:gA X (compareOp .Is) (λx y H Q=>y=.bG/\Q (.bl (decide (x=.bG))) H):=by
 intro Oa s σ H x y v u Q I rx ry h;obtain⟨rfl,q⟩:=h;cases ry;refine is_none_gen (iH I q ?_);cases x <;> first
  | (cases rx;rfl)
  | (obtain⟨t,rfl⟩:=rx;rfl)
theorem xZ:gA X (compareOp .IsNot) (λx y H Q=>y=.bG/\Q (.bl (!decide (x=.bG))) H):=by
 intro Oa s σ H x y v u Q I rx ry h;obtain⟨rfl,q⟩:=h;cases ry;refine isnot_none_gen (iH I q ?_);cases x <;> first
  | (cases rx;rfl)
  | (obtain⟨t,rfl⟩:=rx;rfl)
theorem gA.or{r':R2}(h:gA X f r)(h':gA X f r'):gA X f (λx y H Q=>r x y H Q\/r' x y H Q):=by
 intro Oa s σ H x y v u Q I rx ry q;rcases q with q | q
 .exact h Oa s σ H x y v u Q I rx ry q
 .exact h' Oa s σ H x y v u Q I rx ry q
theorem cH(b:Expr)(h:autoParam (op≠.In) aD._auto_1)(h2:autoParam (op≠.NotIn) aD._auto_1):behindInMarks op b=false:=by
 have e1:(op==CmpOp.In)=false:=by cases op <;> first | rfl | exact absurd rfl h
 have e2:(op==CmpOp.NotIn)=false:=by cases op <;> first | rfl | exact absurd rfl h2
 cases b <;> simp[behindInMarks,e1,e2]
theorem D2(ho:gA X (compareOp op) r)(ha:PE X a ta)(hb:PE X b tb)(hm:behindInMarks op b=false):PE X (.Compare a [op] [b] pos) (Jg r ta tb):=by
 intro Oa s σ H Q I h;exact wpAny_Compare1 (GN ha hb I h λv u s2 x y H2 I2 rx ry q=>ho Oa s2 σ H2 x y v u Q I2 rx ry q) hm
def JG(t:TE):TT:=fun σ H Q=>t σ H λx H'=>∃ k,x=.bl k/\Q k H'
theorem DV(ho:gA X (compareOp op) r)(ha:PE X a ta)(hb:PE X b tb)(hm:behindInMarks op b=false):PT X (.Compare a [op] [b] pos) (JG (Jg r ta tb)):=by
 intro Oa s σ H Q I h;refine wpAny_isTrue_Compare1 (cU (ha Oa s σ H _ I h) λv s1 ⟨x,H1,I1,r1,q1⟩=>cU (hb Oa s1 σ H1 _ I1 q1) λu s2 ⟨y,H2,I2,r2,q2⟩ =>
  cU (ho Oa s2 σ H2 x y v u _ I2 r1 r2 q2) λc s3 ⟨z,H3,I3,r3,k,e,q3⟩=>?_) hm
 subst e;cases r3;exact Ut ⟨H3,I3,q3⟩
def Au(r r':R2)(ta tb tc:TE):TE:=fun σ H Q=>ta σ H λx H1=>tb σ H1 λy H2=>r x y H2 λz H3=>∃ k,z=.bl k ∧
 (if k=true then tc σ H3 λw' H4=>r' y w' H4 Q else Q (.bl false) H3)
theorem Cr{Ro:CmpOp}{r':R2}(ho:gA X (compareOp op) r)(Qp:gA X (compareOp Ro) r')(ha:PE X a ta)(hb:PE X b tb)(hc:PE X c tc)
  (hm:autoParam (lastMarks [op,Ro] [b,c]=false) aU._auto_1):PE X (.Compare a [op,Ro] [b,c] pos) (Au r r' ta tb tc):=by
 intro Oa s σ H Q I h;refine Compare_chain (cU (ha Oa s σ H _ I h) λv s1 ⟨x,H1,I1,r1,q1⟩=>chain_link (cU (hb Oa s1 σ H1 _ I1 q1) λu s2 ⟨y,H2,I2,r2,q2⟩ =>
  cU (ho Oa s2 σ H2 x y v u _ I2 r1 r2 q2) λd s3 ⟨z,H3,I3,r3,k,e,q3⟩=>?_)) hm
 subst e;cases r3;refine Ut ?_;cases k with
 | false=>exact ite_ff ⟨.bl false,H3,I3,rfl,q3⟩
 | true=>exact ite_tt (chain_last (cU (hc Oa s3 σ H3 _ I3 q3) λw' s4 ⟨z',H4,I4,r4,q4⟩=>Qp Oa s4 σ H4 y z' u w' Q I4 r2 r4 q4))
theorem nJ:(sizeLine:Nat)<2^63:=by rw[sizeLine_eq];decide
theorem w_:gA X (binaryOp .Add) (λx y H Q=>∃ i j,x=.str i/\y=.str j/\i.length+j.length<=sizeLine/\Q (.str (i++j)) H):=by
 intro Oa s σ H x y v u Q I rx ry h;obtain⟨i,j,rfl,rfl,hz,q⟩:=h;obtain⟨t,rfl⟩:=rx;obtain⟨t',rfl⟩:=ry;exact add_str (λt' tk=>⟨.str (i++j),H,I.tok _,⟨_,rfl⟩,q⟩) hz
theorem vals1{x:V}(r:Vals [x] us):∃ u,us=[u]/\RelV x u:=by
 cases r with
 | cons r1 r2=>cases r2;exact⟨_,rfl,r1⟩
theorem vals2{x y:V}(r:Vals [x,y] us):∃ u w',us=[u,w']/\RelV x u/\RelV y w':=by
 cases r with
 | cons r1 r2 =>
  cases r2 with
  | cons r3 r4=>cases r4;exact⟨_,_,rfl,r1,r3⟩
theorem Al(hc:X.calm=true):dc X (.builtin "max") (λxs H Q=>∃ i j,xs=[.int i,.int j]/\Q (.int (if j>i then j else i)) H):=by
 intro Oa s σ H xs us Q I r h;obtain⟨i,j,rfl,q⟩:=h;obtain⟨u,w',rfl,⟨t,rfl⟩,⟨t',rfl⟩⟩:=vals2 r;refine max_two_ints (I.ok.hd hc) λh' tk k=>⟨_,H,I.kept k,?_,q⟩
 by_cases hj:j>i
 .rw[if_pos hj,if_pos hj];exact⟨_,rfl⟩
 .rw[if_neg hj,if_neg hj];exact⟨_,rfl⟩
theorem t7:dc X (.type "str") (λxs H Q=>∃ i,xs=[.int i]/\i.natAbs.log2<1920/\Q (.str (toString i)) H):=by
 intro Oa s σ H xs us Q I r h;obtain⟨i,rfl,hz,q⟩:=h;obtain⟨u,rfl,t,rfl⟩:=vals1 r;exact PySem.P.str_of_int hz ⟨.str _,H,I.tok _,⟨_,rfl⟩,q⟩
end
structure wU (h:Heap) (x dx C:Addr) (mA:Str->Option Value):Prop where
 obj:h.get? x=some (Ud C dx)
 ns:h.Ns1 dx mA
 ne:dx≠x
variable{mA:Str->Option Value}{dx:Addr}
theorem ny(n:h.Ns1 dx mA):∃ od,h.get? dx=some od/\∀ name,UU name od=some (mA name):=by
 obtain⟨o,es,ep,ho,hd,hk,_,hm⟩:=n;refine⟨o,ho,λname=>?_⟩;have e:=hm name;unfold nsFind findBy at e;rw[<- XC] at e;unfold UU;rw[hd];dsimp only
 split
 .rename_i y q;rw[q] at e;exact congrArg some e
 .rename_i q;rw[q] at e;have a:es.toList.any (·.refKey)=false:=by
   rw[List.any_eq_false];intro y hy;obtain⟨z,t,hkey⟩:=hk y (Array.mem_toList_iff.mp hy);simp[DictEntry.refKey,hkey]
  have a':¬ es.toList.any (·.refKey)=true:=by rw[a];exact To
  rw[if_neg a'];exact congrArg some e
variable{C:Addr}
theorem wU.look{x:Addr}(I:wU h x dx C mA):∃ od,Ua h x (Ud C dx) C (some od)/\∀ name,UU name od=some (mA name) :=
 let ⟨od,ho,hl⟩:=ny I.ns
 ⟨od,⟨I.obj,rfl,rfl,ho⟩,hl⟩
variable{prog:Program}
variable{pl:Sem Bool}
variable{kw:List (Str×Value)}
section
variable{K:R5}{x f:Addr}{name:Str}{v:Value}
theorem get_map{expr:Bool}(X:K.In s.heap)(I:wU s.heap x dx C mA)(hg:VF K C name=true)(hh:Vp K C=true)
  (ha:SG K (.ref C) name=some none) (hv:mA name=some v) (RU:Ym v=true) (h:Q v { s with toks:=s.toks+1 }) :
  wpAny (model prog w) A (getAttr (.ref x) name expr) Q E s:=by
 obtain⟨od,J,hl⟩:=I.look;exact PySem.W.get_value X J (V7 hg).1 (Xp hh ha rfl (by rw[hl,hv])) RU h
theorem CK{Q:Value×List Value->Shared->Prop}(X:K.In s.heap)(I:wU s.heap x dx C mA)(hg:VF K C name=true)
  (hf:SG K (.ref C) name=some (some (.ref f))) (ht:UL K (.ref f)=true) (hv:mA name=none) (h:Q (.ref f,[.ref x]) s) :
  wpAny (model prog w) A (getMethod (.ref x) name pl) Q E s:=by
 obtain⟨od,J,hl⟩:=I.look;exact PySem.W.method_fn X J (V7 hg).1 (V7 hg).2 hf (beq_iff_eq.mp ht) (by show (UU name od).map (·.isSome)=some false;rw[hl,hv];rfl) h
theorem EN{ns:List Str}{Q:Unit->Shared->Prop}(X:K.In s.heap)(I:wU s.heap x dx C mA)
  (hs:SG K (.ref C) "__setattr__" = some (some (.builtin "object.__setattr__"))) (hp:XY K C=true) (ht:Ve K C name=some none) (hh:Vp K C=true)
  (hw:XU mA ns) (Qc:ns.length<=sizeLine)
  (h:∀ h',wU h' x dx C (λy=>if y=name then some v else mA y)->Vo dx s.heap h'->Q () { s with heap:=h',toks:=s.toks+2 }) :
  wpAny (model prog w) A (setAttr (.ref x) name v) Q E s:=by
 obtain⟨od,J,hl⟩:=I.look;refine XZ X J hs (PySem.W.osa_open (s:={ s with toks:=s.toks+1 }) (r:=none) X J hp ht λb=>?_);obtain⟨cd,hc,RI⟩:=UD hh;have hx:s.heap.get? x=some ⟨.ref C,some dx,.plain,#[]⟩:=I.obj;refine R4 (R9 (R4 (R4 (UE hx (R4 (XD (s:={ s with toks:=s.toks+1 }) (V8 X hc) ?_))))));rw[RI];refine R9 (a:=some dx) (R4 (R9 (R4 ?_)));refine wpAny_nsSet1 (s:={ s with toks:=s.toks+1 }) I.ns λh' Q6 P8=>?_;obtain⟨oD,esD,epD,hoD,hdD,QN⟩:=Q6.count (X0 name v hw);refine R4 (wpAny_lookBehind hoD (by rw[hdD];exact pastItsLine_dict (SE QN (by rw[T3];lia))) ?_);exact R9 (h _ ⟨(P8.2 _ (T7 I.ne)).trans I.obj,Q6,I.ne⟩ P8)
theorem BS{R:Result->Shared->Prop}{vs:List Value}(X:K.In s.heap)(hm:YF K C=true)
  (hi:SG K (.ref C) "__init__" = some (some (.ref f))) (hf:UW K (.ref f)=some (.type "function"))
  (h:codeAny (model prog w) (A.under (.builtin "type.__call__" ⟨.ref C::vs,kw⟩)) (.call (.ref f) ⟨.ref (s.heap.objs.size+1)::vs,kw⟩) (PySem.W.InitBack (s.heap.objs.size+1) R)
   { s with heap:=(s.heap.push TF).push (Ud C s.heap.objs.size) }) :
  codeAny (model prog w) A (.call (.ref C) ⟨vs,kw⟩) R s:=by
 obtain⟨hh,g,d,t,os⟩:=s;exact PySem.W.make_core (PySem.W.makes_of X hm) (TQ X hi) (λself=>YG X self hf) (.inl rfl) h
end
def jI(f:Str)(v:V):List (Str×V)->List (Str×V)
 | []=>[(f,v)]
 | (g,x)::r=>if g=f then (g,v)::r else (g,x)::jI f v r
theorem n_(f g:Str)(v:V):∀ fs:List (Str×V),(jI f v fs).lookup g=if g=f then some v else fs.lookup g
 | []=>by
  show UJ g [(f,v)]=_
  by_cases h:g=f
  .have hb:(g==f)=true:=beq_iff_eq.mpr h;simp only[UJ,hb,if_pos h]
  .have hb:(g==f)=false:=beq_eq_false_iff_ne.mpr h;simp only[UJ,hb,if_neg h]
 | (k,x)::r=>by
  have ih:=n_ f g v r;rw[show jI f v ((k,x)::r)=(if k=f then (k,v)::r else (k,x)::jI f v r) from rfl]
  by_cases hk:k=f
  .rw[if_pos hk]
   by_cases h:g=k
   .have hb:(g==k)=true:=beq_iff_eq.mpr h;simp only[UJ,hb,if_pos (h.trans hk)]
   .have hb:(g==k)=false:=beq_eq_false_iff_ne.mpr h;simp only[UJ,hb,if_neg (λe:g=f=>h (e.trans hk.symm))]
  .rw[if_neg hk]
   by_cases h:g=k
   .have hb:(g==k)=true:=beq_iff_eq.mpr h;simp only[UJ,hb,if_neg (λe:g=f=>hk (h.symm.trans e))]
   .have hb:(g==k)=false:=beq_eq_false_iff_ne.mpr h;simp only[UJ,hb];exact ih
theorem nM(f:Str)(v:V):∀ fs:List (Str×V),f∈(jI f v fs).map (·.1)/\∀ g,g∈fs.map (·.1)->g∈(jI f v fs).map (·.1)
 | []=>⟨by simp[jI],λg h=>by simp at h⟩
 | (k,x)::r=>by
  obtain⟨i1,i2⟩:=nM f v r;rw[show jI f v ((k,x)::r)=(if k=f then (k,v)::r else (k,x)::jI f v r) from rfl]
  by_cases hk:k=f
  .rw[if_pos hk];subst hk;exact⟨by simp,λg h=>by simpa using h⟩
  .rw[if_neg hk];refine⟨?_,λg h=>?_⟩
   .rw[Su];exact Sl _ i1
   .rw[Su] at h ⊢;rcases Ss.mp h with e | e
    .exact Ss.mpr (.inl e)
    .exact Sl _ (i2 g e)
theorem nR(f:Str)(v:V):∀ fs:List (Str×V),(jI f v fs).length<=fs.length+1
 | []=>by simp[jI]
 | (k,x)::r=>by
  have ih:=nR f v r;rw[show jI f v ((k,x)::r)=(if k=f then (k,v)::r else (k,x)::jI f v r) from rfl]
  by_cases hk:k=f
  .rw[if_pos hk,T3,T3];lia
  .rw[if_neg hk,T3,T3];lia
theorem lO.some_of{o:Option Value}(r:lO (some v) o):∃ u,o=some u/\RelV v u:=by
 cases o with
 | none=>exact(show False from r).elim
 | some u=>exact⟨u,rfl,r⟩
theorem lO.none_of{o:Option Value}(r:lO none o):o=none:=by
 cases o with
 | none=>rfl
 | some u=>exact(show False from r).elim
theorem r9(r:RelV v u):Ym u=true:=by
 cases v with
 | bG=>cases (show u=SM from r);rfl
 | bl b=>cases (show u=Te b from r);rfl
 | int i=>obtain⟨t,e⟩:=(show ∃ t,u=WH i t from r);cases e;rfl
 | str x=>obtain⟨t,e⟩:=(show ∃ t,u=WI x t from r);cases e;rfl
 | byt b=>obtain⟨t,e⟩:=(show ∃ t,u=Y8 b t from r);cases e;rfl
 | FW b=>obtain⟨t,e⟩:=(show ∃ t,u=Xf b t from r);cases e;rfl
 | ref a=>cases (show u=Sd a from r);rfl
 | ty n=>cases (show u=TU n from r);rfl
section
variable{fs fs':List (Str×V)}
theorem mi(bJ:nI P w H h)(e:H a=some (.ins C dx fs)):∃ mA,wU h a dx C mA/\(∀ f,lO (fs.lookup f) (mA f))/\XU mA (fs.map (·.1))/\fs.length<=1000/\H dx=some (.own a):=by
 obtain⟨d,z,ne,ob,mA,n,r,q⟩:=(show bZ P w H h a (.ins C dx fs) from bJ a _ e)
 exact⟨mA,⟨ob,n,ne⟩,r,q,z,d⟩
end
structure iK (K:R5) (C:Addr):Prop where
 pg:VF K C Str.empty=true
 hd:Vp K C=true
 po:XY K C=true
 sa:SG K (.ref C) "__setattr__" = some (some (.builtin "object.__setattr__"))
theorem iK.get{K:R5}(c:iK K C)(f:Str):VF K C f=true:=c.pg
def bf(K:R5)(C:Addr)(f:Str):Prop:=SG K (.ref C) f=some none
theorem bf.FA{K:R5}{f:Str}(n:bf K C f):Ve K C f=some none:=by
 unfold Ve;rw[show SG K (.ref C) f=some none from n];rfl
structure Meth (K:R5) (C:Addr) (m:Str) (f:Addr):Prop where
 at_:SG K (.ref C) m=some (some (.ref f))
 fn:UL K (.ref f)=true
 kp:SN K (.ref f)=true
variable{m:Str}
section
variable{fs:List (Str×V)}{f:Str}
theorem wz{b:Bool}(I:Inv X Oa σ H s)(e:H a=some (.ins C dx fs))(c:iK X.K C)(n:bf X.K C f)(l:fs.lookup f=some v)
  (h:∀ u s',Inv X Oa σ H s'->RelV v u->Q u s'):wpAny (model X.prog X.w) A (getAttr (.ref a) f b) Q E s:=by
 obtain⟨mA,O,r,_,_,_⟩:=mi I.bJ e;obtain⟨u,hu,ru⟩:=lO.some_of (v:=v) (o:=mA f) (by rw[<- l];exact r f);exact get_map I.hU O (c.get f) c.hd n hu (r9 ru) (h u _ (I.tok _) ru)
theorem jz{g:Addr}{Q:Value×List Value->Shared->Prop}(I:Inv X Oa σ H s)(e:H a=some (.ins C dx fs))(c:iK X.K C)(k:Meth X.K C m g)(l:fs.lookup m=none)
  (h:Q (.ref g,[.ref a]) s):wpAny (model X.prog X.w) A (getMethod (.ref a) m pl) Q E s:=by
 obtain⟨mA,O,r,_,_,_⟩:=mi I.bJ e;have hn:mA m=none:=lO.none_of (by rw[<- l];exact r m);exact CK I.hU O (c.get m) k.at_ k.fn hn h
theorem wx{y:V}{Q:Unit->Shared->Prop}(I:Inv X Oa σ H s)(e:H a=some (.ins C dx fs))(c:iK X.K C)(n:bf X.K C f)(hl:fs.length<1000)(ry:RelV y u)
  (h:∀ s',Inv X Oa σ (upd H a (.ins C dx (jI f y fs))) s'->Q () s'):wpAny (model X.prog X.w) A (setAttr (.ref a) f u) Q E s:=by
 obtain⟨mA,O,r,wi,_,ho⟩:=mi I.bJ e;have hz:(fs.map (·.1)).length<=sizeLine:=by rw[R_,sizeLine_eq];lia
 refine EN I.hU O c.sa c.po n.FA c.hd wi hz λh' O' sb=>h _ ?_;have hd:∃ o,h'.get? dx=some o:=let ⟨o,_,_,e',_⟩:=O'.ns;⟨o,e'⟩
 refine I.write (x:=a) (e:=dx) (by rw[e];exact Ue) (.inr ho) (λb q hb z=>(sb.2 b hb).trans z) hd ?_;refine⟨by rw[av O.ne];exact ho,?_,O.ne,O'.obj,_,O'.ns,λg=>?_,λg hg=>?_⟩
 .have:=nR f y fs;lia
 .show lO ((jI f y fs).lookup g) (if g=f then some u else mA g);rw[n_]
  by_cases q:g=f
  .rw[if_pos q,if_pos q];exact ry
  .rw[if_neg q,if_neg q];exact r g
 .by_cases q:g=f
  .rw[q];exact(nM f y fs).1
  .refine(nM f y fs).2 g (wi g λz=>hg ?_);show (if g=f then some u else mA g)=none;rw[if_neg q];exact z
theorem Inv.made(I:Inv X Oa σ H s):Inv X Oa σ (upd (upd H s.heap.objs.size (.own (s.heap.objs.size+1))) (s.heap.objs.size+1) (.ins C s.heap.objs.size []))
  { s with heap:=(s.heap.push TF).push (Ud C s.heap.objs.size) }:=by
 have e1:(s.heap.push TF).get? s.heap.objs.size=some TF:=Sg s.heap rfl;have e2:((s.heap.push TF).push (Ud C s.heap.objs.size)).get? (s.heap.objs.size+1)=some (Ud C s.heap.objs.size):=by
  have:=Sg (s.heap.push TF) (o:=Ud C s.heap.objs.size) rfl
  rwa [Tc] at this
 have e3:(s.heap.push TF).Ns s.heap.objs.size (λ_=>none):=⟨TF,#[],_,e1,rfl,(λe he=>absurd he (by simp)),λ_=>rfl⟩
 have I1:=I.laid (a:=s.heap.objs.size) (o:=.own (s.heap.objs.size+1)) (h':=s.heap.push TF) (t':=s.toks) (λb u q=>R6 _ q) (Se _) ⟨_,e1⟩;refine I1.laid (a:=s.heap.objs.size+1) (o:=.ins C s.heap.objs.size []) (t':=s.toks) (λb u q=>R6 _ q) (X3 (Tc _ _)) ?_;have ne:s.heap.objs.size≠s.heap.objs.size+1:=So (T4 _);refine⟨by rw[av ne,aA],TY _,ne,e2,λ_=>none,(X4 e3).at λo q=>R6 _ q,λ_=>Ue,λy hy=>absurd rfl hy⟩
theorem yx{env:Env}{f:Str}(hb:attributeBase e f env (eval e env)=eval e env)
  (h:wpAny (model prog w) A (eval e env) (λo s₁=>wpAny (model prog w) A (getAttr o f true) Q E s₁) E s):wpAny (model prog w) A (eval (.Attribute e f pos) env) Q E s :=
 Attribute_any_ h (by rw[arm_eval_Attribute,hb])
end
def MZ(K:R5)(ta:TE)(f:Str):TE:=fun σ H Q=>ta σ H λx H1=>∃ a C dx fs v,x=.ref a/\H1 a=some (.ins C dx fs)/\iK K C/\bf K C f/\fs.lookup f=some v/\Q v H1
def Nf(K:R5)(ta tv:TE)(f:Str):TS:=λD σ H=>tv σ H λy H1=>ta σ H1 λx H2=>∃ a C dx fs,x=.ref a/\H2 a=some (.ins C dx fs)/\iK K C/\bf K C f/\fs.length<1000 ∧
 D.nx σ (upd H2 a (.ins C dx (jI f y fs)))
section
variable{o value:Expr}{f:Str}{pos' R3:Pos}{tv:TE}
theorem HK(he:PE X e ta)(hb:attributeBase e f X.env (eval e X.env)=eval e X.env):PE X (.Attribute e f pos) (MZ X.K ta f):=by
 intro Oa s σ H Q I h;refine yx hb (cU (he Oa s σ H _ I h) λu s1 ⟨x,H1,I1,rx,a,C,dx,fs,v,ex,ea,c,n,l,q⟩=>?_);subst ex;obtain rfl:u=Sd a:=rx;exact wz I1 ea c n l λu' s2 I2 ru=>⟨v,H1,I2,ru,q⟩
theorem IW(ha:PE X o ta)(hv:PE X value tv)(hs:swapsWith value (some (.Attribute o f pos')) pos.line X.env=pure false):PS X (.Assign [.Attribute o f pos'] value pos) (Nf X.K ta tv f):=by
 intro Oa s σ H D I h;refine VB (cU (hv Oa s σ H _ I h) λu s1 ⟨y,H1,I1,ry,q⟩=>cU (ha Oa s1 σ H1 _ I1 q) λov s2 ⟨x,H2,I2,rx,a,C,dx,fs,ex,ea,c,n,l,q2⟩=>?_) hs;subst ex;obtain rfl:ov=Sd a:=rx;exact wx I2 ea c n l ry λs3 I3=>⟨σ,_,I3,q2⟩
end
section
variable{c:Value}{b:Bool}
inductive jK (K:R5) (H:Hp):V->Value->Prop where
 | bG:jK K H .bG (.type "NoneType")
 | bl (x:Bool):jK K H (.bl x) (.type "bool")
 | int (i:Int):jK K H (.int i) (.type "int")
 | str (x:Str):jK K H (.str x) (.type "str")
 | FW (x:UInt64):jK K H (.FW x) (.type "float")
 | lst {a:Addr} {xs:List V} (e:H a=some (.lst xs)):jK K H (.ref a) (.type "list")
 | jM {a:Addr} {o:Obj} {xs:List V} (e:H a=some (.jM o (.lst xs))):jK K H (.ref a) (.type "list")
 | tup {a:Addr} {xs:List V} (e:H a=some (.tup xs)):jK K H (.ref a) (.type "tuple")
 | dK {a:Addr} {OV:List (Key×V)} (e:H a=some (.dK OV)):jK K H (.ref a) (.type "dict")
 | dT {a:Addr} {OV:List (List Key×V)} (e:H a=some (.dT OV)):jK K H (.ref a) (.type "dict")
 | ins {a C dx:Addr} {fs:List (Str×V)} (e:H a=some (.ins C dx fs)) (cl:iK K C) (ha:SG K (.ref C) "__class__" = some (some (.builtin "object.__class__")))
   (hn:Vq K (.builtin "object.__class__") "__get__" = some (some (.builtin "getset_descriptor.__get__"))) (IZ:VZ K (.builtin "object.__class__")=some true)
   (hm:Wz K C (.type "object")=some true):jK K H (.ref a) (.ref C)
theorem rY{x:V}{t:Value}(I:Inv X Oa σ H s)(rx:RelV x u)(ty:jK X.K H x t)(e:Sb X.K t c=some b)(h:∀ tk,Q (.bool b) { s with toks:=tk }) :
  wpAny (model X.prog X.w) A (call (.builtin "isinstance") [u,c]) Q E s:=by
 cases ty with
 | bG=>cases (show u=SM from rx);exact S1 X5 I.hU Ue e (λz=>nomatch z) h
 | bl y=>cases (show u=Te y from rx);exact S1 X6 I.hU Ue e (λz=>nomatch z) h
 | int i=>obtain⟨t,q⟩:=(show ∃ t,u=WH i t from rx);cases q;exact S1 Yn I.hU Ue e (λz=>nomatch z) h
 | str y=>obtain⟨t,q⟩:=(show ∃ t,u=WI y t from rx);cases q;exact S1 Yo I.hU Ue e (λz=>nomatch z) h
 | FW y=>obtain⟨t,q⟩:=(show ∃ t,u=Xf y t from rx);cases q;exact S1 XE I.hU Ue e (λz=>nomatch z) h
 | @lst a xs ea =>
  cases (show u=Sd a from rx);obtain⟨_,_,n,_,h1⟩:=(show bZ X.prog X.w H s.heap a (.lst xs) from I.bJ a _ ea)
  exact S1 Vr I.hU ⟨_,h1,rfl⟩ e (λz=>nomatch z) h
 | @jM a ob xs ea =>
  cases (show u=Sd a from rx);obtain⟨_,_,_,n,_,h1⟩:=(show bZ X.prog X.w H s.heap a (.jM ob (.lst xs)) from I.bJ a _ ea)
  exact S1 Vr I.hU ⟨_,h1,rfl⟩ e (λz=>nomatch z) h
 | @tup a xs ea =>
  cases (show u=Sd a from rx);obtain⟨_,_,_,p⟩:=(show bZ X.prog X.w H s.heap a (.tup xs) from I.bJ a _ ea)
  obtain⟨o,h1,h2,_⟩:=p;exact S1 XF I.hU ⟨o,h1,h2⟩ e (λz=>nomatch z) h
 | @dK a OV ea =>
  cases (show u=Sd a from rx);obtain⟨_,_,vs,_,p⟩:=(show bZ X.prog X.w H s.heap a (.dK OV) from I.bJ a _ ea)
  obtain⟨o,es,ep,h1,h2,_⟩:=p;exact S1 Vs I.hU ⟨o,h1,h2.1⟩ e (λz=>nomatch z) h
 | @dT a OV ea =>
  cases (show u=Sd a from rx);obtain⟨_,_,xs,_,o,es,ep,h1,h2,_⟩:=(show bZ X.prog X.w H s.heap a (.dT OV) from I.bJ a _ ea)
  exact S1 Vs I.hU ⟨o,h1,h2.1⟩ e (λz=>nomatch z) h
 | @ins a C dx fs ea cl ha hn IZ hm =>
  cases (show u=Sd a from rx);obtain⟨mA,O,_⟩:=mi I.bJ ea;obtain⟨od,J,_⟩:=O.look;exact S1 (Yp (cl.get _) cl.hd ha hn IZ hm) I.hU J e (λz=>nomatch z) h
end
structure ck (k:Nat) (A:Around):Prop where
 hd:A.handled=none
 dp:A.depth+3*k+5<recursionLimit
 un:A.units+16*k+200<cLine
theorem ck.mono{j:Nat}(r:ck k A)(h:j<=k):ck j A:=⟨r.hd,by have:=r.dp;lia,by have:=r.un;lia⟩
theorem ck.deeper{k:Nat}{A:Around}(r:ck (k+1) A)(env:Env):ck k (A.deeper env) :=
 ⟨r.hd,by have:=r.dp;show A.depth+1+3*k+5<_;lia,by have:=r.un;show A.units+3+16*k+200<_;lia⟩
theorem wD:(A.under (.builtin "type.__call__" ⟨.ref C::us,kw⟩)).depth=A.depth+1:=by
 first | rfl | simp[X7,Code.weight,Code.isCreation,Code.isGuard,Code.isCaller,Code.frames,X8,guardIds]
theorem xR:(A.under (.builtin "type.__call__" ⟨.ref C::us,kw⟩)).units=A.units+1:=by
 first | rfl | simp[X7,Code.cUnits,Code.frames,X8]
theorem ck.make(r:ck (k+1) A)(C:Addr)(us:List Value)(kw:List (Str×Value)):ck k (A.under (.builtin "type.__call__" ⟨.ref C::us,kw⟩)) :=
 ⟨r.hd,by have:=r.dp;rw[wD];lia,by have:=r.un;rw[xR];lia⟩
theorem ck.depth{k:Nat}{A:Around}(r:ck k A):A.depth<recursionLimit:=by have:=r.dp;lia
theorem ck.units{k:Nat}{A:Around}(r:ck k A):A.units+64<cLine:=by have:=r.un;lia
def Kk:TA:=λ_ H Q=>Q [] H
def JF(ta:TE)(tr:TA):TA:=fun σ H Q=>ta σ H λx H1=>tr σ H1 λxs H2=>Q (x::xs) H2
variable{t:TA}
theorem jw:PA X [] Kk:=λ_ _ _ _ H Q I h=>Calls.spliced_nil ⟨[],H,I,.nil,h⟩
theorem dj(ha:PE X e te)(hr:PA X es t)(hs:autoParam (starEach (e::es) X.env=(false,eval e X.env)::starEach es X.env) aR._auto_1):PA X (e::es) (JF te t):=by
 intro pos Oa s σ H Q I h;rw[hs];show wpAny _ _ (spliced ((false,eval e X.env)::backTo pos (starEach es X.env))) _ _ s;refine Calls.spliced_cons (cU (ha Oa s σ H _ I h) λu s1 ⟨x,H1,I1,r1,q1⟩=>?_);exact cU (hr pos Oa s1 σ H1 _ I1 q1) λus s2 ⟨xs,H2,I2,r2,q2⟩=>⟨x::xs,H2,I2,.cons r1 r2,q2⟩
def MX(t:TA):TE:=fun σ H Q=>t σ H λxs H1=>xs.length<=sizeLine/\∀ p,H1 p=none->Q (.ref p) (upd H1 p (.tup xs))
def M8(t:TA):TE:=fun σ H Q=>t σ H λxs H1=>xs.length<=sizeLine/\∀ p,H1 p=none->Q (.ref p) (upd H1 p (.lst xs))
theorem BI{x1}(h:PA X es t):PE X (.Tuple es x1 pos) (MX t):=by
 intro Oa s σ H Q I hq;refine wpAny_Tuple_spliced (cU (h pos Oa s σ H _ I hq) λus s1 ⟨xs,H1,I1,r,z,q⟩=>⟨by rw[<- r.length];exact z,?_⟩);have hf:H1 s1.heap.objs.size=none:=I1.bJ.fresh (Se _);refine⟨.ref s1.heap.objs.size,upd H1 s1.heap.objs.size (.tup xs),I1.laid (t':=s1.toks) (λb u e=>R6 _ e) (Se _) ?_,rfl,q _ hf⟩;exact⟨z,us,r,⟨_,Sg _ rfl,rfl,_,rfl⟩⟩
theorem Bo(h:PA X es t):PE X (.List es pos) (M8 t):=by
 intro Oa s σ H Q I hq;refine wpAny_List_spliced (cU (h pos Oa s σ H _ I hq) λus s1 ⟨xs,H1,I1,r,z,q⟩=>⟨by rw[<- r.length];exact z,?_⟩);have hf:H1 s1.heap.objs.size=none:=I1.bJ.fresh (Se _);refine⟨.ref s1.heap.objs.size,upd H1 s1.heap.objs.size (.lst xs),I1.laid (t':=s1.toks) (λb u e=>R6 _ e) (Se _) ?_,rfl,q _ hf⟩;exact⟨z,us,0,r,Sg _ rfl⟩
abbrev Sp:=List V->Hp->VK->XK->Prop
abbrev Gg:=List Env->Hp->Shared->XK->Value->Shared->Prop
structure v8 (P:Program) (w:World) (K:R5) (mg:Str->Option Value) (base:Heap) (A:Around) (outer:List Env) (s:Shared) (H:Hp):Prop where
 frames:A.frames=some outer
 mod:Mod K mg base
 bs:∀ b o,base.get? b=some o->s.heap.get? b=some o/\H b=none
 Ao:base.objs.size<=s.heap.objs.size
 kK:s.heap.FunFrames base outer
 Dg:∀ b∈wt outer,H b=none
 bJ:nI P w H s.heap
 bare:AllBare s.gens
def CE(outer:List Env)(P:Program)(w:World)(H:Hp)(s:Shared)(Q:VK)(u:Value)(s':Shared):Prop :=
 ∃ v H',s'.os=s.os/\AllBare s'.gens/\Un (wt outer) [] H H' s.heap s'.heap/\nI P w H' s'.heap/\RelV v u/\Q v H'
def CR(CX:Gg)(outer:List Env)(P:Program)(w:World)(H:Hp)(s:Shared)(Q:VK)(E:XK)(r:Result)(s':Shared):Prop :=
 match r with
 | .ok (.ret u)=>CE outer P w H s Q u s'
 | .ok _=>False
 | .error e=>CX outer H s E e s'
structure aL (P:Program) (w:World) (K:R5) (mg:Str->Option Value) (base:Heap) (CX:Gg) (k:Nat) (f:Addr) (fd:FuncData) (ps:List Str) (sp:Sp):Prop where
 len:∀ vs H Q E,sp vs H Q E->vs.length=ps.length
 run:∀ (A:Around) (outer:List Env) (s:Shared) (H:Hp) (args:Args) (us:List Value) (vs:List V) (Q:VK) (E:XK),ck k A->v8 P w K mg base A outer s H->BindsTo s fd args (ps.zip us)->Vals vs us->sp vs H Q E ->
  codeAny (model P w) A (.call (.ref f) args) (CR CX outer P w H s Q E) s
variable{outer:List Env}{base:Heap}{mg:Str->Option Value}
theorem v8.make{K:R5}(e:v8 P w K mg base A outer s H)(C:Addr)(us:List Value)(kw:List (Str×Value)) :
  v8 P w K mg base (A.under (.builtin "type.__call__" ⟨.ref C::us,kw⟩)) outer s H:=⟨by first | exact e.frames | (simpa [X7,Code.envs,X8,pushEnvs] using e.frames),e.mod,e.bs,e.Ao,e.kK,e.Dg,e.bJ,e.bare⟩
section
variable{s':Shared}
theorem Inv.lS(I:Inv X Oa σ H s):v8 X.prog X.w X.K X.mg X.base X.A X.stack s H :=
 ⟨I.ok.frames,I.ok.mod,I.bs,SE I.ok.Ao I.sz,I.stack,I.sI,I.bJ,I.bare⟩
theorem Inv.after{Q:VK}(I:Inv X Oa σ H s)(h:CE X.stack X.prog X.w H s Q u s'):EP X Oa σ Q u s':=by
 obtain⟨v,H',os,bare,un,bJ,r,q⟩:=h;obtain⟨hh,g,d,t,os'⟩:=s';obtain rfl:os'=s.os:=os;exact⟨v,H',I.call (h':=hh) (g':=g) (d':=d) (t':=t) (ch:=[]) un bJ bare (λb z=>absurd z (by simp)),r,q⟩
end
def Binds(K:R5)(fd:FuncData)(ps:List Str)(ds:List Value):Prop :=
 ∀ (s:Shared) (us:List Value),K.In s.heap->(us++ds).length=ps.length->BindsTo s fd ⟨us,[]⟩ (ps.zip (us++ds))
variable{ps:List Str}{fd:FuncData}
theorem Binds.all{K:R5}(h:∀ us:List Value,us.length=ps.length->bindArgs fd ⟨us,[]⟩=pure (ps.zip us)):Binds K fd ps []:=λs us _ hl=>by
 rw[SK] at hl ⊢;exact .of_eq (h us hl)
variable{sp:Sp}{CX:Gg}
section
variable{f:Addr}{Pb:List V}{ds:List Value}{E:XK}{apos:Pos}{o:Expr}
structure Mk (K:R5) (C f:Addr):Prop where
 makes:YF K C=true
 init:SG K (.ref C) "__init__" = some (some (.ref f))
 fn:UL K (.ref f)=true
 kp:SN K (.ref C)=true
end
section
variable{f:Addr}{ks:List Str}{E:XK}{apos kpos:Pos}{o:Expr}{kws:List Keyword}{tk:TA}{nm:Option Str}
variable{g:List Value->List Value->List Value}{gV:List V->List V->List V}
end
structure bj (N P:List Str) (sc:Scope):Prop where
 kind:sc.kind=.function
 co:sc.isCoroutine=false
 gen:sc.isGenerator=false
 nd:N.Nodup
 pre:N.take P.length=P
 par:∀ x∈P,sc.names.lookup x=some .local\/sc.names.lookup x=some .cell
 GW:∀ y∈sc.names,y.2≠.free
theorem sy{kindOf:Str->Option NameKind}{x:Str}:∀ {binds:List (Str×Value)} {m:Str->Option Value},(∀ v,(x,v) ∉ binds)->bindL kindOf binds m x=m x
 | [],_,_=>rfl
 | (n,v)::r,m,h=>by
  unfold bindL;rw[sy λw hw=>h w (Sl _ hw)]
  split
  .have:x≠n:=by rintro rfl;exact h v Sq
   simp[this]
  .rfl
theorem sq{kindOf:Str->Option NameKind}{x:Str}:∀ {binds:List (Str×Value)} {m:Str->Option Value},(∀ v,(x,v) ∉ binds)->bindC kindOf binds m x=m x
 | [],_,_=>rfl
 | (n,v)::r,m,h=>by
  unfold bindC;rw[sq λw hw=>h w (Sl _ hw)]
  split
  .rfl
  .have:x≠n:=by rintro rfl;exact h v Sq
   simp[this]
theorem sE{kindOf:Str->Option NameKind}{x:Str}{v:Value}:∀ {P:List Str} {vs:List Value} {i:Nat} {m:Str->Option Value},P.Nodup->P[i]?=some x->vs[i]?=some v->kindOf x=some .local ->
  bindL kindOf (P.zip vs) m x=some v
 | [],_,_,_,_,h,_,_=>by simp at h
 | _::_,[],_,_,_,_,h,_=>by simp at h
 | p::P,w::vs,0,m,nd,h1,h2,hk=>by
  simp at h1 h2;subst h1;subst h2;show bindL kindOf ((p,w)::P.zip vs) m p=_;unfold bindL;rw[sy λv hv=>(V0.mp nd).1 (UP hv).1,if_pos hk];simp
 | p::P,w::vs,i+1,m,nd,h1,h2,hk=>by
  show bindL kindOf ((p,w)::P.zip vs) m x=_;unfold bindL;exact sE (i:=i) (V0.mp nd).2 (by simpa using h1) (by simpa using h2) hk
theorem rK{kindOf:Str->Option NameKind}{x:Str}{v:Value}:∀ {P:List Str} {vs:List Value} {i:Nat} {m:Str->Option Value},P.Nodup->P[i]?=some x->vs[i]?=some v->kindOf x≠some .local ->
  bindC kindOf (P.zip vs) m x=some v
 | [],_,_,_,_,h,_,_=>by simp at h
 | _::_,[],_,_,_,_,h,_=>by simp at h
 | p::P,w::vs,0,m,nd,h1,h2,hk=>by
  simp at h1 h2;subst h1;subst h2;show bindC kindOf ((p,w)::P.zip vs) m p=_;unfold bindC;rw[sq λv hv=>(V0.mp nd).1 (UP hv).1,if_neg hk];simp
 | p::P,w::vs,i+1,m,nd,h1,h2,hk=>by
  show bindC kindOf ((p,w)::P.zip vs) m x=_;unfold bindC;exact rK (i:=i) (V0.mp nd).2 (by simpa using h1) (by simpa using h2) hk
def start(N:List Str)(vs:List V):St:=vs.map some++R7 (N.length-vs.length) none
def lB(CX:Gg)(P:Program)(w:World)(K:R5)(mg:Str->Option Value)(base:Heap)(N:List Str)(qual:Str)(scope:Scope)(f:Addr)(cd:Value)(A:Around)(outer:List Env)(s:Shared)(H:Hp)(E:XK):Cx where
 prog:=P
 w:=w
 K:=K
 mg:=mg
 base:=base
 A:=A.deeper (envOfC qual scope s.heap.objs.size f cd)
 N:=N
 s₀:=s
 H₀:=H
 env:=envOfC qual scope s.heap.objs.size f cd
 outer:=outer
 stack:=envOfC qual scope s.heap.objs.size f cd::outer
 ex:=[]
 calm:=true
 fn:=λ_=>true
 pn:=[]
 xe:=λe s'=>wpAny (model P w) (A.deeper (envOfC qual scope s.heap.objs.size f cd)) (leaving (envOfC qual scope s.heap.objs.size f cd) e) (λ_ R0=>CX outer H s E e R0) (λe' R0=>CX outer H s E e' R0) s'
theorem wa{sc:Scope}(h:sc.names.lookup x=some .cell):∃ c,(cellsFrom n sc.names []).lookup x=some c:=by
 have q:=Vt sc.names n [] (.inl h);exact T_.mp q
variable{scope:Scope}
theorem r0{K:R5}{qual:Str}{f:Addr}{cd:Value}{s1:Shared}{E:XK}{vs:List V}
  (S:bj N ps scope) (hd:A.handled=none) (e0:v8 P w K mg base A outer s H) (hl:vs.length=ps.length) (r:Vals vs us)
  (x:InCallC s s.heap.objs.size (bindL (envOfC qual scope s.heap.objs.size f cd).kindOf (ps.zip us) λ_=>none) (cellsFrom (s.heap.objs.size+1) scope.names []) (bindC (envOfC qual scope s.heap.objs.size f cd).kindOf (ps.zip us) λ_=>none) s1) :
  Inv (lB CX P w K mg base N qual scope f cd A outer s H E) [] (start N vs) H s1:=by
 have Oy:ps.length<=N.length:=by have:=congrArg Yz S.pre;rw[U0] at this;lia
 obtain⟨h1,tk,rfl,hk⟩:=x.done;have oF:∀ b:Addr,b ∉ (lB CX P w K mg base N qual scope f cd A outer s H E).ex:=λb z=>absurd (show b∈([]:List Addr) from z) (by simp);refine⟨⟨e0.mod,S.kind,rfl,rfl,Se _,λy z c h1 h2=>?_,λy hy=>?_,λy c _ h=>?_,λ_=>hd,Around.frames_deeper e0.frames,.inr ⟨rfl,rfl⟩,λb z=>absurd z (oF b),e0.bs,e0.Ao,λb _ _=>oF b,λb z=>absurd z (oF b),e0.kK,e0.Dg⟩,
  rfl,e0.bare,Un.kept hk,⟨_,x.toInCall.ns,λi y v h1 h2 h3=>?_⟩,λy c h=>⟨_,x.cell y c h⟩,e0.bJ.fresh (Se _),λy c h=>?_,λp hp=>absurd (show p∈([]:List (Addr×Obj)) from hp) (by simp),e0.bJ.kept hk,?_⟩
 .exact name_of_addr x.apart (Uz h1) (Uz h2)
 .have hy:scope.names.lookup y=some .cell\/scope.names.lookup y=some .free:=hy;rcases hy with hy | hy
  .exact wa hy
  .exact absurd rfl (S.GW _ (Uz hy))
 .exact Vn (x.above y c (Uz h))
 .have hi:i<vs.length:=by
   unfold start at h2
   by_cases hi:i<vs.length
   .exact hi
   .rw[S2 (by simpa using hi)] at h2;rw[Vh] at h2
    split at h2 <;> cases h2
  have ha:vs[i]?=some v:=by
   unfold start at h2;rw[S6 (by simpa using hi),Sx] at h2;cases e:vs[i]? with
   | none=>rw[e] at h2;cases h2
   | some a=>rw[e] at h2;cases h2;rfl
  obtain⟨u,hu,rv⟩:=r.get ha;have hp:ps[i]?=some y:=by
   rw[<- S.pre,WA (by lia)];exact h1
  have ndP:ps.Nodup:=by rw[<- S.pre];exact S.nd.sublist (List.take_sublist _ _)
  refine⟨u,rv,?_⟩;rcases S.par y (Xh hp) with k | k
  .exact .inl ⟨k,sE ndP hp hu k⟩
  .obtain⟨c,e⟩:=wa (n:=s.heap.objs.size+1) k;refine .inr ⟨.inl k,c,e,?_⟩;have q:=x.cell y c e;rw[rK ndP hp hu (by show scope.names.lookup y≠_;rw[k];decide)] at q;exact q
 .exact e0.bJ.fresh (Vn (x.above y c (Uz h)))
 .unfold start;show _=N.length;rw[Sw,R_,VC];lia
theorem JU{K:R5}{f:Addr}{name qual:Str}{params:Arguments}{dV kV doc pm Ox ct oc:Value}{an od:Option Addr}
  {QJ:Array (Option Value)} (lk:K.lookup f=some ⟨oc,od,.func (Tg name qual params body scope dV kV doc pm an Ox ct),QJ⟩) (Pn:Ub K Ox qual=true) (S:bj N ps scope)
  (len:∀ vs H Q E,sp vs H Q E->vs.length=ps.length)
  (QM:∀ (A:Around) (outer:List Env) (s:Shared) (H:Hp) (vs:List V) (Q:VK) (E:XK),ck k (A.deeper (envOfC qual scope s.heap.objs.size f Ox))->sp vs H Q E ->
   ∃ t,kO (lB CX P w K mg base N qual scope f Ox A outer s H E) body t/\t { nx:=λ_ H'=>Q .bG H',rt:=Q } (start N vs) H) :
  aL P w K mg base CX (k+1) f (Tg name qual params body scope dV kV doc pm an Ox ct) ps sp:=by
 refine⟨len,λA outer s H args us vs Q E hr e0 hb r hsp=>?_⟩;have hl:=len _ _ _ _ hsp;have KX:K.In s.heap:=e0.mod.Dw.keeps λb o e=>(e0.bs b o e).1;have lim:s.heap.NoLimit:=e0.mod.nolimit.keeps λb o e=>(e0.bs b o e).1;have QT:∀ y∈ps.zip us,scope.names.lookup y.1=some .local\/(scope.names.lookup y.1=some .cell/\((cellsFrom (s.heap.objs.size+1) scope.names []).lookup y.1).isSome=true):=λ⟨n,v⟩ hy=>by
  rcases S.par n (UP hy).1 with q | q
  .exact .inl q
  .exact .inr ⟨q,Vt _ _ _ (.inl q)⟩
 refine Xa hr.depth (KX _ _ lk) rfl S.co S.gen rfl (XG KX Pn) (hb _ _ _ _ ?_);refine We S.kind QT λenv he s1 x=>?_;subst he;refine⟨lim.keeps x.toInCall.keep,codeAny_func ?_⟩;obtain⟨t,ht,hq⟩:=QM A outer s H vs Q E (hr.deeper _) hsp;have I:Inv (lB CX P w K mg base N qual scope f Ox A outer s H E) [] (start N vs) H s1:=r0 S hr.hd e0 hl r x;refine Tj (ht [] s1 (start N vs) H _ I hq) (λfl s' hs=>?_) λe s' hs=>hs;have fin:∀ {σ':St} {H':Hp} {v:V} {u:Value},Inv (lB CX P w K mg base N qual scope f Ox A outer s H E) [] σ' H' s'->RelV v u->Q v H'->CE outer P w H s Q u s' :=
  λ{σ' H' v u} J rv q=>⟨v,H',J.os,J.bare,J.base,J.bJ,rv,q⟩
 cases fl with
 | ret u =>
  obtain⟨v,σ',H',J,rv,q⟩:=hs;exact fin J rv q
 | next =>
  obtain⟨σ',H',J,q⟩:=hs;exact fin (v:=V.bG) (u:=SM) J rfl q
 | brk =>
  obtain⟨_,_,_,q⟩:=hs;exact S8 q
 | cont =>
  obtain⟨_,_,_,q⟩:=hs;exact S8 q
section
variable{id T:String}{r:List V->Hp->VK->Prop}
def MB(r:List V->Hp->VK->Prop)(t:TA):TE:=fun σ H Q=>t σ H λvs H1=>r vs H1 Q
theorem kb(hc:dc X (.builtin id) r)(hg:Gl X x)(hm:X.mg x=none)(hv:bootBuiltins x=some (.builtin id))(ha:PA X (e::es) t)(hn:autoParam (x ≠ "__name__") aD._auto_1)(Po:autoParam ((x==("__debug__" : Str))=false) aD._auto_1)
  (he:autoParam (starEach (e::es) X.env=(false,eval e X.env)::starEach es X.env) aR._auto_1) (Oy:autoParam ((backTo pos (starEach es X.env)).any (·.1)=false) aR._auto_1):PE X (.Call (.Name x p) (e::es) [] pos) (MB r t):=by
 intro Oa s σ H Q I h;refine T5 (j9 I hg hm hv ?_ hn Po);exact PyProof.Rows.callWith_builtin1 (cU (ha pos Oa s σ H _ I h) λus s1 ⟨vs,H1,I1,r1,q1⟩=>hc Oa s1 σ H1 vs us Q I1 r1 q1) he Oy
theorem rL(hc:dc X (.type T) r)(hg:Gl X x)(hm:X.mg x=none)(hv:bootBuiltins x=some (.type T))(ha:PA X (e::es) t)(hn:autoParam (x ≠ "__name__") aD._auto_1)(Po:autoParam ((x==("__debug__" : Str))=false) aD._auto_1)
  (he:autoParam (starEach (e::es) X.env=(false,eval e X.env)::starEach es X.env) aR._auto_1) (Oy:autoParam ((backTo pos (starEach es X.env)).any (·.1)=false) aR._auto_1):PE X (.Call (.Name x p) (e::es) [] pos) (MB r t):=by
 intro Oa s σ H Q I h;refine T5 (j9 I hg hm hv ?_ hn Po);exact Tf (cU (ha pos Oa s σ H _ I h) λus s1 ⟨vs,H1,I1,r1,q1⟩=>hc Oa s1 σ H1 vs us Q I1 r1 q1) he Oy
end
end L2
namespace HT
open PySem PyProof.Rows
section
open PySem.SeqAt
open PySem.AutoSeq1 (wpAny_loadPart')
open PySem.MeetsSeq PySem.MeetsSeq2 PySem.MeetsSeq3
end
variable{Q:Value->Shared->Prop}
section
variable{prog:Program}{w:World}{A:Around}{E:Value->Shared->Prop}{s:Shared}
theorem Fp{t b:Addr}{vs ws:List Value}(ht:IsTup s.heap t vs.toArray)(hb:IsTup s.heap b ws.toArray)(hv:vs≠[])
  (h1:ws=[]->Q (.ref t) s) (h2:ws≠[]->Q (.ref s.heap.objs.size) { s with heap:=s.heap.push { cls:=.type "tuple", data:=.seq (vs++ws).toArray } })
  (Qc:vs.length+ws.length<=sizeLine):wpAny (model prog w) A (binaryOp .Add (.ref t) (.ref b)) Q E s:=by
 obtain⟨⟨cls,dd,data,sl⟩,ho,hc,n,hd⟩:=id ht;obtain⟨⟨cls2,RB,data2,sl2⟩,QE,RG,n2,hd2⟩:=id hb;simp only at hc hd RG hd2;subst hc hd RG hd2;have e:vs.toArray++ws.toArray=(vs++ws).toArray:=by simp
 by_cases hw:ws=[]
 .exact X9 ⟨_,ho,rfl⟩ ⟨_,QE,rfl⟩ WJ Xw Vu Vi (U9 _ _)
   (tuple_addW1 t b vs.toArray ws.toArray n n2 dd RB sl sl2 (by simpa using hv) (by simp[hw])) ⟨ho,QE,h1 hw⟩
 .refine X9 ⟨_,ho,rfl⟩ ⟨_,QE,rfl⟩ WJ Xw Vu Vi (U9 _ _)
   (tuple_addW2 t b vs.toArray ws.toArray n n2 dd RB sl sl2 (by simpa using hv) (by simpa using hw) (by rw[Sf,Sf];exact Qc)) ⟨ho,QE,?_⟩
  rw[e];exact h2 hw
def du(n d:Nat):Option Int->Nat
 | none=>d
 | some v=>if v<0 then (v+(n:Int)).toNat else min v.toNat n
theorem uR(n d:Nat):du n d none=d:=rfl
theorem o7(n d k:Nat):du n d (some (k:Int))=min k n:=by
 show (if (k:Int)<0 then ((k:Int)+(n:Int)).toNat else min (k:Int).toNat n)=min k n;rw[if_neg (by lia),TH]
theorem IJ(n d:Nat)(hd:d<=n)(o:Option Int):du n d o<=n:=by
 cases o with
 | none=>exact hd
 | some v =>
  show (if v<0 then (v+(n:Int)).toNat else min v.toNat n)<=n
  by_cases hv:v<0
  .rw[if_pos hv];lia
  .rw[if_neg hv];exact VG _ _
theorem yU(v:Int)(n d:Nat):(if v<0 then max (v+(n:Int)) 0 else min v (n:Int))=((du n d (some v):Nat):Int):=by
 show (if v<0 then max (v+(n:Int)) 0 else min v (n:Int))=(((if v<0 then (v+(n:Int)).toNat else min v.toNat n):Nat):Int)
 by_cases hv:v<0
 .simp only[if_pos hv];lia
 .simp only[if_neg hv];lia
theorem xo(lo hi:Option Int)(n:Nat):U6 lo hi 1 (n:Int)=(((du n 0 lo:Nat):Int),((du n n hi:Nat):Int)):=by
 have h1:¬ ((1:Int)<0):=by lia
 unfold U6;simp only[h1,if_false];refine Prod.ext ?_ ?_
 .cases lo with
  | none=>rfl
  | some v=>exact yU v n 0
 .cases hi with
  | none=>rfl
  | some v=>exact yU v n n
theorem wK(i j:Nat):Up (i:Int) (j:Int) 1=j-i:=by
 unfold Up;have h1:(1:Int)>0:=by lia
 simp only[h1,if_true,Int.ediv_one]
 split <;> lia
theorem p6{v:Value}{o:Option Int}{Q:Option Int->Shared->Prop}(p:IsPart v o)(h:Q o s):wpAny (model prog w) A (Builtin.Slice.slicePartIndex v) Q E s:=by
 cases p with
 | none=>exact slicePart_none h
 | int i t=>exact slicePart_int h
theorem i4{sl:Addr}{vl vu:Value}{lo hi:Option Int}{n:Nat}{Q:Int×Int×Nat->Shared->Prop}(hs:s.heap.IsSliceOf sl vl vu .none)(pl:IsPart vl lo)(pu:IsPart vu hi)
  (h:Q (((du n 0 lo:Nat):Int),1,du n n hi-du n 0 lo) s):wpAny (model prog w) A (Wf (.ref sl) (pure (n:Int))) Q E s:=by
 obtain⟨os,Rj,Rb,RJ⟩:=id hs;unfold Wf Builtin.Slice.sliceFields;refine R4 (R4 (SH Rj RJ (x:=vl) rfl (R4 (SH Rj RJ (x:=vu) rfl (R4 (SH Rj RJ (x:=.none) rfl (R9 ?_)))))));refine R4 (slicePart_none ?_);show wpAny _ _ (if ((1:Int)==0)=true then _ else _) _ _ s;rw[if_neg (by decide)];refine R4 (p6 pl (R4 (p6 pu (R4 (R9 ?_)))));show wpAny _ _ (match U6 lo hi 1 (n:Int) with | (lo,hi)=>pure (lo,(1:Int),Up lo hi 1)) _ _ s;rw[xo lo hi n];show wpAny _ _ (pure (((du n 0 lo:Nat):Int),(1:Int),Up ((du n 0 lo:Nat):Int) ((du n n hi:Nat):Int) 1)) _ _ s;rw[wK];exact R9 h
theorem AW(xs:Array Value)(i k:Nat):((S7 k).filterMap λ(m:Nat)=>xs[((i:Int)+(m:Int)*1).toNat]?).toArray=((xs.toList.drop i).take k).toArray:=by
 have e:(λ(m:Nat)=>xs[((i:Int)+(m:Int)*1).toNat]?)=λm=>xs[i+m]?:=by
  funext m
  have:((i:Int)+(m:Int)*1).toNat=i+m:=by lia
  rw[this]
 rw[e];have:=pick_run xs i k;rw[List.filterMap_map] at this;have e2:((λx=>xs[x]?)∘λx=>i+x)=λm=>xs[i+m]?:=rfl;rw[e2] at this;rw[this]
theorem mC{t sl:Addr}{items:Array Value}{vl vu:Value}{lo hi:Option Int}(ht:IsTup s.heap t items)(hs:s.heap.IsSliceOf sl vl vu .none)(pl:IsPart vl lo)(pu:IsPart vu hi)
  (hw:¬ (du items.size 0 lo=0/\du items.size items.size hi=items.size))
  (h:Q (.ref s.heap.objs.size) { s with heap:=s.heap.push { cls:=.type "tuple", data:=.seq ((items.toList.drop (du items.size 0 lo)).take (du items.size items.size hi-du items.size 0 lo)).toArray } })
  (Qc:items.size<=sizeLine):wpAny (model prog w) A (getItem (.ref t) (.ref sl)) Q E s:=by
 have QA:sizeOk (.seq ((items.toList.drop (du items.size 0 lo)).take (du items.size items.size hi-du items.size 0 lo)).toArray):=by
  show ((items.toList.drop (du items.size 0 lo)).take (du items.size items.size hi-du items.size 0 lo)).toArray.size<=sizeLine;rw[Sf,U0,U1,V6];lia
 have hj:du items.size items.size hi<=items.size:=IJ _ _ (Se _) hi;obtain⟨os,Rj,Rb,RJ⟩:=id hs;have hTs:s.TypeIs (.ref sl) "slice" := ⟨os,Rj,Rb⟩
 unfold getItem
 try with_reducible refine T9 ?_
 first | refine R4 (R9 ?_) | skip
 refine R4 (X_ ht.typeIs (by decide) ?_);refine R4 (Ti (name:=Si "__getitem__") ht.typeIs S0
  (Uh S0 ht.typeIs Xq ?_ (XH _ _)))
 show wpAny _ _ (Wg (.ref t) >>= _) _ _ s;refine R4 (tupleItemsOf_ ht ?_);refine R4 (Yb hTs ?_);rw[if_pos (by decide)];refine R4 (i4 hs pl pu ?_);have hno:¬ ((((du items.size 0 lo:Nat):Int)==0&&(1:Int)==1&&(du items.size items.size hi-du items.size 0 lo)==items.size)=true):=by
  intro q;rw[SX,SX] at q;have q1:((du items.size 0 lo:Nat):Int)=0:=eq_of_beq q.1.1;have q2:du items.size items.size hi-du items.size 0 lo=items.size:=eq_of_beq q.2;exact hw ⟨by lia,by lia⟩
 show wpAny _ _ (if (((du items.size 0 lo:Nat):Int)==0&&(1:Int)==1&&(du items.size items.size hi-du items.size 0 lo)==items.size)=true then _ else _) _ _ s;rw[if_neg hno,AW]
 first
  | exact R4 (m:=Ux _) (Tz (R9 ⟨_,rfl,R9 h⟩) QA)
  | exact R4 (m:=Ux _) (Tz (R4 (R9 (R9 ⟨_,rfl,R9 h⟩))) QA)
  | exact R4 (R4 (m:=Ux _) (Tz (R9 (R9 ⟨_,rfl,R9 h⟩)) QA))
  | exact R4 (R4 (m:=Ux _) (Tz (R9 ⟨_,rfl,R9 h⟩) QA))
end
end HT
namespace L2
open PySem PySem.Spec PyProof.Rows
abbrev TO:=St->Hp->(Option Int->Hp->Prop)->Prop
def PO(X:Cx)(e:Option Expr)(t:TO):Prop :=
 ∀ (Oa:List (Addr×Obj)) (s:Shared) (σ:St) (H:Hp) (Q:Option Int->Hp->Prop),Inv X Oa σ H s->t σ H Q ->
  wpAny (model X.prog X.w) X.A (evalPart e X.env) (λu s'=>∃ o H',Inv X Oa σ H' s'/\IsPart u o/\Q o H') X.xe s
def Ej:TO:=λ_ H Q=>Q none H
def KW(t:TE):TO:=fun σ H Q=>t σ H λx H1=>∃ i,x=.int i/\Q (some i) H1
theorem intsAre_of{ns:List Int}:∀ {us:List Value},Vals (ns.map V.int) us->IntsAre us ns:=by
 induction ns with
 | nil=>intro us r;rw[UM] at r;cases r;exact .nil
 | cons n ns ih =>
  intro us r;rw[Su] at r;cases r with
  | cons r1 r2 =>
   obtain⟨t,e⟩:=r1;subst e;exact .cons n t (ih r2)
variable{pos:Pos}{e:Expr}{X:Cx}
variable{r:V->Option Int->Option Int->Hp->VK->Prop}
variable{xs:List V}
section
variable{te:TE}{lo hi:Option Expr}{tl th:TO}{p2:Pos}
theorem Fj:PO X none Ej:=by
 intro Oa s σ H Q I h;rw[evalPart_none];exact R9 ⟨none,H,I,.none,h⟩
theorem DU(h:PE X e te):PO X (some e) (KW te):=by
 intro Oa s σ H Q I hw;rw[evalPart_some];refine cU (h Oa s σ H _ I hw) λu s1 ⟨x,H1,I1,r1,q1⟩=>?_;obtain⟨i,rfl,q⟩:=q1;obtain⟨t,rfl⟩:=r1;exact⟨some i,H1,I1,.int i t,q⟩
def Dt(X:Cx)(r:V->Option Int->Option Int->Hp->VK->Prop):Prop :=
 ∀ (Oa:List (Addr×Obj)) (s:Shared) (σ:St) (H:Hp) (x:V) (v vl vu:Value) (lo hi:Option Int) (sl:Addr) (Q:VK),Inv X Oa σ H s->RelV x v->s.heap.IsSliceOf sl vl vu .none->IsPart vl lo->IsPart vu hi->r x lo hi H Q ->
  ∃ T id,typeLookup (.type T) "__getitem__" = pure (some (.builtin id))/\s.TypeIs v T/\wpAny (model X.prog X.w) X.A (getItem v (.ref sl)) (EP X Oa σ Q) X.xe s
theorem Dt.or{r':V->Option Int->Option Int->Hp->VK->Prop}(h:Dt X r)(h':Dt X r'):Dt X (λx lo hi H Q=>r x lo hi H Q\/r' x lo hi H Q):=by
 intro Oa s σ H x v vl vu lo hi sl Q I rx hs pl pu q;rcases q with q | q
 .exact h Oa s σ H x v vl vu lo hi sl Q I rx hs pl pu q
 .exact h' Oa s σ H x v vl vu lo hi sl Q I rx hs pl pu q
def NO(r:V->Option Int->Option Int->Hp->VK->Prop)(te:TE)(tl th:TO):TE:=fun σ H Q=>te σ H λx H1=>tl σ H1 λl H2=>th σ H2 λu H3=>r x l u H3 Q
theorem CL(hr:Dt X r)(he:PE X e te)(hl:PO X lo tl)(hu:PO X hi th):PE X (.Subscript e (.Slice lo hi none p2) pos) (NO r te tl th):=by
 intro Oa s σ H Q I h;refine Subscript_ (cU (he Oa s σ H _ I h) λv s1 ⟨x,H1,I1,r1,q1⟩=>?_);refine wpAny_Slice (cU (hl Oa s1 σ H1 _ I1 q1) λvl s2 ⟨l,H2,I2,pl,q2⟩=>cU (hu Oa s2 σ H2 _ I2 q2) λvu s3 ⟨u,H3,I3,pu,q3⟩=>?_);rw[evalPart_none];refine R9 ?_;have I4:Inv X Oa σ H3 { s3 with heap:=s3.heap.push { cls:=.type "slice", data:=.fields #[vl,vu,.none] } }:=I3.kept (t':=s3.toks) λb ob q=>R6 _ q;obtain⟨T,id,hT,ht,hg⟩:=hr Oa { s3 with heap:=s3.heap.push { cls:=.type "slice", data:=.fields #[vl,vu,.none] } } σ H3 x v vl vu l u s3.heap.objs.size Q I4 r1 (Zc ..) pl pu q3;show wpAny (model X.prog X.w) X.A (subscriptTail e (.Slice lo hi none p2) v (.ref s3.heap.objs.size)) (EP X Oa σ Q) X.xe { s3 with heap:=s3.heap.push { cls:=.type "slice", data:=.fields #[vl,vu,.none] } };exact tail_any (ops:=[.ref s3.heap.objs.size,v]) ht hT hg (by with_unfolding_all rfl)
def wj(xs:List V)(lo hi:Option Int):List V:=(xs.drop (HT.du xs.length 0 lo)).take (HT.du xs.length xs.length hi-HT.du xs.length 0 lo)
theorem n8(xs:List V)(lo hi:Option Int):(wj xs lo hi).length<=xs.length:=by
 unfold wj;rw[U0,U1];lia
def Ly(K:R5):V->Option Int->Option Int->Hp->VK->Prop:=λx lo hi H Q=>∃ a xs,x=.ref a/\gk K H a xs ∧
 ¬ (HT.du xs.length 0 lo=0/\HT.du xs.length xs.length hi=xs.length)/\∀ p,H p=none->Q (.ref p) (upd H p (.tup (wj xs lo hi)))
theorem HW:Dt X (Ly X.K):=by
 intro Oa s σ H x v vl vu lo hi sl Q I rx hs pl pu h;obtain⟨a,xs,rfl,hx,hw,q⟩:=h;cases rx;obtain⟨Og,r,ht,hz⟩:=I.tuple hx;have hlen:Og.toArray.size=xs.length:=by rw[Sf];exact r.length.symm
 refine⟨"tuple", _,S0.lookup,ht.typeIs,?_⟩;refine HT.mC ht hs pl pu (by rw[hlen];exact hw) ?_ (by rw[hlen];exact hz);rw[hlen];refine⟨.ref s.heap.objs.size,_,I.laid (t':=s.toks) (o:=.tup (wj xs lo hi)) (λb ob q=>R6 _ q) (Se _) ?_,rfl,q _ (I.bJ.fresh (Se _))⟩;exact⟨SE (n8 xs lo hi) hz,_,(r.drop (HT.du xs.length 0 lo)).take (HT.du xs.length xs.length hi-HT.du xs.length 0 lo),Xo _ _⟩
def FD(K:R5):R2:=λx y H Q=>∃ a b xs ys,x=.ref a/\y=.ref b/\gk K H a xs/\gk K H b ys/\xs≠[]/\xs.length+ys.length<=sizeLine ∧
 (ys=[]->Q (.ref a) H)/\(ys≠[]->∀ p,H p=none->Q (.ref p) (upd H p (.tup (xs++ys))))
theorem Vals.lV{us:List Value}(r:Vals xs us):us=[] ↔ xs=[]:=by
 cases r with
 | nil=>simp
 | cons _ _=>simp
theorem EV:gA X (binaryOp .Add) (FD X.K):=by
 intro Oa s σ H x y v u Q I rx ry h;obtain⟨a,b,xs,ys,rfl,rfl,ha,hb,hx,hz,q1,q2⟩:=h;cases rx;cases ry;obtain⟨Og,r1,p1,_⟩:=I.tuple ha;obtain⟨Qs,r2,p2,_⟩:=I.tuple hb;refine HT.Fp p1 p2 (λz=>hx (r1.lV.mp z)) (λz=>⟨.ref a,H,I,rfl,q1 (r2.lV.mp z)⟩) (λz=>?_) (by rw[<- r1.length,<- r2.length];exact hz);refine⟨.ref s.heap.objs.size,_,I.laid (t':=s.toks) (o:=.tup (xs++ys)) (λb ob q=>R6 _ q) (Se _) ?_,rfl,q2 (λw=>z (r2.lV.mpr w)) _ (I.bJ.fresh (Se _))⟩;exact⟨by rw[Sw];exact hz,_,r1.append r2,Xo _ _⟩
end
def Eh(n:Nat)(i:Int):Option Nat:=if 0<=i then (if i<n then some i.toNat else none) else if -(n:Int)<=i then some (i+n).toNat else none
variable{α:Type}
def uB(xs:List α)(i:Int):Option α:=(Eh xs.length i).bind λj=>xs[j]?
variable{j n:Nat}{i:Int}
theorem yE(h:Eh n i=some j):seqIndex? i n=some j/\j<n/\-(n:Int)<=i/\i<n:=by
 unfold Eh at h
 by_cases h0:0<=i
 .rw[if_pos h0] at h
  by_cases h1:i<n
  .rw[if_pos h1] at h;have e:i.toNat=j:=Sm h;exact⟨by rw[YA h0 h1,e],by lia,by lia,h1⟩
  .rw[if_neg h1] at h;cases h
 .rw[if_neg h0] at h
  by_cases h1:-(n:Int)<=i
  .rw[if_pos h1] at h;have e:(i+n).toNat=j:=Sm h;exact⟨by rw[Yc (by lia) h1,e],by lia,h1,by lia⟩
  .rw[if_neg h1] at h;cases h
theorem uf{xs:List α}{v:α}(h:uB xs i=some v):∃ j,seqIndex? i xs.length=some j/\xs[j]?=some v/\j<xs.length/\-(xs.length:Int)<=i/\i<xs.length:=by
 unfold uB at h;cases e:Eh xs.length i with
 | none=>rw[e] at h;cases h
 | some j =>
  rw[e] at h;obtain⟨h1,h2,h3,h4⟩:=yE e;exact⟨j,h1,h,h2,h3,h4⟩
theorem uc{xs:List α}{v:α}(h:xs[j]?=some v):uB xs (j:Int)=some v:=by
 have hj:j<xs.length:=(S5.mp h).1;have e:Eh xs.length (j:Int)=some j:=by
  unfold Eh;rw[if_pos (by lia),if_pos (by lia)];simp
 unfold uB;rw[e];exact h
def ub(b:Expr):Prop:=∀ o i,subscripted b false o i=operate [o,i] (getItem o i)
def EE(X:Cx)(r:R2):Prop :=
 ∀ (value slice:Expr) (Oa:List (Addr×Obj)) (s:Shared) (σ:St) (H:Hp) (x y:V) (v u:Value) (Q:VK),Inv X Oa σ H s->RelV x v->RelV y u->r x y H Q ->
  subscripted slice false v u=operate [v,u] (getItem v u)->wpAny (model X.prog X.w) X.A (subscriptTail value slice v u) (EP X Oa σ Q) X.xe s
def Nh(X:Cx)(id:String)(r:V->List V->Hp->VK->Prop):Prop :=
 ∀ (Oa:List (Addr×Obj)) (s:Shared) (σ:St) (H:Hp) (x:V) (xs:List V) (v:Value) (us:List Value) (Q:VK),Inv X Oa σ H s->RelV x v->Vals xs us->r x xs H Q ->
  wpAny (model X.prog X.w) X.A (call (.builtin id) (v::us)) (EP X Oa σ Q) X.xe s
variable{Og:List Value}{s:Shared}{H:Hp}{σ:St}{Oa:List (Addr×Obj)}
section
variable{a b:Expr}{ta tb:TE}
theorem EE.or{r r':R2}(h:EE X r)(h':EE X r'):EE X (λx y H Q=>r x y H Q\/r' x y H Q):=by
 intro value slice Oa s σ H x y v u Q I rx ry q hs;rcases q with q | q
 .exact h value slice Oa s σ H x y v u Q I rx ry q hs
 .exact h' value slice Oa s σ H x y v u Q I rx ry q hs
theorem JE{r:R2}(hr:EE X r)(ha:PE X a ta)(hb:PE X b tb)(hs:ub b):PE X (.Subscript a b pos) (Jg r ta tb):=by
 intro Oa s σ H Q I h;exact Subscript_ (GN ha hb I h λv u s2 x y H2 I2 rx ry q=>hr a b Oa s2 σ H2 x y v u Q I2 rx ry q (hs _ _))
def JN(K:R5):R2:=λx y H Q=>∃ p xs i v,x=.ref p/\y=.int i/\gS K H p xs/\uB xs i=some v/\Q v H
def J5(K:R5):R2:=λx y H Q=>∃ p xs i v,x=.ref p/\y=.int i/\gk K H p xs/\uB xs i=some v/\Q v H
def KA:R2:=λx y H Q=>∃ z i c,x=.str z/\y=.int i/\z.length<=sizeLine/\uB z.cps.toList i=some c/\Q (.str ⟨#[c]⟩) H
theorem DT:EE X (JN X.K):=by
 intro value slice Oa s σ H x y v u Q I rx ry h hs;obtain⟨p,xs,i,z,rfl,rfl,hq,he,q⟩:=h;cases rx;obtain⟨t,rfl⟩:=ry;obtain⟨Og,r,pl,hz⟩:=I.list hq;obtain⟨j,h1,h2,h3,h4,h5⟩:=uf he;obtain⟨w,ew,Qf⟩:=r.get h2;have hl:=r.length;have hn:=nJ;have fin:EP X Oa σ Q w s:=⟨z,H,I,Qf,q⟩
 by_cases h0:0<=i
 .have hj:i.toNat=j:=by
   rw[YA h0 h5] at h1;exact Sm h1
  exact item_listR pl.isList h0 (by lia) (by rw[hj];simpa using ew) fin hs
 .have hj:(i+(Og.toArray.size:Int)).toNat=j:=by
   rw[Yc (by lia) h4] at h1;rw[Sf,<- hl];exact Sm h1
  exact WW (x:=w) pl.isList.typeIs Yd.lookup
   (wpAny_getItem_list_neg (Q:=λr s'=>r=w/\EP X Oa σ Q r s') pl.isList (by lia) (by rw[Sf] <;> lia) (by lia) (by rw[hj];simpa using ew) ⟨rfl,fin⟩) hs
theorem IP:EE X (J5 X.K):=by
 intro value slice Oa s σ H x y v u Q I rx ry h hs;obtain⟨p,xs,i,z,rfl,rfl,hq,he,q⟩:=h;cases rx;obtain⟨t,rfl⟩:=ry;obtain⟨Og,r,pl,hz⟩:=I.tuple hq;obtain⟨j,h1,h2,h3,h4,h5⟩:=uf he;obtain⟨w,ew,Qf⟩:=r.get h2;have hl:=r.length;have hn:=nJ;have fin:EP X Oa σ Q w s:=⟨z,H,I,Qf,q⟩
 exact WW (x:=w) pl.typeIs slot_tuple_getitem.lookup
  (getItem_tuple (j:=j) (Q:=λr s'=>r=w/\EP X Oa σ Q r s') pl (by lia) (by lia) (by rw[Sf,<- hl];exact h1) (by simpa using ew) ⟨rfl,fin⟩) hs
theorem IL:EE X KA:=by
 intro value slice Oa s σ H x y v u Q I rx ry h hs;obtain⟨z,i,c,rfl,rfl,hz,he,q⟩:=h;obtain⟨t,rfl⟩:=rx;obtain⟨t',rfl⟩:=ry;obtain⟨j,h1,h2,h3,h4,h5⟩:=uf he;have hl:z.cps.toList.length=z.length:=by simp[Str.length]
 rw[hl] at h1 h4 h5;have hn:=nJ;exact tail_any (typeIs_str s z t) slot_str_getitem.lookup (getItem_str (c:=c) (by
  have e1:decide (i < -(2^63:Int))=false:=decide_eq_false (by lia);have e2:decide (i>=2^63)=false:=decide_eq_false (by lia);rw[e1,e2,Bool.or_false]) (by rw[h1];simpa using h2) ⟨.str ⟨#[c]⟩,H,I.tok _,⟨_,rfl⟩,q⟩) hs
def Nx(K:R5):R2:=λx y H Q=>JN K x y H Q\/J5 K x y H Q\/KA x y H Q
theorem Iw:EE X (Nx X.K):=DT.or (IP.or IL)
theorem xa(Og:List Value)(n j:Nat)(u:Value):WX (·.setIfInBounds j u) { cls:=.type "list", data:=.seq Og.toArray n }={ cls:=.type "list", data:=.seq (Og.set j u).toArray n }:=by
 simp[WX]
theorem Inv.lst{Oa:List (Addr×Obj)}{σ:St}{H:Hp}{s:Shared}{p:Addr}{xs:List V}(I:Inv X Oa σ H s)(h:H p=some (.lst xs)) :
  ∃ (Og:List Value) (n:Nat),Vals xs Og/\s.heap.get? p=some { cls:=.type "list", data:=.seq Og.toArray n }/\xs.length<=sizeLine:=by
 obtain⟨z,Og,n,r,e⟩:=I.bJ p _ h;exact⟨Og,n,r,e,z⟩
theorem Inv.GG{p:Addr}{ys:List V}{its':List Value}{n':Nat}{f:Obj->Obj}(I:Inv X Oa σ H s)(h:H p=some (.lst xs))
  (ho:s.heap.get? p=some { cls:=.type "list", data:=.seq Og.toArray n }) (hf:f { cls:=.type "list", data:=.seq Og.toArray n }={ cls:=.type "list", data:=.seq its'.toArray n' }) (r:Vals ys its') (hz:ys.length<=sizeLine) (t:Nat) :
  Inv X Oa σ (upd H p (.lst ys)) { s with heap:=s.heap.update p f,toks:=t }:=by
 have e:(s.heap.update p f).get? p=some { cls:=.type "list", data:=.seq its'.toArray n' }:=by
  rw[TZ f ho (by rw[hf] <;> rfl),hf]
 refine I.write (x:=p) (e:=p) (by rw[h];trivial) (.inl rfl) (λb u hb q=>(S9 _ _ (T7 hb)).trans q) ⟨_,e⟩ ?_;exact⟨hz,its',n',r,e⟩
def JC:V->V->V->Hp->(Hp->Prop)->Prop:=λo i v H Q=>∃ p xs k j,o=.ref p/\i=.int k/\H p=some (.lst xs)/\Eh xs.length k=some j/\Q (upd H p (.lst (xs.set j v)))
theorem set_list:Kt X JC:=by
 intro Oa s σ H o i v ov iv u Q I ro ri rv h;obtain⟨p,xs,k,j,rfl,rfl,hp,hj,q⟩:=h;cases ro;obtain⟨t,rfl⟩:=ri;obtain⟨Og,n,r,ho,hz⟩:=I.lst hp;obtain⟨h1,h2,h3,h4⟩:=yE hj;have hl:=r.length;have hn:=nJ;have I':Inv X Oa σ (upd H p (.lst (xs.set j v))) { s with heap:=s.heap.update p (WX (·.setIfInBounds j u)) } :=
  I.GG hp ho (xa Og n j u) (r.set rv j) (by rw[W8];exact hz) s.toks
 by_cases h0:0<=k
 .have hk:k.toNat=j:=by
   rw[YA h0 h4] at h1;exact Sm h1
  exact PySem.W.ki_setAt ho h0 (by lia) (by rw[Sf,<- hl];exact h4) (by rw[hk];exact⟨_,I',q⟩)
 .have hk:(k+(Og.toArray.size:Int)).toNat=j:=by
   rw[Yc (by lia) h3] at h1;rw[Sf,<- hl];exact Sm h1
  exact PySem.W.ki_setBack ho (by lia) (by rw[Sf,<- hl];exact h3) (by lia) (by rw[hk];exact⟨_,I',q⟩)
theorem sH(lo hi:Option Int)(n:Nat):(sliceBounds lo hi none n).1=((HT.du n 0 lo:Nat):Int)/\(sliceBounds lo hi none n).2.1=((HT.du n n hi:Nat):Int)/\(sliceBounds lo hi none n).2.2=1:=by
 refine⟨?_,?_,rfl⟩
 .cases lo with
  | none=>simp[sliceBounds,HT.du]
  | some i =>
   simp only[sliceBounds,HT.du,Yq,show (1:Int)>0 by decide,if_true]
   by_cases h:i<0
   .simp only[h,if_true] <;> lia
   .simp only[h,if_false] <;> lia
 .cases hi with
  | none=>simp[sliceBounds,HT.du]
  | some i =>
   simp only[sliceBounds,HT.du,Yq,show (1:Int)>0 by decide,if_true]
   by_cases h:i<0
   .simp only[h,if_true] <;> lia
   .simp only[h,if_false] <;> lia
theorem rj(Og:List Value)(lo hi:Option Int):slicePick Og.toArray lo hi none=((Og.drop (HT.du Og.length 0 lo)).take (HT.du Og.length Og.length hi-HT.du Og.length 0 lo)).toArray:=by
 obtain⟨h1,h2,h3⟩:=sH lo hi Og.toArray.size;unfold slicePick;rw[h1,h2,h3];simp only[sliceRange_one,pick_run,Sf] <;> rfl
def LQ(K:R5):V->Option Int->Option Int->Hp->VK->Prop:=λx lo hi H Q=>∃ a xs,x=.ref a/\gS K H a xs/\∀ p,H p=none->Q (.ref p) (upd H p (.lst (wj xs lo hi)))
theorem EC:Dt X (LQ X.K):=by
 intro Oa s σ H x v vl vu lo hi sl Q I rx hs pl pu h;obtain⟨a,xs,rfl,hx,q⟩:=h;cases rx;obtain⟨Og,r,ht,hz⟩:=I.list hx;have hlen:=r.length;refine⟨"list", _,Yd.lookup,ht.isList.typeIs,?_⟩;refine wpAny_getItem_list_slice ht.isList hs pl pu .none (by simp) ?_ (by rw[Sf] <;> lia);rw[rj,<- hlen];refine⟨.ref s.heap.objs.size,_,I.laid (t':=s.toks) (o:=.lst (wj xs lo hi)) (λb ob q=>R6 _ q) (Se _) ?_,rfl,q _ (I.bJ.fresh (Se _))⟩;exact⟨SE (n8 xs lo hi) hz,_,0,(r.drop (HT.du xs.length 0 lo)).take (HT.du xs.length xs.length hi-HT.du xs.length 0 lo),Sg _ rfl⟩
theorem ug:dc X (.builtin "len") (λxs H Q=>∃ p ys,xs=[.ref p]/\(gS X.K H p ys\/gk X.K H p ys)/\Q (.int ys.length) H):=by
 intro Oa s σ H xs us Q I r h;obtain⟨p,ys,rfl,hq,q⟩:=h;obtain⟨u,rfl,rx⟩:=vals1 r;cases rx;have hn:=nJ;rcases hq with hq | hq
 .obtain⟨Og,r',pl,hz⟩:=I.list hq;have hlen:=r'.length;exact Calls.call_len_list pl.isList (by simp only[Sf] <;> lia) ⟨.int ys.length,H,I.tok _,⟨s.toks+1,by rw[Sf,hlen]⟩,q⟩
 .obtain⟨Og,r',pl,hz⟩:=I.tuple hq;have hlen:=r'.length;exact len_tuple pl (by simp only[Sf] <;> lia) ⟨.int ys.length,H,I.tok _,⟨s.toks+1,by rw[Sf,hlen]⟩,q⟩
theorem tj:dc X (.builtin "len") (λxs H Q=>∃ z,xs=[.str z]/\z.length<=sizeLine/\Q (.int z.length) H):=by
 intro Oa s σ H xs us Q I r h;obtain⟨z,rfl,hz,q⟩:=h;obtain⟨u,rfl,t,rfl⟩:=vals1 r;have hn:=nJ;exact len_str (by lia) ⟨.int z.length,H,I.tok _,⟨_,rfl⟩,q⟩
theorem dc.or{f:Value}{r r':List V->Hp->VK->Prop}(h:dc X f r)(h':dc X f r'):dc X f (λxs H Q=>r xs H Q\/r' xs H Q):=by
 intro Oa s σ H xs us Q I rs q;rcases q with q | q
 .exact h Oa s σ H xs us Q I rs q
 .exact h' Oa s σ H xs us Q I rs q
theorem lW:dc X (.type "list") (λxs H Q=>∃ p ys,xs=[.ref p]/\(gS X.K H p ys\/gk X.K H p ys)/\∀ l,H l=none->Q (.ref l) (upd H l (.lst ys))):=by
 intro Oa s σ H xs us Q I r h;obtain⟨p,ys,rfl,hq,q⟩:=h;obtain⟨u,rfl,rx⟩:=vals1 r;cases rx;have fin:∀ (Og:List Value),Vals ys Og->ys.length<=sizeLine->∀ (h':Heap) (c':Nat),(∀ b o',s.heap.get? b=some o'->h'.get? b=some o') ->
   h'.get? s.heap.objs.size=some { cls:=.type "list", dict:=none,data:=.seq Og.toArray c',slots:=#[] }->EP X Oa σ Q (.ref s.heap.objs.size) { s with heap:=h' }:=λOg r' hz h' c' kp e =>
  ⟨.ref s.heap.objs.size,_,I.laid (t':=s.toks) kp (Se _) (show bZ X.prog X.w _ h' _ (.lst ys) from ⟨hz,Og,c',r',e⟩),rfl,q _ (I.bJ.fresh (Se _))⟩
 rcases hq with hq | hq
 .obtain⟨Og,r',pl,hz⟩:=I.list hq;have hlen:=r'.length;obtain⟨o,ho,hc,n,hd⟩:=pl.isList;exact call_list_seq p (.inl rfl) ho hc hd (λh' c' kp e=>fin Og r' hz h' c' kp e) (by simp only[Sf] <;> lia)
 .obtain⟨Og,r',pl,hz⟩:=I.tuple hq;have hlen:=r'.length;obtain⟨o,ho,hc,n,hd⟩:=pl;exact call_list_seq p (.inr rfl) ho hc hd (λh' c' kp e=>fin Og r' hz h' c' kp e) (by simp only[Sf] <;> lia)
theorem rl:dc X (.type "tuple") (λxs H Q=>∃ p ys,xs=[.ref p]/\((gS X.K H p ys/\∀ l,H l=none->Q (.ref l) (upd H l (.tup ys)))\/(gk X.K H p ys/\Q (.ref p) H))):=by
 intro Oa s σ H xs us Q I r h;obtain⟨p,ys,rfl,h⟩:=h;obtain⟨u,rfl,rx⟩:=vals1 r;cases rx;rcases h with ⟨hq,q⟩ | ⟨hq,q⟩
 .obtain⟨Og,r',pl,hz⟩:=I.list hq;have hlen:=r'.length;refine call_tuple_list pl.isList (λh' kp=>?_) (by simp only[Sf] <;> lia);have I1:Inv X Oa σ H { s with heap:=h' }:=I.kept (t':=s.toks) kp;have I2:Inv X Oa σ (upd H h'.objs.size (.tup ys)) { s with heap:=h'.push { cls:=.type "tuple", data:=.seq Og.toArray } } :=
   I1.laid (t':=s.toks) (λb o e=>R6 _ e) (Se _) (show bZ X.prog X.w _ _ _ (.tup ys) from ⟨hz,Og,r',Xo _ _⟩)
  exact⟨.ref h'.objs.size,_,I2,rfl,q _ (I1.bJ.fresh (Se _))⟩
 .obtain⟨Og,r',pl,hz⟩:=I.tuple hq;exact call_tuple_same pl ⟨.ref p,H,I,rfl,q⟩
def My(K:R5)(T:String)(x:V)(H:Hp):Prop:=match x with
 | .str _=>T = "str"
 | .int _=>T = "int"
 | .ref p=>(T = "list" /\ ∃ xs,gS K H p xs)\/(T = "tuple" /\ ∃ o,K.lookup p=some o/\o.cls=.type "tuple" /\ o.dict=none) ∨
   (T = "dict" /\ ((∃ OV,H p=some (.dK OV))\/∃ OV,H p=some (.dT OV)))\/(T = "set" /\ ∃ S n,H p=some (.set S n))
 | _=>False
theorem AH{T:String}{x:V}{v:Value}(I:Inv X Oa σ H s)(r:RelV x v)(ty:My X.K T x H) :
  s.TypeIs v T/\∀ a,v=.ref a->∃ ob,s.heap.get? a=some ob/\ob.dict=none:=by
 cases x with
 | str z =>
  obtain⟨t,rfl⟩:=r;cases (show T = "str" from ty);exact⟨typeIs_str s z t,λ_ e=>nomatch e⟩
 | int i =>
  obtain⟨t,rfl⟩:=r;cases (show T = "int" from ty);exact⟨WY s i t,λ_ e=>nomatch e⟩
 | ref p =>
  cases r;rcases ty with ⟨rfl,xs,hq⟩ | ⟨rfl,o,hk,hc,hd⟩ | ⟨rfl,hk⟩ | ⟨rfl,S,n,hk⟩
  .obtain⟨Og,_,pl,_⟩:=I.list hq;refine⟨pl.isList.typeIs,λa e=>?_⟩;cases e;obtain⟨o,n,e,c,hd,_⟩:=pl;exact⟨o,e,hd⟩
  .refine⟨⟨o,I.hU p o hk,hc⟩,λa e=>?_⟩;cases e;exact⟨o,I.hU _ o hk,hd⟩
  .have z:∃ o,s.heap.get? p=some o/\o.ExactDict:=by
    rcases hk with ⟨OV,hk⟩ | ⟨OV,hk⟩
    .obtain⟨_,_,_,_,o,_,_,e,ex,_⟩:=I.bJ p _ hk;exact⟨o,e,ex⟩
    .obtain⟨_,_,_,_,o,_,_,e,ex,_⟩:=I.bJ p _ hk;exact⟨o,e,ex⟩
   obtain⟨o,e,ex⟩:=z;refine⟨⟨o,e,ex.1⟩,λa e2=>?_⟩;cases e2;exact⟨o,e,ex.2.1⟩
  .obtain⟨o,_,_,_,e,ex,_⟩:=I.bJ p _ hk;refine⟨⟨o,e,ex.1⟩,λa e2=>?_⟩;cases e2;exact⟨o,e,ex.2.1⟩
 | _=>exact S8 ty
def Mz(K:R5)(T:String)(r:V->List V->Hp->VK->Prop)(to:TE):TE:=fun σ H Q=>to σ H λx H1=>My K T x H1/\r x [] H1 Q
def NJ(K:R5)(T:String)(r:V->List V->Hp->VK->Prop)(to:TE)(t:TA):TE:=fun σ H Q=>to σ H λx H1=>My K T x H1/\t σ H1 λxs H2=>r x xs H2 Q
variable{o:Expr}{es:List Expr}{to:TE}{t:TA}{name:Str}{apos Om:Pos}{T id:String}{r:V->List V->Hp->VK->Prop}
theorem Hy(pa:PlainAttrs T)(slot:Slot T name id)(hty:typeOf (.builtin id)=pure (.type "method_descriptor"))(hm:Nh X id r)(ho:PE X o to)
  (Pp:autoParam (attributeBase o name X.env (eval o X.env)=eval o X.env) aR._auto_1) (Pq:autoParam ((apos.endLine==Om.line)=true) aR._auto_1):PE X (.Call (.Attribute o name apos) [] [] Om) (Mz X.K T r to):=by
 intro Oa s σ H Q I h;refine wpAny_Call_method0_late Pp Pq (cU (ho Oa s σ H _ I h) λv s1 ⟨x,H1,I1,r1,ty,q1⟩=>?_);obtain⟨h1,h2⟩:=AH I1 r1 ty;exact⟨T,id,pa,slot,hty,h1,h2,WZ rfl (PySem.evalArgs_none (hm Oa s1 σ H1 x [] v [] Q I1 r1 .nil q1))⟩
theorem FO(pa:PlainAttrs T)(slot:Slot T name id)(hty:typeOf (.builtin id)=pure (.type "method_descriptor"))(hm:Nh X id r)(ho:PE X o to)(ha:PA X (e::es) t)
  (Pp:autoParam (attributeBase o name X.env (eval o X.env)=eval o X.env) aR._auto_1)
  (QR:autoParam (((backTo Om (starEach (e::es) X.env)).all (λx=>!x.1)&&(backToKw Om (keywordEach [] X.env)).all (λx=>x.1.isSome)
   && decide ((e::es).length+([]:List Keyword).length+(if ([]:List Keyword).isEmpty then 0 else 1)<30))=true) aR._auto_1)
  (Pq:autoParam ((apos.endLine==Om.line)=true) aR._auto_1) (hs:autoParam (starEach (e::es) X.env=(false,eval e X.env)::starEach es X.env) aR._auto_1) (P0:autoParam ((backTo Om (starEach es X.env)).any (·.1)=false) aR._auto_1) :
  PE X (.Call (.Attribute o name apos) (e::es) [] Om) (NJ X.K T r to t):=by
 intro Oa s σ H Q I h;refine wpAny_Call_method_late Pp QR Pq rfl (cU (ho Oa s σ H _ I h) λv s1 ⟨x,H1,I1,r1,ty,q1⟩=>?_);obtain⟨h1,h2⟩:=AH I1 r1 ty;refine⟨T,id,pa,slot,hty,h1,h2,?_⟩;have hA:=ha Om Oa s1 σ H1 _ I1 q1;rw[hs] at hA ⊢;refine WZ (by show (false||(backTo Om (starEach es X.env)).any (·.1))=false;rw[P0] <;> rfl) (Calls.evalArgs_plain ?_);exact cU hA λus s2 ⟨vs,H2,I2,r2,q2⟩=>hm Oa s2 σ H2 x vs v us Q I2 r1 r2 q2
end
def Nw(X:Cx)(id:String)(r:V->List V->Hp->VK->Prop):Prop :=
 ∀ (Oa:List (Addr×Obj)) (s:Shared) (σ:St) (H:Hp) (x:V) (xs:List V) (v:Value) (us:List Value) (Q:VK),Inv X Oa σ H s->RelV x v->Vals xs us->r x xs H Q ->
  wpAny (model X.prog X.w) X.A (call (.builtin id) (v::us)) (EP X Oa σ Q) X.xe s
theorem Vals.one:∀ {x:V} {us:List Value},Vals [x] us->∃ u,us=[u]/\RelV x u
 | _,_,.cons r .nil=>⟨_,rfl,r⟩
theorem Vals.zero:∀ {us:List Value},Vals [] us->us=[]
 | _,.nil=>rfl
theorem Vals.rep{xs:List V}{us:List Value}(h:Vals xs us):∀ k:Nat,Vals (R7 k xs).flatten (R7 k us).flatten
 | 0=>.nil
 | k+1=>by
  rw[SW,SW,TV,TV];exact Vals.append h (Vals.rep h k)
theorem foldl_rep(Og:List Value):∀ (k:Nat) (acc:List Value),
  Wh (λx1 x2=>x1++x2) acc.toArray (R7 k Og.toArray)=(acc++(R7 k Og).flatten).toArray
 | 0,acc=>by simp
 | k+1,acc=>by
  have e:acc.toArray++Og.toArray=(acc++Og).toArray:=by simp
  have e2:(acc++Og)++(R7 k Og).flatten=acc++(R7 (k+1) Og).flatten:=by
   rw[SW,TV,Vv]
  rw[<- e2,<- foldl_rep Og k (acc++Og),<- e,SW,List.foldl_cons]
variable{t':Nat}
section
variable{l b:Addr}{ys zs:List V}
theorem Inv.Jj{its':List Value}{f:Array Value->Array Value}(I:Inv X Oa σ H s)(hH:H l=some (.lst xs))
  (e:s.heap.get? l=some { cls:=.type "list", data:=.seq Og.toArray n }) (hf:f Og.toArray=its'.toArray) (hv:Vals ys its') (hz:ys.length<=sizeLine) :
  Inv X Oa σ (upd H l (.lst ys)) { s with heap:=s.heap.update l (WX f),toks:=t' }:=by
 have q:=PySem.IsL.update e f;rw[hf] at q;refine I.write (x:=l) (e:=l) (by rw[hH];exact trivial) (.inl rfl) (λb' u hb hu=>(S9 s.heap (WX f) (T7 hb)).trans hu) ⟨_,q⟩ ?_;exact⟨hz,its',_,hv,q⟩
theorem Inv.JV(I:Inv X Oa σ H s)(hv:Vals ys Og)(hz:ys.length<=sizeLine) :
  Inv X Oa σ (upd H s.heap.objs.size (.lst ys)) { s with heap:=s.heap.push { cls:=.type "list", data:=.seq Og.toArray },toks:=t' } :=
 I.laid (λ_ _ q=>R6 _ q) (Se _) ⟨hz,Og,0,hv,Sg _ rfl⟩
theorem Inv.fresh(I:Inv X Oa σ H s):H s.heap.objs.size=none:=I.bJ.fresh (Se _)
theorem Inv.Bc(I:Inv X Oa σ H s)(hH:H l=some (.lst xs)):xs.length<=sizeLine/\∃ (Og:List Value) (n:Nat),Vals xs Og/\xs.length=Og.length/\s.heap.get? l=some { cls:=.type "list", data:=.seq Og.toArray n }:=by
 obtain⟨z,Og,n,r,e⟩:=I.bJ l _ hH;exact⟨z,Og,n,r,r.length,e⟩
theorem BO(h:n<=sizeLine):U_ n=false:=by
 unfold U_;exact decide_eq_false (by lia)
end
def Ei:V->List V->Hp->VK->Prop:=λx vs H Q=>∃ l xs y,x=.ref l/\vs=[y]/\H l=some (.lst xs)/\xs.length<sizeLine/\Q .bG (upd H l (.lst (xs++[y])))
theorem rR:Nw X "list.append" Ei:=by
 intro Oa s σ H x vs v us Q I rx rv h;obtain⟨l,xs,y,rfl,rfl,hH,hz,q⟩:=h;cases rx;obtain⟨u,rfl,ru⟩:=rv.one;obtain⟨z,Og,n,r,hl,e⟩:=I.Bc hH;refine UX F.slot_list_append ⟨_,e,rfl⟩ F.entry_list_append (F.args_list_append_2 _ _) (PySem.list_append l Og.toArray n u (by rw[Sf];lia)) ⟨e,?_⟩;refine⟨.bG,_,I.Jj (its':=Og++[u]) hH e (by simp) (r.append (.cons ru .nil)) ?_,rfl,q⟩;rw[Sw,Xb];lia
def GI:V->List V->Hp->VK->Prop:=λx vs H Q=>∃ l xs,x=.ref l/\vs=[]/\H l=some (.lst xs)/\Q .bG (upd H l (.lst []))
theorem AD:Nw X "list.clear" GI:=by
 intro Oa s σ H x vs v us Q I rx rv h;obtain⟨l,xs,rfl,rfl,hH,q⟩:=h;cases rx;have hus:=rv.zero;subst hus;obtain⟨z,Og,n,r,hl,e⟩:=I.Bc hH;refine UX F.slot_list_clear ⟨_,e,rfl⟩ F.entry_list_clear (F.args_list_clear_1 _) (AutoSeq1.list_clear_list_0 l Og.toArray n (by rw[Sf];lia)) ⟨e,?_⟩;exact⟨.bG,_,I.Jj (its':=[]) (ys:=[]) hH e rfl .nil (TY _),rfl,q⟩
def J9:R2:=λx y H Q=>∃ l b xs zs,x=.ref l/\y=.ref b/\H l=some (.lst xs)/\H b=some (.lst zs)/\xs.length+zs.length<=sizeLine/\∀ p,H p=none->Q (.ref p) (upd H p (.lst (xs++zs)))
theorem G5:gA X (binaryOp .Add) J9:=by
 intro Oa s σ H x y v u Q I rx ry h;obtain⟨l,b,xs,zs,rfl,rfl,hH,hB,hz,q⟩:=h;cases rx;cases ry;obtain⟨z,Og,n,r,hl,e⟩:=I.Bc hH;obtain⟨z2,Qs,n2,r2,QI,e2⟩:=I.Bc hB;refine PySem.P.add_list e e2 ?_ (by rw[Sf,Sf];lia);have ea:Og.toArray++Qs.toArray=(Og++Qs).toArray:=by simp
 rw[ea];exact⟨.ref _,_,I.JV (t':=s.toks) (r.append r2) (by rw[Sw];lia),rfl,q _ I.fresh⟩
def J8:R2:=λx y H Q=>∃ l k xs,x=.ref l/\y=.int k/\H l=some (.lst xs)/\-(2^63)<=k/\k<2^63/\xs.length*k.toNat<=sizeLine ∧
 ∀ p,H p=none->Q (.ref p) (upd H p (.lst (R7 k.toNat xs).flatten))
theorem len_rep(xs:List α)(k:Nat):(R7 k xs).flatten.length=k*xs.length:=by
 induction k with
 | zero=>simp
 | succ k ih=>rw[SW,TV,Sw,ih,Nat.succ_mul,Ye]
theorem BV:gA X (binaryOp .Mult) J8:=by
 intro Oa s σ H x y v u Q I rx ry h;obtain⟨l,k,xs,rfl,rfl,hH,h1,h2,hz,q⟩:=h;cases rx;obtain⟨t,rfl⟩:=ry;obtain⟨z,Og,n,r,hl,e⟩:=I.Bc hH;have hlen:Og.toArray.size*k.toNat<=sizeLine:=by rw[Sf,<- hl];exact hz
 have hcap:¬ Og.toArray.size*k.toNat>(2^63-1)/8:=by
  have:(sizeLine:Nat)<=(2^63-1)/8:=by decide
  lia
 have hfit:¬ (!Builtin.List.listFitsIndex k)=true:=by
  rw[fitsIndex_both h1 h2];exact To
 have RN:¬ U_ (Og.toArray.size*k.toNat)=true:=by
  rw[BO hlen];exact To
 have P_:Wh (λx1 x2=>x1++x2) #[] (R7 (if Og.toArray.isEmpty=true then 0 else k.toNat) Og.toArray)=(R7 k.toNat Og).flatten.toArray:=by
  have f0:∀ m:Nat,Wh (λx1 x2=>x1++x2) #[] (R7 m Og.toArray)=(R7 m Og).flatten.toArray:=λm=>by
   have:=foldl_rep Og m [];rw[V1] at this;exact this
  rw[f0];cases Og with
  | nil=>simp
  | cons a r'=>rw[if_neg (by simp)]
 refine Ws (T := "list") (U := "int") (by decide) ⟨_,e,rfl⟩ (λs'=>WY s' k t) noFill_list_mul F.fills_int_mul F.slot_int_rmul repeat_list F.slot_int_index.lookup
  (UX F.slot_int_rmul (WY s k t) F.entry_int_rmul (F.args_int_rmul_2 _ _) (int___rmul___int_list k t l Og.toArray n)
   ⟨e,rfl,⟨_,e,rfl⟩,UX F.slot_list_mul ⟨_,e,rfl⟩ F.entry_list_mul (F.args_list_mul_2 _ _) (AutoListH.list___mul___list_int_3 l Og.toArray n k t hfit hcap RN) ⟨e,?_⟩⟩)
 rw[P_];exact⟨.ref _,_,I.JV (t':=s.toks) (r.rep k.toNat) (by rw[len_rep,U3];exact hz),rfl,q _ I.fresh⟩
variable{E:Value->Shared->Prop}{A:Around}{w:World}
section
variable{prog:Program}
end
section
variable{κ:Type}[DecidableEq κ]
end
variable{a:Addr}
section
variable{P:Program}{h:Heap}
end
variable{o:Option V}{u:Value}
section
variable{y v:V}{r:Value}
end
variable{OV:List (Key×V)}
section
variable{k:Key}
end
section
variable{o i value:Expr}{pos' R3:Pos}{td ty tv:TE}
end
section
variable{y d:V}{r:Value}
end
section
variable{o f:Expr}{apos Om:Pos}{td ty tx:TE}
end
section
variable{y:V}
end
end L2
namespace Att
open PySem PySem.W PySem.Calls PyProof.Rows
variable{h:Heap}{P:Params}
theorem oO:∀ (ns:List Int) (vs:List Value),WellAll P h vs (ns.map WData.int)->IntsAre vs ns:=by
 intro ns
 induction ns with
 | nil =>
  intro vs w;rw[UM] at w;cases w;exact .nil
 | cons n ns ih =>
  intro vs w;rw[Su] at w;cases w with
  | cons a b =>
   cases a;exact .cons _ _ (ih _ b)
theorem zU{l:OpenLaw}{n:Nat}(hn:l.most=some n){args:List WData}{vals:List Value}
  (zx:l.row.toRowW.claim.pre args=true) (hwl:WellAll P h vals args) :
  ∃ a vs ns,vals=[Sd a]/\args=[WData.list (ns.map WData.int)]/\h.get? a=some { cls:=.type "list", data:=.seq vs.toArray }/\IntsAre vs ns/\ns.length<=n:=by
 have RT:WShape.hasAll [] args [.list .int]=true:=(pre_splitW zx).1;have hc:l.pre.holds [] { args:=args }=true:=(pre_splitW zx).2;obtain⟨d,r,rfl,h1,h2⟩:=hasAllW_cons RT;obtain rfl:=hasAllW_nil h2;obtain⟨xs,rfl,h3⟩:=hasW_list h1;obtain⟨ns,rfl⟩:=items_int h3;have hlen:ns.length<=n:=by
  unfold OpenLaw.pre at hc;have h4:(WTm.not (.lt (.lit (.int (n:Int))) (.len (.arg 0)))).holds [] { args:=[.list (ns.map .int)] }=true:=by
   have h4:=(holds_andW hc).1;rw[hn] at h4;exact h4
  have h5:=condW_of h4 (w_not (w_lt w_lit (w_len_list (w_arg rfl))));rw[R_] at h5;refine Nat.le_of_not_lt λq=>?_;have q':(n:Int)<((ns.length:Nat):Int):=by lia
  first
   | (rw[decide_eq_true q'] at h5;exact absurd h5 (by decide))
   | (simp at h5;lia)
 cases hwl with
 | cons w1 w2 =>
  cases w2;cases w1 with
  | list ho hall=>exact⟨_,_,ns,rfl,rfl,ho,oO ns _ hall,hlen⟩
theorem zN(l:OpenLaw)(args:List WData):l.row.toRowW.claim.post args (.bool true) args=true :=
 postW_of (r:=l.row.toRowW) (X:=(true==true))
  (show WShape.has [] (.bool true) .bool=true by first | rfl | decide | simp[WShape.has,WShape.arms,WShape.armsAll])
  (show (WTm.eq .res (.lit (.bool true))).value [] { args:=args,res:=some (.bool true),after:=args }=some (.bool (true==true)) from w_eq_bool (w_res rfl) w_lit) rfl
section
variable{prog:Program}{w:World}{A:Around}{E:Value->Shared->Prop}{s:Shared}{K:Frag}
end
end Att
namespace L2
open PySem PySem.Spec PyProof.Rows
theorem sG:∀ {vs:List Value} {ns:List Int},IntsAre vs ns->Vals (ns.map V.int) vs
 | _,_,.nil=>.nil
 | _,_,.cons n t h=>.cons ⟨t,rfl⟩ (sG h)
def JY(H:Hp):Prop:=∀ b,H b=none\/∃ o xs,H b=some (.jM o (.lst xs))
variable{mg:Str->Option Value}{w:World}{P:Program}
theorem Dh{K:R5}{mb:Str->Option Value}{CX:Gg}{k:Nat}{fa a:Addr}{fd:FuncData}{x:Str}{sp:Sp}{s₁:Shared}{vs:List Value}{ns:List Int}
  (KX:K.In s₁.heap) (hns:s₁.heap.Ns mainGlobals mg) (hb:s₁.heap.Ns builtinsNs mb) (RD:∀ x:Str,x ≠ "__name__" -> mb x=bootBuiltins x) (hlim:s₁.heap.NoLimit) (hg:s₁.gens=#[])
  (ha:s₁.heap.get? a=some { cls:=.type "list", data:=.seq vs.toArray }) (hi:IntsAre vs ns) (hl:ns.length<=sizeLine) (hr:ck k callerA)
  (F:∀ base:Heap,K.In base->base.Ns mainGlobals mg->aL P w K mg base CX k fa fd [x] sp) (RE:∀ (s:Shared) (u:Value),BindsTo s fd ⟨[u],[]⟩ [(x,u)])
  (hsp:∀ H:Hp,JY H->gS K H a (ns.map V.int)->sp [.ref a] H (λv _=>v=.bl true) λ_ _ _=>False)
  (hCX:∀ H e s',CX [] H s₁ (λ_ _ _=>False) e s'->False) :
  codeAny (model P w) callerA (.call (.ref fa) ⟨[.ref a],[]⟩) (λr s'=>r=.ok (.ret (.bool true))/\OldK s₁.heap s'.heap/\s'.os=s₁.os/\AllBare s'.gens) s₁:=by
 have rv:=sG hi;have lenV:=hi.length;have core:∀ H:Hp,JY H->gS K H a (ns.map V.int)->nI P w H s₁.heap->(∀ b,H b≠none->b=a)->(H a≠none->K.lookup a=none) ->
   codeAny (model P w) callerA (.call (.ref fa) ⟨[.ref a],[]⟩) (λr s'=>r=.ok (.ret (.bool true))/\OldK s₁.heap s'.heap/\s'.os=s₁.os/\AllBare s'.gens) s₁:=by
  intro H hO hS bJ hA hK;have Qw:∀ {b:Addr} {o:Obj},s₁.heap.get? b=some o->H b=none->(sP s₁.heap H).get? b=some o:=λe n=>C5 e n;have oF:∀ {b:Addr} {o:Obj} {es:Array DictEntry} {ep:Nat},s₁.heap.get? b=some o->o.data=.dict es ep->H b=none:=λ{b o es ep} e d=>by
   cases q:H b with
   | none=>rfl
   | some u =>
    have e':b=a:=hA b (by rw[q];simp);subst e';rw[ha] at e;cases e;have d':Data.seq vs.toArray _=Data.dict es ep:=d;cases d'
  have nsK:∀ {b:Addr} {m:Str->Option Value},s₁.heap.Ns b m->(sP s₁.heap H).Ns b m:=λ{b m} ⟨o,es,ep,e,d,r⟩=>⟨o,es,ep,Qw e (oF e d),d,r⟩
  have hKb:K.In (sP s₁.heap H):=λb o e=>Qw (KX b o e) (by
   cases q:H b with
   | none=>rfl
   | some u =>
    have e':b=a:=hA b (by rw[q];simp);subst e';rw[hK (by rw[q];simp)] at e;cases e)
  have hM:Mod K mg (sP s₁.heap H):=⟨hKb,nsK hns,⟨mb,nsK hb,RD⟩,let ⟨mc,h1,h2⟩:=hlim;⟨mc,nsK h1,h2⟩⟩
  have e0:v8 P w K mg (sP s₁.heap H) callerA [] s₁ H:=⟨rfl,hM,λb o e=>D8 e,X3 (zb _ _),trivial,λb hb=>absurd (show b∈([]:List Addr) from hb) (by simp),bJ,.of_eq hg⟩
  refine Vw ((F _ hKb (nsK hns)).run callerA [] s₁ H ⟨[.ref a],[]⟩ [.ref a] [.ref a] _ _ hr e0 (RE s₁ (.ref a)) (.cons rfl .nil) (hsp H hO hS)) λr s' h=>?_;cases r with
  | error e=>exact(hCX H e s' h).elim
  | ok fl =>
   cases fl with
   | next=>exact S8 h
   | brk=>exact S8 h
   | cont=>exact S8 h
   | ret u =>
    obtain⟨v,H',os,bare,un,hok',r',q⟩:=h;have q':v=.bl true:=q;subst q';obtain rfl:u=Te true:=r';refine⟨rfl,OldK.of_keep λb o e=>?_,os,bare⟩;cases q:H b with
    | none=>exact un.keep b o e q (by intro z;exact absurd (show b∈([]:List Addr) from z) (by simp)) (by simp)
    | some u =>
     rcases hO b with z | ⟨ob,xs,z⟩
     .rw[q] at z;cases z
     .have z2:=un.j3 b ob _ z;obtain⟨e1,_⟩:=bJ b _ z;obtain⟨e2,_⟩:=hok' b _ z2;rw[e] at e1;cases e1;exact e2
 cases hk:K.lookup a with
 | some o =>
  have e:=KX a o hk;rw[ha] at e;cases e;refine core (λ_=>none) (λ_=>.inl rfl) (.inr ⟨_,vs.toArray,_,hk,rfl,rfl,rfl,by rw[Sf,lenV];exact hl,by simpa using rv⟩) (λb u z=>by have z':(none:Option HO)=some u:=z;cases z') (λb z=>absurd rfl z) λz=>absurd rfl z
 | none =>
  refine core (λb=>if b=a then some (.jM { cls:=.type "list", data:=.seq vs.toArray } (.lst (ns.map V.int))) else none) (λb=>?_) (.inl (.inr ⟨{ cls:=.type "list", data:=.seq vs.toArray },if_pos rfl⟩)) (λb u z=>?_) (λb z=>?_) λ_=>hk
  .by_cases hb:b=a
   .exact .inr ⟨_,_,if_pos hb⟩
   .exact .inl (if_neg hb)
  .by_cases hb:b=a
   .have z':=(if_pos hb).symm.trans z;cases z';subst hb;exact⟨ha,by rw[R_];exact hl,vs,_,rv,ha⟩
   .have z':=(if_neg hb).symm.trans z;cases z'
  .by_cases hb:b=a
   .exact hb
   .exact absurd (if_neg hb) z
def inClass(s:Stmt)(j:Nat):Stmt:=match s with
 | .ClassDef _ _ _ body _ _ _ _ _ _ _=>body.getD j (.Pass ⟨0,0,0,0⟩)
 | _=>.Pass ⟨0,0,0,0⟩
def iz(s:Stmt):Arguments:=match s with
 | .FunctionDef _ a _ _ _ _ _ _ _ _=>a
 | _=>{ posonlyargs:=[],args:=[],vararg:=none,kwonlyargs:=[],kw_defaults:=[],kwarg:=none,defaults:=[] }
def dC(s:Stmt):List Stmt:=match s with
 | .FunctionDef _ _ b _ _ _ _ _ _ _=>b
 | _=>[]
def aE(s:Stmt):Scope:=match s with
 | .FunctionDef _ _ _ _ _ _ sc _ _ _=>sc
 | _=>{ kind:=.function,names:=[],isGenerator:=false,isCoroutine:=false }
abbrev MC:Gg:=λ_ _ _ _ _ _=>False
abbrev E0:XK:=λ_ _ _=>False
section
variable{K:R5}{base:Heap}
end
theorem sj{n:Nat}(h:n<=1000):n<sizeLine:=Tp h (by decide)
section
variable{X:Cx}
end
def bB(H H':Hp):Prop:=∀ b o,H b=some o->H' b=some o
end L2
section
namespace HD
open PySem PySem.W L2
abbrev pw:Program:=PySem.Challenge.pw_dialvault_k57_locks_met
noncomputable section
noncomputable def st(s:String)(t:Nat):Value:=.str (Si s) t
def en(P:Params)(s:String)(t:Nat)(v:Value):DictEntry:=⟨PyData.keyHash P (Si s),st s t,v⟩
def tu(xs:List Value):Obj:=⟨.type "tuple", none,.seq ⟨xs⟩ 0,⟨[]⟩⟩
def di(n:Nat)(es:List DictEntry):Obj:=⟨.type "dict", none,.dict ⟨es⟩ n,⟨[]⟩⟩
def tp(i:Nat):Stmt:=pw.main.body.getD i (.Pass ⟨0,0,0,0⟩)
def mp(i j:Nat):Stmt:=inClass (tp i) j
def co(a b:String)(t:Nat)(l n:Int)(x1 x2 x3 x4 x5:Nat)(u:Nat):Obj:=⟨.type "code", none,.fields ⟨[st a t,st b (t+1),st "/claim/cut.py" (t+2),.int l 0,.int n 0,.int 0 0,.int 0 0,.int 3 0,.ref x1,.bool true,.int 181 0,.ref x2,.none,.ref x3,.ref x4,.ref x5,.int u 0,.int l 0,st "/claim/cut.py" (u+1)]⟩,⟨[]⟩⟩
def ft(a b:String)(s:Stmt):Obj:=⟨.none,none,.func ⟨Si a,Si b,iz s,.stmts (dC s),aE s,0,[],.none,.none,.none,.none,none,.none,.none,0⟩,⟨[]⟩⟩
def fo(a b:String)(s:Stmt)(df pm:Value)(cd:Nat):Obj:=⟨.type "function", none,.func ⟨Si a,Si b,iz s,.stmts (dC s),aE s,3,[],df,.none,.none,pm,none,.ref cd,.none,0⟩,⟨[]⟩⟩
def Ih:List Obj->List Obj
 | []=>[]
 | [a]=>[a]
 | a::_::r=>a::Ih r
def bt:Nat->List Obj->BT
 | 0,_=>.nil
 | _+1,[]=>.nil
 | n+1,a::r=>.node a (bt n (Ih r)) (bt n (Ih (r.drop 1)))
def S(L:Params->List Obj)(n k:Nat)(w:World)(os:OsState):SharedT:=⟨bt 14 (L w.params),n,{},⟨[]⟩,⟨0,0,0,0⟩,k,os⟩
def F(L:Params->List Obj)(k:Nat)(w:World)(os:OsState):Shared:=⟨⟨⟨L w.params⟩,{}⟩,⟨[]⟩,⟨0,0,0,0⟩,k,os⟩
def cc(a:String)(t:Nat)(l:Int)(x y u:Nat):Obj:=⟨.type "code", none,.fields ⟨[st a t,st a (t+1),st "/claim/cut.py" (t+2),.int l 0,.int 0 0,.int 0 0,.int 0 0,.int 0 0,.ref x,.bool false,.int 181 0,.ref y,.none,.none,.none,.none,.int u 0,.int l 0,st "/claim/cut.py" (u+1)]⟩,⟨[]⟩⟩
def fr(a b:Nat)(s:String)(t:Nat):Obj:=⟨.type "frame", none,.plain,⟨[some (.ref a),some (.ref 3),some (.ref b),none,some (st s t),none,some (.ref 0)]⟩⟩
def su(a:Nat):Obj:=⟨.type "super", none,.fields ⟨[.ref a,.ref a,.ref a]⟩,⟨[]⟩⟩
def ii(a:Nat):Obj:=⟨.type "builtin_function_or_method", none,.fields ⟨[.builtin "object.__init_subclass__", .ref a]⟩,⟨[]⟩⟩
def K9:List Nat->List Value
 | a::b::c::r=>.int a 0::.int b 0::.ref c::K9 r
 | _=>[]
def fi(xs:List Nat):Obj:=⟨.none,none,.fields ⟨K9 xs⟩,⟨[]⟩⟩
def cl(n:Str)(bs ms:List Value)(k:Nat)(ss:List Value)(sl:List (Option Value)):Obj:=⟨.type "type", none,.cls ⟨n,bs,ms,k,n,true,[],ss,false,none,false⟩,⟨sl⟩⟩
def pt(L:List Obj)(us:List (Nat×Obj))(ns:List Obj):List Obj:=us.foldl (λl u=>l.set u.1 u.2) L++ns
abbrev b0:=boot_o_0
abbrev b1:=boot_o_1
abbrev b2:=boot_o_2
abbrev b3:=boot_o_3
abbrev b4:=boot_o_4
abbrev b5:=boot_o_5
abbrev b6:=boot_o_6
abbrev b7:=boot_o_7
abbrev b8:=boot_o_8
abbrev b9:=boot_o_9
abbrev NT:=boot_o_10
def m0:Value:=st "__main__" 164
def m1:Value:=st "dialvault.errors" 194
def m2:Value:=st "dialvault.wholes" 450
def m3:Value:=st "dialvault.vault" 498
def m4:Value:=st "dialvault.papers" 677
def m5:Value:=st "dialvault.rungs" 827
def m6:Value:=st "dialvault.locks" 1013
def m7:Value:=st "law_dialvault_k57_locks_met" 1149
def nl:List String->Nat->List Value
 | [],_=>[]
 | x::r,t=>st x t::nl r (t+1)
def fA(P:Params)(a t:Nat)(x q:String)(s:Stmt)(l n:Int)(vs:List String)(df pm:Value):List Obj:=[b7 P,b8 P,tu (nl vs (t+3)),b7 P,ft x q s,co x q t l n a (a+1) (a+2) (a+3) (a+4) (t+3+vs.length),fo x q s df pm (a+5)]
def fT(P:Params)(a t:Nat)(x:String)(s:Stmt)(l n:Int)(vs:List String)(pm:Value):List Obj:=fA P a t x x s l n vs .none pm
def fB(P:Params)(a t:Nat)(x q:String)(s:Stmt)(l n:Int)(df pm:Value):List Obj:=[b7 P,b8 P,ft x q s,⟨.type "code", none,.fields ⟨[st x t,st q (t+1),st "/claim/cut.py" (t+2),.int l 0,.int n 0,.int 0 0,.int 0 0,.int 3 0,.ref a,.bool true,.int 181 0,.ref (a+1),.none,.none,.none,.ref (a+2),.int (t+3) 0,.int l 0,st "/claim/cut.py" (t+4)]⟩,⟨[]⟩⟩,fo x q s df pm (a+3)]
def dB(P:Params)(n t:Nat)(m:Value)(l:Int)(r:List DictEntry):Obj:=di n (en P "__module__" t m::en P "__firstlineno__" (t+4) (.int l (t+3))::r)
def dA(P:Params)(n t:Nat)(m:Value)(x:String)(l:Int)(r:List DictEntry):Obj:=di n (en P "__module__" t m::en P "__qualname__" (t+2) (st x (t+1))::en P "__firstlineno__" (t+4) (.int l (t+3))::r)
def gw(t a:Nat):Obj:=⟨.type "getset_descriptor", none,.fields ⟨[st "__weakref__" t,.ref a,.builtin "ExceptionGroup.__weakref__", .none]⟩,⟨[]⟩⟩
def gd(t a:Nat):Obj:=⟨.type "getset_descriptor", none,.fields ⟨[st "__dict__" t,.ref a,.builtin "function.__dict__", .builtin "function.__dict__#set"]⟩,⟨[]⟩⟩
def ce(x:String)(b a k:Nat)(ss:List Value)(d t u:Nat):Obj:=cl x [.ref b] [.ref a,.ref b,.type "ValueError", .type "Exception", .type "BaseException", .type "object"] k ss [some (.ref d),none,some (st x t),some (st x u),some (.builtin "ValueError.__new__"),some (.bool true)]
def gl P:=[en P "__doc__" 166 .none,en P "__package__" 167 .none,en P "__loader__" 168 (.builtin "__main__.__loader__#opaque"),en P "__spec__" 169 .none,en P "__annotations__" 170 (.ref 6),en P "__builtins__" 171 (.ref 4),en P "__file__" 173 (st "/claim/cut.py" 172),en P "__cached__" 174 .none,en P "_wall" 193 (.ref 21),en P "VaultError" 220 (.ref 38),en P "NoDial" 252 (.ref 65),en P "NoLever" 284 (.ref 91),en P "NoPrice" 316 (.ref 117),en P "NoSetting" 339 (.ref 136),en P "NoPulls" 362 (.ref 155),en P "TooMany" 385 (.ref 174),en P "NoGear" 417 (.ref 200),en P "NoLock" 449 (.ref 226),en P "is_whole" 458 (.ref 235),en P "is_row" 464 (.ref 240),en P "common" 476 (.ref 247),en P "multiple_of" 485 (.ref 254),en P "unit_row" 491 (.ref 259),en P "rest_sum" 497 (.ref 264),en P "MOST_DIALS" 501 (.int 6 500),en P "LEAST_SIZE" 503 (.int 2 502),en P "MOST_SIZE" 505 (.int 360 504),en P "MOST_LEVERS" 507 (.int 8 506),en P "LEAST_PRICE" 509 (.int 1 508),en P "MOST_PRICE" 511 (.int 1000 510),en P "Vault" 569 (.ref 308),en P "is_within" 578 (.ref 319),en P "need_sizes" 587 (.ref 326),en P "need_levers" 597 (.ref 333),en P "prices_for" 606 (.ref 340),en P "rests" 612 (.ref 345),en P "nought" 619 (.ref 352),en P "is_setting" 625 (.ref 357),en P "is_pulls" 633 (.ref 364),en P "need_setting" 641 (.ref 371),en P "need_pulls" 649 (.ref 378),en P "added" 655 (.ref 383),en P "turned" 667 (.ref 390),en P "between" 676 (.ref 397),en P "weigh" 684 (.ref 402),en P "weighs_no_lever" 690 (.ref 407),en P "Paper" 734 (.ref 438),en P "Way" 783 (.ref 480),en P "Bar" 826 (.ref 513),en P "mixed" 834 (.ref 520),en P "mixed_made" 846 (.ref 527),en P "unpulled" 854 (.ref 534),en P "pulled_once" 863 (.ref 541),en P "step_size" 873 (.ref 548),en P "taken_in" 888 (.ref 555),en P "lowered" 900 (.ref 562),en P "in_spans" 910 (.ref 569),en P "Rungs" 994 (.ref 634),en P "first_turned" 1000 (.ref 643),en P "bring" 1012 (.ref 650),en P "MOST_LOCKS" 1016 (.int 6 1015),en P "LEAST_NUMBER" 1018 (.int 2 1017),en P "MOST_NUMBER" 1020 (.int 360 1019),en P "Lock" 1053 (.ref 667),en P "is_fit" 1059 (.ref 676),en P "need_locks" 1070 (.ref 683),en P "turns_of" 1076 (.ref 688),en P "wants_of" 1082 (.ref 693),en P "lock_vault" 1088 (.ref 698),en P "met" 1094 (.ref 703),en P "open_from" 1105 (.ref 710),en P "Shut" 1148 (.ref 741),en P "_law_cell" 1158 (.ref 750),en P "_law_mix" 1167 (.ref 757),en P "_law_digits" 1177 (.ref 764),en P "_law_size" 1184 (.ref 771),en P "_law_sizes" 1190 (.ref 776),en P "_law_divisor" 1198 (.ref 783),en P "_law_number" 1204 (.ref 788),en P "_law_lock" 1221 (.ref 795),en P "_law_met" 1227 (.ref 800),en P "_law_told" 1239 (.ref 807),en P "_law_spoiled" 1254 (.ref 814),en P "_law_made" 1264 (.ref 821),en P "_law_bars" 1273 (.ref 828),en P "_law_paper" 1284 (.ref 835),en P "_law_refused" 1302 (.ref 842),en P "law" 1308 (.ref 847)]
def LA(P:Params):List Obj:=[b0 P,b1 P,b2 P,b3 P,b4 P,b5 P,b6 P,b7 P,b8 P,b9 P,NT P,b7 P,b8 P,cc "<module>" 182 1 11 12 185,fr 13 3 "__main__" 164]
def o9:Obj:=⟨.type "builtin_function_or_method", none,(.fields ⟨[.builtin "type.__prepare__", .type "type"]⟩),⟨[]⟩⟩
def N4:Obj:=gw 216 38
def F_:=tu [.ref 38]
def L0 P:=pt (LA P) [(3,di 15 (en P "__name__" 165 m1::(gl P).take 14)),(12,fi [1,0,20,5,0,27,9,0,47,16,0,73,23,0,99,30,0,125])] (fT P 15 187 "_wall" (tp 0) 1 1 ["k"] m0++([tu [.type "ValueError"],o9,dA P 5 203 m1 "VaultError" 5 [en P "word" 214 (.ref 35),en P "__static_attributes__" 215 (.ref 36)],b7 P,fi [7,4,34],cc "VaultError" 198 5 25 26 201,fr 27 24 "dialvault.errors" 194]++(fA P 29 208 "word" "VaultError.word" (mp 2 0) 7 1 ["self"] .none m1++([b7 P,dB P 3 203 m1 5 [en P "word" 214 (.ref 35),en P "__static_attributes__" 215 (.ref 36),en P "__weakref__" 217 (.ref 39),en P "__doc__" 218 .none],cl "VaultError" [.type "ValueError"] [.ref 38,.type "ValueError", .type "Exception", .type "BaseException", .type "object"] 37 [.ref 65,.ref 91,.ref 117,.ref 136] [some (.ref 22),none,some (st "VaultError" 196),some (st "VaultError" 204),some (.builtin "ValueError.__new__"),some (.bool true)],N4,su 38,ii 38,F_,o9,dA P 6 228 m1 "NoDial" 9 [en P "__init__" 240 (.ref 55),en P "word" 247 (.ref 62),en P "__static_attributes__" 249 (.ref 63)],b7 P,fi [11,4,54,14,4,61],cc "NoDial" 223 9 45 46 226,fr 47 44 "dialvault.errors" 194]++(fA P 49 233 "__init__" "NoDial.__init__" (mp 3 0) 11 2 ["self", "dial"] .none m1++(fA P 56 241 "word" "NoDial.word" (mp 3 1) 14 1 ["self"] .none m1++([tu [st "dial" 248],dB P 2 228 m1 9 [en P "__init__" 240 (.ref 55),en P "word" 247 (.ref 62),en P "__static_attributes__" 249 (.ref 63),en P "__doc__" 250 .none],ce "NoDial" 38 65 64 [] 42 221 229,su 65,ii 65,F_,o9,dA P 6 260 m1 "NoLever" 16 [en P "__init__" 272 (.ref 81),en P "word" 279 (.ref 88),en P "__static_attributes__" 281 (.ref 89)],b7 P,fi [18,4,80,21,4,87],cc "NoLever" 255 16 71 72 258,fr 73 70 "dialvault.errors" 194]++(fA P 75 265 "__init__" "NoLever.__init__" (mp 4 0) 18 2 ["self", "lever"] .none m1++(fA P 82 273 "word" "NoLever.word" (mp 4 1) 21 1 ["self"] .none m1++([tu [st "lever" 280],dB P 2 260 m1 16 [en P "__init__" 272 (.ref 81),en P "word" 279 (.ref 88),en P "__static_attributes__" 281 (.ref 89),en P "__doc__" 282 .none],ce "NoLever" 38 91 90 [] 68 253 261,su 91,ii 91,F_,o9,dA P 6 292 m1 "NoPrice" 23 [en P "__init__" 304 (.ref 107),en P "word" 311 (.ref 114),en P "__static_attributes__" 313 (.ref 115)],b7 P,fi [25,4,106,28,4,113],cc "NoPrice" 287 23 97 98 290,fr 99 96 "dialvault.errors" 194]++(fA P 101 297 "__init__" "NoPrice.__init__" (mp 5 0) 25 2 ["self", "lever"] .none m1++(fA P 108 305 "word" "NoPrice.word" (mp 5 1) 28 1 ["self"] .none m1++([tu [st "lever" 312],dB P 2 292 m1 23 [en P "__init__" 304 (.ref 107),en P "word" 311 (.ref 114),en P "__static_attributes__" 313 (.ref 115),en P "__doc__" 314 .none],ce "NoPrice" 38 117 116 [] 94 285 293,su 117,ii 117,F_,o9,dA P 5 324 m1 "NoSetting" 30 [en P "word" 335 (.ref 133),en P "__static_attributes__" 336 (.ref 134)],b7 P,fi [32,4,132],cc "NoSetting" 319 30 123 124 322,fr 125 122 "dialvault.errors" 194]++(fA P 127 329 "word" "NoSetting.word" (mp 6 0) 32 1 ["self"] .none m1++([b7 P,dB P 2 324 m1 30 [en P "word" 335 (.ref 133),en P "__static_attributes__" 336 (.ref 134),en P "__doc__" 337 .none],ce "NoSetting" 38 136 135 [] 120 317 325,su 136,ii 136])))))))))))))))
def L1 P:=pt (L0 P) [(3,di 31 (en P "__name__" 165 m3::(gl P).take 30)),(12,fi [1,0,20,5,0,27,9,0,47,16,0,73,23,0,99,30,0,125,34,0,144,38,0,163,42,0,182,49,0,208,57,0,234,59,0,239,63,0,246,74,0,253,79,0,258,81,0,263]),(38,cl "VaultError" [.type "ValueError"] [.ref 38,.type "ValueError", .type "Exception", .type "BaseException", .type "object"] 37 [.ref 65,.ref 91,.ref 117,.ref 136,.ref 155,.ref 174,.ref 200,.ref 226] [some (.ref 22),none,some (st "VaultError" 196),some (st "VaultError" 204),some (.builtin "ValueError.__new__"),some (.bool true)])] ([F_,o9,dA P 5 347 m1 "NoPulls" 34 [en P "word" 358 (.ref 152),en P "__static_attributes__" 359 (.ref 153)],b7 P,fi [36,4,151],cc "NoPulls" 342 34 142 143 345,fr 144 141 "dialvault.errors" 194]++(fA P 146 352 "word" "NoPulls.word" (mp 7 0) 36 1 ["self"] .none m1++([b7 P,dB P 2 347 m1 34 [en P "word" 358 (.ref 152),en P "__static_attributes__" 359 (.ref 153),en P "__doc__" 360 .none],ce "NoPulls" 38 155 154 [] 139 340 348,su 155,ii 155,F_,o9,dA P 5 370 m1 "TooMany" 38 [en P "word" 381 (.ref 171),en P "__static_attributes__" 382 (.ref 172)],b7 P,fi [40,4,170],cc "TooMany" 365 38 161 162 368,fr 163 160 "dialvault.errors" 194]++(fA P 165 375 "word" "TooMany.word" (mp 8 0) 40 1 ["self"] .none m1++([b7 P,dB P 2 370 m1 38 [en P "word" 381 (.ref 171),en P "__static_attributes__" 382 (.ref 172),en P "__doc__" 383 .none],ce "TooMany" 38 174 173 [] 158 363 371,su 174,ii 174,F_,o9,dA P 6 393 m1 "NoGear" 42 [en P "__init__" 405 (.ref 190),en P "word" 412 (.ref 197),en P "__static_attributes__" 414 (.ref 198)],b7 P,fi [44,4,189,47,4,196],cc "NoGear" 388 42 180 181 391,fr 182 179 "dialvault.errors" 194]++(fA P 184 398 "__init__" "NoGear.__init__" (mp 9 0) 44 2 ["self", "dial"] .none m1++(fA P 191 406 "word" "NoGear.word" (mp 9 1) 47 1 ["self"] .none m1++([tu [st "dial" 413],dB P 2 393 m1 42 [en P "__init__" 405 (.ref 190),en P "word" 412 (.ref 197),en P "__static_attributes__" 414 (.ref 198),en P "__doc__" 415 .none],ce "NoGear" 38 200 199 [] 177 386 394,su 200,ii 200,F_,o9,dA P 6 425 m1 "NoLock" 49 [en P "__init__" 437 (.ref 216),en P "word" 444 (.ref 223),en P "__static_attributes__" 446 (.ref 224)],b7 P,fi [51,4,215,54,4,222],cc "NoLock" 420 49 206 207 423,fr 208 205 "dialvault.errors" 194]++(fA P 210 430 "__init__" "NoLock.__init__" (mp 10 0) 51 2 ["self", "lock"] .none m1++(fA P 217 438 "word" "NoLock.word" (mp 10 1) 54 1 ["self"] .none m1++([tu [st "lock" 445],dB P 2 425 m1 49 [en P "__init__" 437 (.ref 216),en P "word" 444 (.ref 223),en P "__static_attributes__" 446 (.ref 224),en P "__doc__" 447 .none],ce "NoLock" 38 226 225 [] 203 418 426,su 226,ii 226]++(fT P 229 452 "is_whole" (tp 12) 57 1 ["thing"] m2++(fB P 236 459 "is_row" "is_row" (tp 13) 59 2 .none m2++(fT P 241 465 "common" (tp 14) 63 2 ["one", "other", "row", "behind", "times", "rest"] m2++(fT P 248 477 "multiple_of" (tp 15) 74 1 ["numbers", "multiple", "number"] m2++(fB P 255 486 "unit_row" "unit_row" (tp 16) 79 2 .none m2++(fB P 260 492 "rest_sum" "rest_sum" (tp 17) 81 3 .none m2)))))))))))))))))
def Lu:Obj:=gd 563 308
def M0:Obj:=gw 565 308
def LU:Obj:=gd 728 438
def LI:Obj:=gw 730 438
def Gb:=tu [.ref 438]
def L2 P:=pt (L1 P) [(3,di 49 (en P "__name__" 165 m4::(gl P).take 48)),(12,fi [1,0,20,5,0,27,9,0,47,16,0,73,23,0,99,30,0,125,34,0,144,38,0,163,42,0,182,49,0,208,57,0,234,59,0,239,63,0,246,74,0,253,79,0,258,81,0,263,90,0,270,111,0,318,113,0,325,121,0,332,127,0,339,136,0,344,138,0,351,140,0,356,145,0,363,147,0,370,150,0,377,153,0,382,156,0,389,163,0,396,168,0,401,174,0,406,176,0,413,188,0,448])] ([b7 P,o9,dA P 9 519 m3 "Vault" 90 [en P "__init__" 529 (.ref 277),en P "sizes" 536 (.ref 284),en P "levers" 543 (.ref 291),en P "prices" 550 (.ref 298),en P "around" 557 (.ref 305),en P "__static_attributes__" 562 (.ref 306)],b7 P,fi [92,4,276,100,4,283,103,4,290,106,4,297,109,4,304],cc "Vault" 514 90 268 269 517,fr 270 267 "dialvault.vault" 498,tu [.none]]++(fB P 273 524 "__init__" "Vault.__init__" (mp 25 0) 92 4 (.ref 272) m3++(fA P 278 530 "sizes" "Vault.sizes" (mp 25 1) 100 1 ["self"] .none m3++(fA P 285 537 "levers" "Vault.levers" (mp 25 2) 103 1 ["self"] .none m3++(fA P 292 544 "prices" "Vault.prices" (mp 25 3) 106 1 ["self"] .none m3++(fA P 299 551 "around" "Vault.around" (mp 25 4) 109 1 ["self"] .none m3++([tu [st "dial_sizes" 558,st "least_round" 559,st "lever_prices" 560,st "lever_settings" 561],dB P 4 519 m3 90 [en P "__init__" 529 (.ref 277),en P "sizes" 536 (.ref 284),en P "levers" 543 (.ref 291),en P "prices" 550 (.ref 298),en P "around" 557 (.ref 305),en P "__static_attributes__" 562 (.ref 306),en P "__dict__" 564 (.ref 309),en P "__weakref__" 566 (.ref 310),en P "__doc__" 567 .none],cl "Vault" [.type "object"] [.ref 308,.type "object"] 307 [] [none,none,some (st "Vault" 512),some (st "Vault" 520),some (.builtin "object.__new__"),some (.bool true)],Lu,M0,su 308,ii 308]++(fT P 313 570 "is_within" (tp 26) 111 3 ["thing", "least", "most"] m3++(fT P 320 579 "need_sizes" (tp 27) 113 1 ["sizes", "dial", "size"] m3++(fT P 327 588 "need_levers" (tp 28) 121 2 ["levers", "dials", "place", "lever"] m3++(fT P 334 598 "prices_for" (tp 29) 127 2 ["levers", "prices", "place"] m3++(fB P 341 607 "rests" "rests" (tp 30) 136 2 .none m3++(fT P 346 613 "nought" (tp 31) 138 1 ["vault"] m3++(fB P 353 620 "is_setting" "is_setting" (tp 32) 140 2 .none m3++(fT P 358 626 "is_pulls" (tp 33) 145 2 ["vault", "thing"] m3++(fT P 365 634 "need_setting" (tp 34) 147 2 ["vault", "thing"] m3++(fT P 372 642 "need_pulls" (tp 35) 150 2 ["vault", "thing"] m3++(fB P 379 650 "added" "added" (tp 36) 153 4 .none m3++(fT P 384 656 "turned" (tp 37) 156 3 ["vault", "setting", "pulls", "reached", "lever", "times"] m3++(fT P 391 668 "between" (tp 38) 163 3 ["vault", "one", "other"] m3++(fB P 398 679 "weigh" "weigh" (tp 40) 168 3 .none m4++(fB P 403 685 "weighs_no_lever" "weighs_no_lever" (tp 41) 174 2 .none m4++([b7 P,o9,dA P 7 698 m4 "Paper" 176 [en P "brings" 709 (.ref 421),en P "shows" 719 (.ref 428),en P "words" 726 (.ref 435),en P "__static_attributes__" 727 (.ref 436)],b7 P,fi [178,4,420,181,4,427,186,4,434],cc "Paper" 693 176 411 412 696,fr 413 410 "dialvault.papers" 677]++(fA P 415 703 "brings" "Paper.brings" (mp 42 0) 178 1 ["self"] .none m4++(fA P 422 710 "shows" "Paper.shows" (mp 42 1) 181 4 ["self", "vault", "one", "other"] .none m4++(fA P 429 720 "words" "Paper.words" (mp 42 2) 186 1 ["self"] .none m4++([b7 P,dB P 4 698 m4 176 [en P "brings" 709 (.ref 421),en P "shows" 719 (.ref 428),en P "words" 726 (.ref 435),en P "__static_attributes__" 727 (.ref 436),en P "__dict__" 729 (.ref 439),en P "__weakref__" 731 (.ref 440),en P "__doc__" 732 .none],cl "Paper" [.type "object"] [.ref 438,.type "object"] 437 [.ref 480] [none,none,some (st "Paper" 691),some (st "Paper" 699),some (.builtin "object.__new__"),some (.bool true)],LU,LI,su 438,ii 438,Gb,o9,dA P 8 742 m4 "Way" 188 [en P "__init__" 754 (.ref 456),en P "brings" 761 (.ref 463),en P "shows" 771 (.ref 470),en P "words" 778 (.ref 477),en P "__static_attributes__" 780 (.ref 478)],b7 P,fi [190,4,455,193,4,462,196,4,469,201,4,476],cc "Way" 737 188 446 447 740,fr 448 445 "dialvault.papers" 677]++(fA P 450 747 "__init__" "Way.__init__" (mp 43 0) 190 2 ["self", "pulls"] .none m4++(fA P 457 755 "brings" "Way.brings" (mp 43 1) 193 1 ["self"] .none m4++(fA P 464 762 "shows" "Way.shows" (mp 43 2) 196 4 ["self", "vault", "one", "other"] .none m4++(fA P 471 772 "words" "Way.words" (mp 43 3) 201 1 ["self"] .none m4++([tu [st "pulls" 779],dB P 2 742 m4 188 [en P "__init__" 754 (.ref 456),en P "brings" 761 (.ref 463),en P "shows" 771 (.ref 470),en P "words" 778 (.ref 477),en P "__static_attributes__" 780 (.ref 478),en P "__doc__" 781 .none],cl "Way" [.ref 438] [.ref 480,.ref 438,.type "object"] 479 [] [some (.ref 443),none,some (st "Way" 735),some (st "Way" 743),some (.builtin "object.__new__"),some (.bool true)],su 480,ii 480]))))))))))))))))))))))))))))))))
def Nd:Obj:=gd 988 634
def Li:Obj:=gw 990 634
def Mq:Obj:=gd 1047 667
def L7:Obj:=gw 1049 667
def L3 P:=pt (L2 P) [(3,di 70 (en P "__name__" 165 m6::(gl P).take 69)),(12,fi [1,0,20,5,0,27,9,0,47,16,0,73,23,0,99,30,0,125,34,0,144,38,0,163,42,0,182,49,0,208,57,0,234,59,0,239,63,0,246,74,0,253,79,0,258,81,0,263,90,0,270,111,0,318,113,0,325,121,0,332,127,0,339,136,0,344,138,0,351,140,0,356,145,0,363,147,0,370,150,0,377,153,0,382,156,0,389,163,0,396,168,0,401,174,0,406,176,0,413,188,0,448,203,0,488,217,0,519,219,0,526,222,0,533,224,0,540,227,0,547,230,0,554,239,0,561,244,0,568,249,0,575,301,0,642,303,0,649,314,0,656,320,0,675,327,0,682,334,0,687,336,0,692,339,0,697]),(438,cl "Paper" [.type "object"] [.ref 438,.type "object"] 437 [.ref 480,.ref 513] [none,none,some (st "Paper" 691),some (st "Paper" 699),some (.builtin "object.__new__"),some (.bool true)])] ([Gb,o9,dA P 7 791 m4 "Bar" 203 [en P "__init__" 803 (.ref 496),en P "shows" 814 (.ref 503),en P "words" 821 (.ref 510),en P "__static_attributes__" 823 (.ref 511)],b7 P,fi [205,4,495,208,4,502,214,4,509],cc "Bar" 786 203 486 487 789,fr 488 485 "dialvault.papers" 677]++(fA P 490 796 "__init__" "Bar.__init__" (mp 44 0) 205 2 ["self", "weights"] .none m4++(fA P 497 804 "shows" "Bar.shows" (mp 44 1) 208 4 ["self", "vault", "one", "other", "difference"] .none m4++(fA P 504 815 "words" "Bar.words" (mp 44 2) 214 1 ["self"] .none m4++([tu [st "weights" 822],dB P 2 791 m4 203 [en P "__init__" 803 (.ref 496),en P "shows" 814 (.ref 503),en P "words" 821 (.ref 510),en P "__static_attributes__" 823 (.ref 511),en P "__doc__" 824 .none],cl "Bar" [.ref 438] [.ref 513,.ref 438,.type "object"] 512 [] [some (.ref 483),none,some (st "Bar" 784),some (st "Bar" 792),some (.builtin "object.__new__"),some (.bool true)],su 513,ii 513]++(fB P 516 829 "mixed" "mixed" (tp 46) 217 4 .none m5++(fT P 521 835 "mixed_made" (tp 47) 219 5 ["sizes", "made", "times", "other", "others", "doing"] m5++(fT P 528 847 "unpulled" (tp 48) 222 2 ["vault", "setting"] m5++(fT P 535 855 "pulled_once" (tp 49) 224 2 ["vault", "lever", "levers"] m5++(fT P 542 864 "step_size" (tp 50) 227 3 ["sizes", "made_rows", "dial", "notch"] m5++(fT P 549 874 "taken_in" (tp 51) 230 3 ["sizes", "made_rows", "left", "wider", "dial", "made", "step", "notch", "found"] m5++(fT P 556 889 "lowered" (tp 52) 239 4 ["sizes", "made_rows", "made", "first", "dial", "times"] m5++(fT P 563 901 "in_spans" (tp 53) 244 2 ["pulls", "idle_rows", "lever", "row"] m5++([b7 P,o9,dA P 13 918 m5 "Rungs" 249 [en P "__init__" 928 (.ref 581),en P "steps" 934 (.ref 586),en P "rows" 941 (.ref 593),en P "spans" 948 (.ref 600),en P "idle" 955 (.ref 607),en P "brought_down" 963 (.ref 614),en P "least" 971 (.ref 621),en P "pulls_to" 977 (.ref 626),en P "weights_at" 983 (.ref 631),en P "__static_attributes__" 987 (.ref 632)],b7 P,fi [251,4,580,263,4,585,267,4,592,270,4,599,273,4,606,276,4,613,280,4,620,283,4,625,289,4,630],cc "Rungs" 913 249 573 574 916,fr 575 572 "dialvault.rungs" 827]++(fB P 577 923 "__init__" "Rungs.__init__" (mp 54 0) 251 2 .none m5++(fB P 582 929 "steps" "Rungs.steps" (mp 54 1) 263 1 .none m5++(fA P 587 935 "rows" "Rungs.rows" (mp 54 2) 267 1 ["self"] .none m5++(fA P 594 942 "spans" "Rungs.spans" (mp 54 3) 270 1 ["self"] .none m5++(fA P 601 949 "idle" "Rungs.idle" (mp 54 4) 273 1 ["self"] .none m5++(fA P 608 956 "brought_down" "Rungs.brought_down" (mp 54 5) 276 2 ["self", "setting"] .none m5++(fA P 615 964 "least" "Rungs.least" (mp 54 6) 280 2 ["self", "setting"] .none m5++(fB P 622 972 "pulls_to" "Rungs.pulls_to" (mp 54 7) 283 2 .none m5++(fB P 627 978 "weights_at" "Rungs.weights_at" (mp 54 8) 289 2 .none m5++([tu [st "idle_rows" 984,st "made_rows" 985,st "vault" 986],dB P 4 918 m5 249 [en P "__init__" 928 (.ref 581),en P "steps" 934 (.ref 586),en P "rows" 941 (.ref 593),en P "spans" 948 (.ref 600),en P "idle" 955 (.ref 607),en P "brought_down" 963 (.ref 614),en P "least" 971 (.ref 621),en P "pulls_to" 977 (.ref 626),en P "weights_at" 983 (.ref 631),en P "__static_attributes__" 987 (.ref 632),en P "__dict__" 989 (.ref 635),en P "__weakref__" 991 (.ref 636),en P "__doc__" 992 .none],cl "Rungs" [.type "object"] [.ref 634,.type "object"] 633 [] [none,none,some (st "Rungs" 911),some (st "Rungs" 919),some (.builtin "object.__new__"),some (.bool true)],Nd,Li,su 634,ii 634]++(fB P 639 995 "first_turned" "first_turned" (tp 55) 301 1 .none m5++(fT P 644 1001 "bring" (tp 56) 303 3 ["vault", "one", "other", "difference", "rungs", "pulls"] m5++([b7 P,o9,dA P 5 1028 m6 "Lock" 314 [en P "__init__" 1042 (.ref 664),en P "__static_attributes__" 1046 (.ref 665)],b7 P,fi [316,4,663],cc "Lock" 1023 314 654 655 1026,fr 656 653 "dialvault.locks" 1013]++(fA P 658 1033 "__init__" "Lock.__init__" (mp 61 0) 316 4 ["self", "factors", "number", "rest"] .none m6++([tu [st "factors" 1043,st "number" 1044,st "rest" 1045],dB P 4 1028 m6 314 [en P "__init__" 1042 (.ref 664),en P "__static_attributes__" 1046 (.ref 665),en P "__dict__" 1048 (.ref 668),en P "__weakref__" 1050 (.ref 669),en P "__doc__" 1051 .none],cl "Lock" [.type "object"] [.ref 667,.type "object"] 666 [] [none,none,some (st "Lock" 1021),some (st "Lock" 1029),some (.builtin "object.__new__"),some (.bool true)],Mq,L7,su 667,ii 667]++(fB P 672 1054 "is_fit" "is_fit" (tp 62) 320 2 .none m6++(fT P 677 1060 "need_locks" (tp 63) 327 3 ["vault", "setting", "locks", "place", "lock"] m6++(fB P 684 1071 "turns_of" "turns_of" (tp 64) 334 2 .none m6++(fB P 689 1077 "wants_of" "wants_of" (tp 65) 336 2 .none m6++(fB P 694 1083 "lock_vault" "lock_vault" (tp 66) 339 2 .none m6))))))))))))))))))))))))))))))))))
def L4 P:=pt (L3 P) [(3,di 89 (en P "__name__" 165 m7::gl P)),(12,fi [1,0,20,5,0,27,9,0,47,16,0,73,23,0,99,30,0,125,34,0,144,38,0,163,42,0,182,49,0,208,57,0,234,59,0,239,63,0,246,74,0,253,79,0,258,81,0,263,90,0,270,111,0,318,113,0,325,121,0,332,127,0,339,136,0,344,138,0,351,140,0,356,145,0,363,147,0,370,150,0,377,153,0,382,156,0,389,163,0,396,168,0,401,174,0,406,176,0,413,188,0,448,203,0,488,217,0,519,219,0,526,222,0,533,224,0,540,227,0,547,230,0,554,239,0,561,244,0,568,249,0,575,301,0,642,303,0,649,314,0,656,320,0,675,327,0,682,334,0,687,336,0,692,339,0,697,341,0,702,344,0,709,351,0,716,366,0,749,370,0,756,374,0,763,380,0,770,384,0,775,389,0,782,393,0,787,399,0,794,414,0,799,420,0,806,429,0,813,439,0,820,446,0,827,448,0,834,458,0,841,472,0,846]),(438,cl "Paper" [.type "object"] [.ref 438,.type "object"] 437 [.ref 480,.ref 513,.ref 741] [none,none,some (st "Paper" 691),some (st "Paper" 699),some (.builtin "object.__new__"),some (.bool true)])] (fB P 699 1089 "met" "met" (tp 67) 341 3 .none m6++(fT P 704 1095 "open_from" (tp 68) 344 3 ["vault", "setting", "locks", "dials", "paper"] m6++([Gb,o9,dA P 7 1113 m6 "Shut" 351 [en P "__init__" 1125 (.ref 724),en P "words" 1132 (.ref 731),en P "bars" 1143 (.ref 738),en P "__static_attributes__" 1145 (.ref 739)],b7 P,fi [353,4,723,356,4,730,359,4,737],cc "Shut" 1108 351 714 715 1111,fr 716 713 "dialvault.locks" 1013]++(fA P 718 1118 "__init__" "Shut.__init__" (mp 69 0) 353 2 ["self", "shares"] .none m6++(fA P 725 1126 "words" "Shut.words" (mp 69 1) 356 1 ["self"] .none m6++(fA P 732 1133 "bars" "Shut.bars" (mp 69 2) 359 4 ["self", "vault", "setting", "locks", "dials"] .none m6++([tu [st "shares" 1144],dB P 2 1113 m6 351 [en P "__init__" 1125 (.ref 724),en P "words" 1132 (.ref 731),en P "bars" 1143 (.ref 738),en P "__static_attributes__" 1145 (.ref 739),en P "__doc__" 1146 .none],cl "Shut" [.ref 438] [.ref 741,.ref 438,.type "object"] 740 [] [some (.ref 711),none,some (st "Shut" 1106),some (st "Shut" 1114),some (.builtin "object.__new__"),some (.bool true)],su 741,ii 741]++(fT P 744 1151 "_law_cell" (tp 71) 366 2 ["_law_script", "_law_k"] m7++(fT P 751 1159 "_law_mix" (tp 72) 370 2 ["_law_cell_here", "_law_k", "_law_number_here"] m7++(fT P 758 1168 "_law_digits" (tp 73) 374 2 ["_law_cell_here", "_law_sizes_here", "_law_row", "_law_size_here"] m7++(fT P 765 1178 "_law_size" (tp 74) 380 1 ["_law_number_here"] m7++(fB P 772 1185 "_law_sizes" "_law_sizes" (tp 75) 384 1 .none m7++(fT P 777 1191 "_law_divisor" (tp 76) 389 2 ["_law_one", "_law_other"] m7++(fB P 784 1199 "_law_number" "_law_number" (tp 77) 393 2 .none m7++(fT P 789 1205 "_law_lock" (tp 78) 399 3 ["_law_cell_here", "_law_sizes_here", "_law_setting", "_law_number_here", "_law_factors", "_law_total", "_law_k", "_law_size_here", "_law_more", "_law_factor", "_law_far"] m7++(fB P 796 1222 "_law_met" "_law_met" (tp 79) 414 2 .none m7++(fT P 801 1228 "_law_told" (tp 80) 420 4 ["_law_call", "_law_vault", "_law_setting", "_law_locks", "_law_told_here", "e"] m7++(fT P 808 1240 "_law_spoiled" (tp 81) 429 3 ["_law_cell_here", "_law_row", "_law_sizes_here", "_law_factors", "_law_number_here", "_law_rest", "_law_way", "_law_some", "_law_other"] m7++(fT P 815 1255 "_law_made" (tp 82) 439 2 ["_law_row", "_law_k", "_law_handed", "_law_found"] m7++(fT P 822 1265 "_law_bars" (tp 83) 446 3 ["_law_vault", "_law_setting", "_law_locks"] m7++(fT P 829 1274 "_law_paper" (tp 84) 448 3 ["_law_vault", "_law_setting", "_law_shares", "_law_shut", "_law_refused_here"] m7++(fT P 836 1285 "_law_refused" (tp 85) 458 6 ["_law_vault", "_law_locks", "_law_rows", "_law_cell_here", "_law_sizes_here", "_law_setting", "_law_at", "_law_behind", "_law_wrong", "_law_bad", "_law_none", "_law_call"] m7++(fB P 843 1303 "law" "law" (tp 86) 472 1 .none m7)))))))))))))))))))))))
def LF(P:Params):=L4 P
def bE:List Stmt:=behindTheImports pw
def env:Env:={ scope:=pw.main.scope,locals:=mainNs,globals:=mainNs,cells:=[],code:=.ref 13,frame:=some 14 }
def cE:Code:=.body bE env
abbrev B:List Frame:=[topFrame ⟨0,0,0,0⟩]
abbrev ann:Option Value:=(some (.ref 6))
def G0:List Stmt:=(bE.drop 0).take 7
def Hm:List Stmt:=(bE.drop 7).take 18
def IG:List Stmt:=(bE.drop 25).take 19
def HM:List Stmt:=(bE.drop 44).take 23
def Iy:List Stmt:=(bE.drop 67).take 20
end
theorem zx:∀ w:World,(λos=>topGo treeTable pw w 11 ann 12 ⟨boot_heap w.params,⟨[]⟩,boot_drawn,boot_toks,os⟩ (topStub pw))=λos=>some (F LA 187 w os,⟨denote treeTable cE,cE,⟨0,0,0,0⟩,B⟩):=λw=>by
 rw[PySem.W.Fast.te15667345088766844465,Sv,PySem.W.Fast.te11892475500146522536]
 kernel_rfl
theorem MH:∀ w:World,(λos=>segRun treeTable pw w 11 ann 1 1 (F LA 187 w os) (blockOf bE env cE ⟨0,0,0,0⟩ B))=λos=>some (VD,(S LA 15 187 w os).abs,cE,⟨0,0,0,0⟩):=λw=>by
 rw[PySem.W.Fast.te14374325043358763698,Sv]
 kernel_rfl
theorem NM:∀ w:World,(λos=>segRunT treeTable pw w 11 ann 1 1326 (S LA 15 187 w os) (piecesOf G0 env cE ⟨0,0,0,0⟩ B))=λos=>some (VD,S L0 139 340 w os,cE,⟨30,0,33,27⟩):=λw=>by
 rw[S4,Sv]
 kernel_rfl
theorem NW:∀ w:World,(λos=>segRunT treeTable pw w 11 ann 1 1283 (S L0 139 340 w os) (piecesOf Hm env cE ⟨30,0,33,27⟩ B))=λos=>some (VD,S L1 265 512 w os,cE,⟨89,0,89,10⟩):=λw=>by
 rw[S4,Sv]
 kernel_rfl
theorem Du:∀ w:World,(λos=>segRunT treeTable pw w 11 ann 1 1421 (S L1 265 512 w os) (piecesOf IG env cE ⟨89,0,89,10⟩ B))=λos=>some (VD,S L2 483 784 w os,cE,⟨188,0,202,36⟩):=λw=>by
 rw[S4,Sv]
 kernel_rfl
theorem NI:∀ w:World,(λos=>segRunT treeTable pw w 11 ann 1 1497 (S L2 483 784 w os) (piecesOf HM env cE ⟨188,0,202,36⟩ B))=λos=>some (VD,S L3 699 1089 w os,cE,⟨339,0,340,103⟩):=λw=>by
 rw[S4,Sv]
 kernel_rfl
theorem NG:∀ w:World,(λos=>segRunT treeTable pw w 11 ann 1 882 (S L3 699 1089 w os) (piecesOf Iy env cE ⟨339,0,340,103⟩ B))=λos=>some (VD,S L4 848 1309 w os,cE,⟨472,0,492,116⟩):=λw=>by
 rw[S4,Sv]
 kernel_rfl
theorem Hb:∀ w:World,(λos=>topRun treeTable pw w 11 ann 2 (S L4 848 1309 w os).abs ⟨doneF .next,cE,⟨472,0,492,116⟩,B⟩)=λos=>some (F LF 1309 w os):=λw=>by
 rw[PySem.W.Fast.te14082659384304107361,Sv]
 kernel_rfl
theorem N2:bE=(G0++(Hm++(IG++(HM++(Iy++[]))))):=by kernel_rfl
theorem BR(w:World)(os:OsState):topRun treeTable pw w 11 ann (1326+(1283+(1421+(1497+(882+2))))) (S LA 15 187 w os).abs (restOf bE env cE ⟨0,0,0,0⟩ B)=some (F LF 1309 w os):=by
 rw[show restOf bE env cE ⟨0,0,0,0⟩ B=restOf (G0++(Hm++(IG++(HM++(Iy++[]))))) env cE ⟨0,0,0,0⟩ B from congrArg (λb=>restOf b env cE ⟨0,0,0,0⟩ B) N2];exact piece_app (segRun_of (congrFun (NM w) os)) (piece_app (segRun_of (congrFun (NW w) os)) (piece_app (segRun_of (congrFun (Du w) os)) (piece_app (segRun_of (congrFun (NI w) os)) (piece_app (segRun_of (congrFun (NG w) os)) (piece_nil (congrFun (Hb w) os))))))
theorem MW(w:World)(os:OsState):topRun treeTable pw w 11 ann (12+(1+(1326+(1283+(1421+(1497+(882+2))))))) ⟨boot_heap w.params,⟨[]⟩,boot_drawn,boot_toks,os⟩ (topStub pw)=some (F LF 1309 w os) :=
 go_top (congrFun (zx w) os) (piece_block (congrFun (MH w) os) (BR w os))
end HD
end
section
namespace HD
open PySem PySem.W L2
noncomputable section
def vw:Program:=PySem.W.view pw [0,2,3,4,5,6,7,8,9,10,12,13,14,15,16,17,19,20,21,22,23,24,25,26,27,28,29,30,31,32,33,34,35,36,37,38,40,41,42,43,44,46,47,48,49,50,51,52,53,54,55,56,58,59,60,61,62,63,64,65,66,67,68,69,71,72,73,74,75,76,77,78,79,80,81,82,83,84,85,86]
def loose:List Str:=[]
noncomputable def as:List Addr:=[2,3,15,17,18,20,21,22,29,31,32,34,35,36,37,38,39,42,49,51,52,54,55,56,58,59,61,62,63,64,65,68,75,77,78,80,81,82,84,85,87,88,89,90,91,94,101,103,104,106,107,108,110,111,113,114,115,116,117,120,127,129,130,132,133,134,135,136,139,146,148,149,151,152,153,154,155,158,165,167,168,170,171,172,173,174,177,184,186,187,189,190,191,193,194,196,197,198,199,200,203,210,212,213,215,216,217,219,220,222,223,224,225,226,229,231,232,234,235,236,239,240,241,243,244,246,247,248,250,251,253,254,255,258,259,260,263,264,272,273,276,277,278,280,281,283,284,285,287,288,290,291,292,294,295,297,298,299,301,302,304,305,306,307,308,309,310,313,315,316,318,319,320,322,323,325,326,327,329,330,332,333,334,336,337,339,340,341,344,345,346,348,349,351,352,353,356,357,358,360,361,363,364,365,367,368,370,371,372,374,375,377,378,379,382,383,384,386,387,389,390,391,393,394,396,397,398,401,402,403,406,407,415,417,418,420,421,422,424,425,427,428,429,431,432,434,435,436,437,438,439,440,443,450,452,453,455,456,457,459,460,462,463,464,466,467,469,470,471,473,474,476,477,478,479,480,483,490,492,493,495,496,497,499,500,502,503,504,506,507,509,510,511,512,513,516,519,520,521,523,524,526,527,528,530,531,533,534,535,537,538,540,541,542,544,545,547,548,549,551,552,554,555,556,558,559,561,562,563,565,566,568,569,577,580,581,582,585,586,587,589,590,592,593,594,596,597,599,600,601,603,604,606,607,608,610,611,613,614,615,617,618,620,621,622,625,626,627,630,631,632,633,634,635,636,639,642,643,644,646,647,649,650,658,660,661,663,664,665,666,667,668,669,672,675,676,677,679,680,682,683,684,687,688,689,692,693,694,697,698,699,702,703,704,706,707,709,710,711,718,720,721,723,724,725,727,728,730,731,732,734,735,737,738,739,740,741,744,746,747,749,750,751,753,754,756,757,758,760,761,763,764,765,767,768,770,771,772,775,776,777,779,780,782,783,784,787,788,789,791,792,794,795,796,799,800,801,803,804,806,807,808,810,811,813,814,815,817,818,820,821,822,824,825,827,828,829,831,832,834,835,836,838,839,841,842,843,846,847]
def K(P:Params):Frag:=as.map λa=>(a,(LF P).getD a (su 0))
def hook:Hook:=kHook K as (λ_=>by kernel_rfl)
abbrev rr:RowW:=(PySem.Challenge.rw_dialvault_k57_locks_met.row).toRowW
def Xt:Shared->Bool:=λs=>xlAt vw [] s&&recOk (RowW.records rr) s
def H1(P:Params):Heap:=⟨⟨LF P⟩,{}⟩
end
theorem KP:∀ w:World,((boot_heap w.params).isNs mainGlobals&&(Array.mk []:Array GenState).size==0,(boot_heap w.params).objs.size,(boot_heap w.params).nsMap mainGlobals "__annotations__")=(true,11,ann):=λw=>by
 rw[PySem.W.Fast.te8920871248978507458]
 kernel_rfl
theorem NQ(w:World):staticsOk (importedModules pw.main.body) (boot_heap w.params) (H1 w.params)=true:=by
 first | (rw[Sj,Sk];kernel_rfl) | (rw[Sj];kernel_rfl) | (rw[Sk];kernel_rfl) | (kernel_rfl)
theorem NK(w:World):namesBound pw (H1 w.params)=true:=by
 first | (rw[Sj,Sk];kernel_rfl) | (rw[Sj];kernel_rfl) | (rw[Sk];kernel_rfl) | (kernel_rfl)
theorem NS(w:World)(os:_):gensDone ⟨H1 w.params,⟨[]⟩,⟨0,0,0,0⟩,1309,os⟩=true:=by
 first | (rw[Sj,Sk];kernel_rfl) | (rw[Sj];kernel_rfl) | (rw[Sk];kernel_rfl) | (kernel_rfl)
theorem N5(w:World):laidKept (boot_heap w.params) (H1 w.params)=true:=by
 first | (rw[Sj,Sk];kernel_rfl) | (rw[Sj];kernel_rfl) | (rw[Sk];kernel_rfl) | (kernel_rfl)
theorem N7(w:World)(os:_):openSeen vw loose (importedModules pw.main.body) Xt true ⟨H1 w.params,⟨[]⟩,⟨0,0,0,0⟩,1309,os⟩=openGood vw loose:=by
 first | (rw[Sj,Sk];kernel_rfl) | (rw[Sj];kernel_rfl) | (rw[Sk];kernel_rfl) | (kernel_rfl)
theorem NN(w:World)(os:_):Hook.obs hook ⟨H1 w.params,⟨[]⟩,⟨0,0,0,0⟩,1309,os⟩=Hook.val hook w:=by
 first | (rw[Sj,Sk];kernel_rfl) | (rw[Sj];kernel_rfl) | (rw[Sk];kernel_rfl) | (kernel_rfl)
theorem IH:∀ w:World,(λos=>((staticsOk (importedModules pw.main.body) (boot_heap w.params) (H1 w.params)&&namesBound pw (H1 w.params)&&gensDone ⟨H1 w.params,⟨[]⟩,⟨0,0,0,0⟩,1309,os⟩&&laidKept (boot_heap w.params) (H1 w.params)),
  openSeen vw loose (importedModules pw.main.body) Xt true ⟨H1 w.params,⟨[]⟩,⟨0,0,0,0⟩,1309,os⟩,Hook.obs hook ⟨H1 w.params,⟨[]⟩,⟨0,0,0,0⟩,1309,os⟩))=λ_=>(true,openGood vw loose,Hook.val hook w):=λw=>funext λos=>by
 rw[NQ,NK,NS,N5,N7,NN];rfl
theorem Js:LeftO pw vw loose Xt (Hook.obs hook) (Hook.val hook) 12934 :=
 LeftO.of_pieces (H₀:=boot_heap) (H₁:=H1) (gs₀:=⟨[]⟩) (gs₁:=⟨[]⟩) (d₀:=boot_drawn) (d₁:=⟨0,0,0,0⟩) (k₀:=boot_toks) (k₁:=1309) (m₀:=11) (ann:=ann) (M:=(12+(1+(1326+(1283+(1421+(1497+(882+2))))))))
  (boot_open (by kernel_rfl) (by kernel_rfl) (λs=>by kernel_rfl)) KP MW (by kernel_rfl) IH
end HD
end
section
open PySem PySem.W
theorem HD.said:PySem.Challenge.rw_dialvault_k57_locks_met.wellSaid=true:=by
 decide +kernel
end
namespace L2
open PySem PySem.Spec PyProof.Rows
variable{X:Cx}
variable{n:Nat}
def Cm(_ j:Int):Prop:=j≠0/\j.natAbs.log2<9000
theorem C1:gA X (binaryOp .FloorDiv) (rI Cm λi j=>.int (i.fdiv j)):=Ld λ_ _ _ _ _ _ _ hc q=>floordiv_int hc.1 q (.inl (PyProof.noPylong_of_log2 hc.2))
theorem EZ:gA X (binaryOp .Mult) (rI (λi j=>IntMulOk i j) λi j=>.int (i*j)):=Ld λ_ _ _ _ _ _ _ hc q=>mul_int q hc
theorem BA{a b:Int}{m:Nat}(ha:a.natAbs<2^m)(hb:b.natAbs<2^n)(h:m+n<=134217728):IntMulOk a b:=IntMulOk.of_le (intBits_le_iff.mpr ha) (intBits_le_iff.mpr hb) h
theorem tR:bootBuiltins "isinstance" = some (.builtin "isinstance"):=by decide +kernel
theorem Hi:bootBuiltins "int" = some (.type "int"):=by decide +kernel
theorem yH:bootBuiltins "bool" = some (.type "bool"):=by decide +kernel
theorem lX:bootBuiltins "tuple" = some (.type "tuple"):=by decide +kernel
theorem pq:bootBuiltins "list" = some (.type "list"):=by decide +kernel
theorem GY:bootBuiltins "str" = some (.type "str"):=by decide +kernel
theorem GU:bootBuiltins "sum" = some (.builtin "sum"):=by decide +kernel
def MY(K:R5):List V->Hp->VK->Prop:=λxs H Q=>∃ x T t b,xs=[x,.ty T]/\jK K H x t/\Sb K t (.type T)=some b/\Q (.bl b) H
def LZ(K:R5):List V->Hp->VK->Prop:=λxs H Q=>∃ x C t b,xs=[x,.ref C]/\jK K H x t/\Sb K t (.ref C)=some b/\Q (.bl b) H
theorem wc:dc X (.builtin "isinstance") (MY X.K):=by
 intro Oa s σ H xs us Q I r h;obtain⟨x,T,t,b,rfl,ty,e,q⟩:=h;cases r with
 | cons r1 r2 =>
  cases r2 with
  | cons r3 r4 =>
   cases r4;cases (show _=TU T from r3);exact rY I r1 ty e λtk=>⟨.bl b,H,I.tok tk,rfl,q⟩
theorem A5:dc X (.builtin "isinstance") (LZ X.K):=by
 intro Oa s σ H xs us Q I r h;obtain⟨x,C,t,b,rfl,ty,e,q⟩:=h;cases r with
 | cons r1 r2 =>
  cases r2 with
  | cons r3 r4 =>
   cases r4;cases (show _=Sd C from r3);exact rY I r1 ty e λtk=>⟨.bl b,H,I.tok tk,rfl,q⟩
section
variable(K:R5)
end
variable{o:HO}{a:Addr}{ch:List Addr}{t':Nat}{h':Heap}{s:Shared}{H:Hp}{σ:St}{Oa:List (Addr×Obj)}
variable{x1:Nat}{elts:List Expr}{w:World}{P:Program}
theorem Inv.nF(I:Inv X Oa σ H s)(k:∀ b u,b ∉ ch->s.heap.get? b=some u->h'.get? b=some u)
  (Qh:∀ b∈ch,ni X Oa H b) (hp:s.heap.objs.size<=a) (hl:∀ b∈ch,∃ u,s.heap.get? b=some u) (new:bZ X.prog X.w (upd H a o) h' a o):Inv X Oa σ (upd H a o) { s with heap:=h',toks:=t' }:=by
 have ne:∀ b u,s.heap.get? b=some u->b≠a:=λb u e=>So (Sh (Sa e) hp);have QS:H a=none:=I.bJ.fresh hp;have QY:∀ b u,H b=some u->b ∉ ch:=λb u e z=>by rw[(Qh b z).1] at e;cases e
 have QX:∀ b u,H b=some u->b≠a:=λb u e z=>by rw[z,QS] at e;cases e
 refine I.step (g':=s.gens) (d':=s.drawn) (ch:=ch) (λb hb=>?_) (λb u _ _ hc e _=>k b u hc e) (λb u _ _ hc e _=>⟨u.slots,k b u hc e⟩)
  (λb u _ e n=>by rw[av (ne b u e)];exact n) (λb u hc e=>⟨u,k b u hc e⟩)
  (λb xs e=>by rw[av (QX b _ e)];exact e) (λb ob u e=>by rw[av (QX b _ e)];exact e) (λb ps e=>⟨#[],by rw[av (QX b _ e),e];simp⟩) (λm hm=>?_) (λb u e=>?_) I.bare
 .obtain⟨_,f1,_,f3,f4,f5⟩:=Qh b hb;exact⟨f3,f1,f4,f5⟩
 .obtain⟨ob,es,ep,ho,r⟩:=hm;exact⟨ob,es,ep,k _ ob (λz=>(Qh _ z).2.1 rfl) ho,r⟩
 .by_cases z:b=a
  .subst z;rw[aA] at e;cases e;exact new
  .rw[av z] at e;refine(I.bJ b u e).lg (λc v hc q=>k c v ?_ q) (λc q=>?_) λc ys q=>?_
   .rcases hc with z' | z'
    .rw[z'];exact QY b u e
    .exact QY c _ z'
   .rw[av (QX c _ q)];exact q
   .rw[av (QX c _ q)];exact q
def II (K : R5) (a : Addr) : It :=
  ⟨λi H => ∃ xs x, gS K H a xs /\ xs[i]? = some x,
   λi H y H' => ∃ p x, H p = none /\ y = .ref p /\ H' = upd H p (.tup [.int i, x]) /\ ∀ xs, gS K H a xs -> xs[i]? = some x,
   λi H => ∃ xs, gS K H a xs /\ xs.length <= i⟩
theorem zW{K:R5}{tp:Pos}(a e it:Addr)(Qz:e≠it):Turn P w K (.Tuple elts x1 tp) (II K a) [e,it] e (λi h=>(∃ old,IsEnum h e it i old)/\h.IsListIter it a i) where
 mem:=by simp
 obj:=λi h st b hb=>by
  obtain⟨⟨old,he⟩,⟨o,e1,c,d⟩⟩:=st;rcases Ss.mp hb with z | z
  .subst z;exact⟨_,he,λv z=>by cases z⟩
  .have z':b=it:=by simpa using z
   subst z';exact⟨o,e1,λv z=>by rw[d] at z;cases z⟩
 keep:=λi h h' st k=>by
  obtain⟨⟨old,he⟩,hit⟩:=st;exact⟨⟨old,k e (by simp) _ he⟩,hit.at λo x=>k it (by simp) o x⟩
 item:=by
  intro X hP hw hK hc i Oa s σ H E I hf st hg;subst hP hw hK;obtain⟨xs,x,hq,hx⟩:=hg;obtain⟨Og,rv,p,hz⟩:=I.list hq;obtain⟨u,hu,ru⟩:=rv.get hx;obtain⟨⟨old,he⟩,hit⟩:=st;have QP:e<s.heap.objs.size:=Sa he;have Rc:it<s.heap.objs.size:=by obtain⟨_,z,_⟩:=hit;exact Sa z
  refine wpAny_pyNext_enum_item he hit p.isList (x:=u) (by simpa using hu) Qz λh' ho Rf hT Qc hk=>⟨_,rfl,?_⟩
  refine Wj (s:={ s with heap:=h',toks:=s.toks+1 }) ho λh2 he2 P8=>?_;have QW:∀ b o,b ∉ [e,it]->s.heap.get? b=some o->h2.get? b=some o:=λb o hb q=>by
   have n1:b≠e:=λz=>hb (by simp[z]);have n2:b≠it:=λz=>hb (by simp[z]);exact(P8.2 b n1).trans (hk b o n1 n2 q)
  have Q3:h2.get? s.heap.objs.size=some { cls:=.type "tuple", data:=.seq #[.int i s.toks,u] }:=(P8.2 _ (UK QP)).trans hT;have I2:Inv X Oa σ (upd H s.heap.objs.size (.tup [.int i,x])) { s with heap:=h2,toks:=s.toks+1 } :=
   I.nF (ch:=[e,it]) QW hf (Se _) (λb hb=>by
    rcases Ss.mp hb with z | z
    .subst z;exact⟨_,he⟩
    .have z':b=it:=by simpa using z
     subst z';obtain⟨o,z,_⟩:=hit;exact⟨o,z⟩)
    ⟨by show 2<=sizeLine;decide,[.int i s.toks,u],.cons ⟨_,rfl⟩ (.cons ru .nil),⟨_,Q3,rfl,_,rfl⟩⟩
  have P_:H s.heap.objs.size=none:=I.bJ.fresh (Se _);refine⟨.ref s.heap.objs.size,_,I2,rfl,⟨_,x,P_,rfl,rfl,λys hy=>by rw[I.qG hy hq];exact hx⟩,⟨⟨u,by simpa using he2⟩,Rf.at λo z=>(P8.2 it (T7 Qz)).trans z⟩,λb hb=>?_⟩;have nb:b≠s.heap.objs.size:=by
   rcases Ss.mp hb with z | z
   .rw[z];exact So QP
   .have z':b=it:=by simpa using z
    rw[z'];exact So Rc
  rw[av nb];exact(hf b hb).1
 done:=by
  intro X hP hw hK hc i Oa s σ H E I hf st hg;subst hP hw hK;obtain⟨xs,hq,hx⟩:=hg;obtain⟨Og,rv,p,hz⟩:=I.list hq;have hl:=rv.length;obtain⟨⟨old,he⟩,hit⟩:=st;obtain⟨f0,f1,f2,f3,f4,f5⟩:=hf it (by simp);exact wpAny_pyNext_enum_end (I.ok.hd hc) he hit p.isList (by simp;lia) λh' eb=>⟨rfl,I.turned (t':=s.toks) (λb o hb e=>eb b o hb e) f0 f1 f3 f4 f5⟩
 self:=λ_ _ _ _ _ st h=>by
  obtain⟨⟨old,he⟩,_⟩:=st;exact Vx he h
variable{A:Around}{prog:Program}
variable{pos:Pos}{scope:Scope}{ifs:List Expr}{elt iter:Expr}
section
variable{R:Result->Shared->Prop}
theorem zt{target:Expr}{it acc:Value}{env:Env}(I:Nat->Shared->Prop)
  (turn:∀ n s,I n s->wpAny (model prog w) A (pyNext it) (λr s₁=>match r with
   | none=>R (.ok .next) s₁
   | some v=>wpAny (model prog w) A (letOwnedTupleGo target it v) (λ_ s₂=>wpAny (model prog w) A (assign target env v) (λ_ s₃ =>
     wpAny (model prog w) A (forIn ifs true λc r=>if r=true then do let ok <- isTrue c env (eval c env);pure (YH ok) else pure (YH r)) (λok s₄ =>
      if ok=true then wpAny (model prog w) A (eval elt env) (λx s₅ =>
       wpAny (model prog w) A (call (.builtin "list.append") [acc,x]) (λ_ s₆=>∃ m,m<n/\I m s₆) (λ_ _=>False) s₅) (λ_ _=>False) s₄
      else ∃ m,m<n/\I m s₄) (λ_ _=>False) s₃) (λ_ _=>False) s₂) (λ_ _=>False) s₁) (λ_ _=>False) s)
  (n:Nat) (h:I n s) :
  codeAny (model prog w) A (.compLoop (.ListComp elt [⟨target,iter,ifs,0⟩] scope pos) 0 it acc env) R s:=by
 refine codeAny_loop rfl I (λn s hI=>?_) n h;show wpAny _ A ((compTurn (.ListComp elt [⟨target,iter,ifs,0⟩] scope pos) 0 it acc env).onRaise (λx=>do noteFrame x env;theTreesLotGoes x)) _ _ s;refine wpAny_noted ?_;rw[compTurn_list];refine R4 (UR (R4 (Tj (turn n s hI) (λr s₁ h₁=>?_) λ_ _ h'=>h'.elim)));cases r with
 | none=>exact R9 h₁
 | some v =>
  refine R4 (Tj h₁ (λ_ s₂ h₂=>R4 (Tj h₂ (λ_ s₃ h₃=>R4 (Tj h₃ (λok s₄ h₄=>?_) λ_ _ h'=>h'.elim)) λ_ _ h'=>h'.elim)) λ_ _ h'=>h'.elim);cases ok with
  | false=>exact R9 ⟨rfl,h₄⟩
  | true =>
   exact R4 (R4 (Tj h₄ (λx s₅ h₅=>R4 (Tj h₅ (λ_ s₆ h₆=>R9 (R9 ⟨rfl,h₆⟩)) λ_ _ h'=>h'.elim)) λ_ _ h'=>h'.elim))
end
def qI(X:Cx)(scope:Scope)(cl:List (Str×Addr))(N:List Str)(C:Addr)(s₀:Shared)(H₀:Hp)(ex:List Addr)(Oa:List (Addr×Obj)):Cx :=
 { X with N:=N,s₀:=s₀,H₀:=H₀,env:=compEnvC scope cl C X.env,outer:=X.stack,stack:=X.stack,ex:=ex,fn:=λ_=>false,pn:=X.pn++Oa,xe:=λ_ _=>False }
inductive iW (X:Cx) (sc:Scope) (cl:List (Str×Addr)):List Str->List Nat->Prop where
 | nil:iW X sc cl [] []
 | cons {x:Str} {j:Nat} {c:Addr} {fs:List Str} {js:List Nat} (hN:X.N[j]?=some x) (hf:sc.names.lookup x=some .free) (hv:X.env.kindOf x=some .cell\/X.env.kindOf x=some .free) (hc:X.env.cells.lookup x=some c) (hl:cl.lookup x=some c) (r:iW X sc cl fs js):iW X sc cl (x::fs) (j::js)
inductive eh (X:Cx):List (Str×Addr)->Prop where
 | nil:eh X []
 | cons {x:Str} {c:Addr} {r:List (Str×Addr)} (h:X.env.cells.lookup x=some c) (t:eh X r):eh X ((x,c)::r)
theorem eh.at{X:Cx}:∀ {cl:List (Str×Addr)},eh X cl->∀ x c,cl.lookup x=some c->X.env.cells.lookup x=some c
 | _,.nil,_,_,e=>by simp at e
 | _,.cons (x:=y) (c:=d) h t,x,c,e=>by
  rw[SY] at e;cases q:x==y with
  | true =>
   rw[q] at e;have e':d=c:=Sm e;have q':x=y:=by simpa using q
   rw[q',<- e'];exact h
  | false =>
   rw[q] at e;exact eh.at t x c e
def ik(cl:List (Str×Addr))(names:List (Str×NameKind)):Bool:=names.all λy=>y.2 != .free||(cl.lookup y.1).isSome
def fO(names:List (Str×NameKind)):Bool:=names.all λy=>y.2 != .cell
def g9(names:List (Str×NameKind)):Bool:=names.all λy=>y.2 != .local||(names.lookup y.1==some .local)
def fm(ts:List Str)(js:List Nat)(σ:St):St:=ts.map (λ_=>none)++js.map λj=>(σ[j]?).join
def yF(wi:TI)(g:TG)(tt:Option TT)(te:TE)(ts:List Str)(js:List Nat):TE:=fun σ H Q=>wi σ H λJ H1=>∀ D,H1 D=none ->
 ∃ W:Nat->Nat->St->Hp->Prop,(∃ m,W 0 m (fm ts js σ) (upd H1 D (.lst [])))/\∀ i m σ' H',W i m σ' H' ->
  (J.stop i H'/\Q (.ref D) H')\/(J.go i H'/\∃ N:St->Hp->Prop,(∀ σ'' H'',N σ'' H''->∃ m',m'<m/\W (i+1) m' σ'' H'') ∧
   ∀ x H2,J.wo i H' x H2->g x σ' H2 fun σ2 H3=>match tt with
    | none=>te σ2 H3 λy H4=>∃ ys,H4 D=some (.lst ys)/\ys.length<sizeLine/\N σ2 (upd H4 D (.lst (ys++[y])))
    | some t=>t σ2 H3 λb Rz=>if b=true then te σ2 Rz λy H4=>∃ ys,H4 D=some (.lst ys)/\ys.length<sizeLine/\N σ2 (upd H4 D (.lst (ys++[y]))) else N σ2 Rz)
variable{x:Str}{C:Addr}
theorem pM {cl : List (Str × Addr)} {env : Env} (h : (compEnvC scope cl C env).kindOf x = some .cell \/ (compEnvC scope cl C env).kindOf x = some .free) (nc : fO scope.names = true) : scope.names.lookup x = some .free := by
  have key : ∀ (names : List (Str × NameKind)), fO names = true ->
      ((names.map λ(n, k) => if (k == VL && env.scope.kind == .function && env.kindOf n == some .cell) then (n, Xx) else (n, k)).lookup x = some .cell ∨
       (names.map λ(n, k) => if (k == VL && env.scope.kind == .function && env.kindOf n == some .cell) then (n, Xx) else (n, k)).lookup x = some .free) -> names.lookup x = some .free := by
    intro names
    induction names with
    | nil => intro _ h; simp at h
    | cons p r ih =>
      obtain ⟨n, k⟩ := p;intro nc h;have nc' : (k != .cell) = true /\ fO r = true := by
        unfold fO at nc;rw [WB, SX] at nc;exact nc
      rw [Su] at h;dsimp only at h
      by_cases hc : (k == VL && env.scope.kind == .function && env.kindOf n == some .cell) = true
      . rw [if_pos hc] at h;rw [SY] at h ⊢;cases q : x == n with
        | true =>
          have : k = .free := by
            rw [SX, SX] at hc;simpa using hc.1.1
          rw [this]
        | false =>
          rw [q] at h;exact ih nc'.2 h
      . rw [if_neg hc] at h;rw [SY] at h ⊢;cases q : x == n with
        | true =>
          rw [q] at h;have nk : k ≠ .cell := by simpa using nc'.1
          rcases h with h | h
          . exact absurd (Sm h) nk
          . exact h
        | false =>
          rw [q] at h;exact ih nc'.2 h
  exact key scope.names nc h
variable{js:List Nat}{ts:List Str}{te:TE}{tt:Option TT}{Om:Pos}{tg:Expr}
theorem pK{cl:List (Str×Addr)}{wi:TI}{g:TG}{fs:List Str}(Oj:X.calm=true)
  (OO:closureFor scope X.env=pure cl) (hk:scope.kind=.function) (nc:fO scope.names=true) (lo:g9 scope.names=true) (fh:ik cl scope.names=true) (ag:eh X cl) (fr:iW X scope cl fs js)
  (hi:PI X tg iter wi) (hg:∀ C s₀ H₀ ex Oa,PG (qI X scope cl (ts++fs) C s₀ H₀ ex Oa) tg g)
  (ht:∀ C s₀ H₀ ex Oa,match ifs,tt with | [],none=>True | [c],some t=>PT (qI X scope cl (ts++fs) C s₀ H₀ ex Oa) c t | _,_=>False)
  (he:∀ C s₀ H₀ ex Oa,PE (qI X scope cl (ts++fs) C s₀ H₀ ex Oa) elt te)
  (hs:∀ x,foldedSetIterable iter X.env x=pure x) {Q:VK} (I:Inv X Oa σ H s) (h:yF wi g tt te ts js σ H Q)
  (use:Option (Value->Sem Unit)) (Qv:Value->Shared->Prop)
  (Hb:∀ (D:Addr) (H':Hp) (s':Shared) (C:Addr),Inv X Oa σ H' s'->Q (.ref D) H'->(∃ m,s'.heap.Ns C m)->ni X Oa H' C->compPost (model X.prog X.w) X.A X.xe use Qv (.ref D) C (.ok .next) s') :
  wpAny (model X.prog X.w) X.A (comprehension (.ListComp elt [⟨tg,iter,ifs,0⟩] scope pos) scope X.env Om (newList []) false (eval iter X.env) use) Qv X.xe s:=by
 have Qx:∀ y∈scope.names,y.2≠.cell:=λy hy=>by
  have:=SD.mp nc y hy;simpa using this
 have Ri:∀ y∈scope.names,y.2=.local->scope.names.lookup y.1=some .local:=λy hy hl=>by
  have:=SD.mp lo y hy;rw[hl] at this;simpa using this
 refine wpAny_comprehension_free (use:=use) rfl hs OO hk Ri (cU (hi Oa s σ H _ I h) λv s1 h1=>cU h1 λitv s2 h2=>?_);obtain⟨it,fp,tn,J,H1,e,I2,T,Q0,f2,hJ⟩:=h2;subst e;refine Tz (wpAny_newFunctionEnv Qx (by intro y hy;simp at hy) (λh₁ hns1 hsb1=>?_) hk);dsimp only at hns1 hsb1 ⊢;generalize hH2:s2.heap.push { cls:=.type "list", dict:=none,data:=.seq ([]:List Value).toArray }=G at hns1 hsb1 ⊢;have hC:G.objs.size=s2.heap.objs.size+1:=by rw[<- hH2,Tc]
 have old:∀ b o,s2.heap.get? b=some o->h₁.get? b=some o:=λb o e=>by
  have hb:=Sa e;refine hsb1.extBut b o (So (Sh hb (Vn (by rw[hC];exact T4 _)))) (R6 _ ?_);rw[<- hH2];exact R6 _ e
 have hacc:h₁.get? s2.heap.objs.size=some { cls:=.type "list", dict:=none,data:=.seq #[] }:=by
  refine hsb1.extBut _ _ (So (by rw[hC];exact T4 _)) (R6 _ ?_);rw[<- hH2];exact Sg _ rfl
 have nD:H1 s2.heap.objs.size=none:=I2.bJ.fresh (Se _);have nC:H1 G.objs.size=none:=I2.bJ.fresh (by lia);obtain⟨W,⟨m0,w0⟩,turn⟩:=hJ _ nD;have RK:∀ b∈fp,b<s2.heap.objs.size:=λb hb=>by
  obtain⟨o,e,_⟩:=T.obj _ _ Q0 b hb;exact Sa e
 have ltk:∀ (x:Str) (c:Addr),cl.lookup x=some c->c<s2.heap.objs.size/\H1 c=none/\(∃ v,s2.heap.IsCell c v):=λx c e=>by
  have e':=ag.at x c e;obtain⟨v,q⟩:=I2.cell x c e';exact⟨q.lt,I2.eQ x c e',v,q⟩
 let X':=qI X scope cl (ts++fs) G.objs.size s2 H1 fp Oa
 have okX:X'.Ok:=by
  refine⟨I2.ok.mod,hk,I2.ok.glob,I2.ok.blt,by show s2.heap.objs.size<=G.objs.size;lia,λx y c e1 e2=>I2.ok.inj x y c (ag.at x c e1) (ag.at y c e2),λx hx=>?_,λx c hf _=>(nomatch (show (false:Bool)=true from hf)),I2.ok.hd,I2.ok.frames,.inl rfl,λb hb=>⟨?_,λx c e z=>?_⟩,λb o e=>I2.bs b o e,SE I2.ok.Ao I2.sz,λb o e hb=>?_,λb hb hz=>?_,I2.stack,λb hb=>I2.sI b hb⟩
  .have Qy:=pM (env:=X.env) hx nc;have hm:∃ y∈scope.names,y.1=x/\y.2=.free:=by
    have:∀ (l:List (Str×NameKind)),l.lookup x=some .free->∃ y∈l,y.1=x/\y.2=.free:=by
     intro l
     induction l with
     | nil=>intro h;simp at h
     | cons p r ih =>
      intro h;rw[SY] at h;cases q:x==p.1 with
      | true =>
       rw[q] at h;exact⟨p,Sq,(by simpa using q:x=p.1).symm,Sm h⟩
      | false =>
       rw[q] at h;obtain⟨y,hy,r1,r2⟩:=ih h;exact⟨y,Sl _ hy,r1,r2⟩
    exact this _ Qy
   obtain⟨y,hy,r1,r2⟩:=hm;have:=SD.mp fh y hy;rw[r2] at this;have h':(cl.lookup y.1).isSome=true:=by simpa using this
   rw[r1] at h';exact T_.mp h'
  .exact So (Sh (RK b hb) (by show s2.heap.objs.size<=G.objs.size;lia))
  .exact(f2 b hb).2.2.2.2.1 x c (ag.at x c e) z
  .obtain⟨_,_,_,f3,_,_⟩:=f2 b hb;rcases f3 with z | z
   .exact I2.ok.uk b o e z
   .exact absurd (Sh (Sa (I2.ok.bs b o e).1) z) (Uw _)
  .rcases Ss.mp (I2.sJ b hz) with z | z
   .exact(f2 b hb).2.1 z
   .exact(f2 b hb).2.2.1 z
 have keepB:∀ b o,s2.heap.get? b=some o->h₁.get? b=some o:=old;have I3:Inv X' [] (fm ts js σ) (upd H1 s2.heap.objs.size (.lst [])) { s2 with heap:=h₁,toks:=s2.toks+([]:List (Str×Value)).length }:=by
  have neD:∀ b o,s2.heap.get? b=some o->b≠s2.heap.objs.size:=λb o e=>So (Sa e);refine⟨okX,rfl,I2.bare,⟨λb o e n hb hx=>old b o e,λb o e n hb hx=>⟨o.slots,old b o e⟩,λb o e n hx=>by rw[av (neD b o e)];exact n,λb o e hx=>⟨o,old b o e⟩,λb xs e=>?_,λb o u e=>?_,λb ps e=>?_⟩,⟨_,hns1,λi x v e1 e2 e3=>?_⟩,λx c e=>?_,?_,λx c e=>?_,λp hp=>?_,?_,?_⟩
  .rw[av (cn e nD)];exact e
  .rw[av (cn e nD)];exact e
  .exact⟨#[],by rw[av (cn e nD)];exact SI e (by simp)⟩
  .
   have hlen:(ts.map (λ_=>(none:Option V))).length=ts.length:=R_ _;unfold fm at e2
   by_cases PH:i<ts.length
   .rw[S6 (by rw[hlen];exact PH),Sx] at e2;cases q:ts[i]? <;> rw[q] at e2 <;> cases e2
   .rw[S2 (by rw[hlen];lia),hlen] at e2;have e1':fs[i-ts.length]?=some x:=by
     have e1':(ts++fs)[i]?=some x:=e1;rw[S2 (by lia)] at e1';exact e1'
    have all:∀ {fs:List Str} {js:List Nat},iW X scope cl fs js->∀ k:Nat,fs[k]?=some x->(js.map λj=>(σ[j]?).join)[k]?=some (some v) ->
      ∃ (j:Nat) (c:Addr),X.N[j]?=some x/\σ[j]?=some (some v)/\(X.env.kindOf x=some .cell\/X.env.kindOf x=some .free)/\X.env.cells.lookup x=some c/\cl.lookup x=some c/\scope.names.lookup x=some .free:=by
     intro fs js r
     induction r with
     | nil=>intro k e;simp at e
     | @cons y j c fs js hN hf hv hc hl r ih =>
      intro k e e';cases k with
      | zero =>
       have e0:y=x:=by simpa using e
       subst e0;have RC:(σ[j]?).join=some v:=by simpa using e'
       refine⟨j,c,hN,?_,hv,hc,hl,hf⟩;cases q:σ[j]? with
       | none=>rw[q] at RC;cases RC
       | some z=>rw[q] at RC;cases z with
        | none=>cases RC
        | some z =>
         have:z=v:=by simpa using RC
         rw[this]
      | succ k=>exact ih k (by simpa using e) (by simpa using e')
    obtain⟨j,c,q1,q2,q3,q4,q5,q6⟩:=all fr (i-ts.length) e1' e2;obtain⟨m,hn,hl⟩:=I2.loc;have vis:BE X.env.scope x:=by
     rcases q3 with z | z
     .exact .inr (.inl z)
     .exact .inr (.inr z)
    obtain⟨u,ru,lk⟩:=hl j x v q1 q2 vis;refine⟨u,ru,.inr ⟨?_,c,q5,?_⟩⟩
    .rcases e3 with z | z | z
     .exfalso;have key:∀ (l:List (Str×NameKind)),(l.map λ(n,k)=>if (k==VL&&X.env.scope.kind==.function&&X.env.kindOf n==some .cell) then (n,Xx) else (n,k)).lookup x=some .local->l.lookup x=some .local:=by
       intro l
       induction l with
       | nil=>intro h;simp at h
       | cons p r ih =>
        obtain⟨n,k⟩:=p;intro h;rw[Su] at h;dsimp only at h
        by_cases hc:(k==VL&&X.env.scope.kind==.function&&X.env.kindOf n==some .cell)=true
        .rw[if_pos hc] at h;rw[SY] at h ⊢;cases q:x==n with
         | true=>rw[q] at h;cases h
         | false=>rw[q] at h;exact ih h
        .rw[if_neg hc] at h;rw[SY] at h ⊢;cases q:x==n with
         | true=>rw[q] at h;exact h
         | false=>rw[q] at h;exact ih h
      have:=key _ z;rw[q6] at this;cases this
     .exact .inl z
     .exact .inr z
    .rcases lk with ⟨k,_⟩ | ⟨_,c',e4,z⟩
     .rcases q3 with z | z <;> rw[z] at k <;> cases k
     .rw[q4] at e4;cases e4;obtain⟨o,ho,hd⟩:=z;exact⟨o,old c o ho,hd⟩
  .obtain⟨_,_,v,o,ho,hd⟩:=ltk x c e;exact⟨v,o,old c o ho,hd⟩
  .show upd H1 s2.heap.objs.size (.lst []) G.objs.size=none;rw[av (UK (by rw[hC];exact T4 _))];exact nC
  .obtain⟨q1,q2,_⟩:=ltk x c e;rw[av (So q1)];exact q2
  .have Q9:p∈X.pn++Oa:=by
    have:p∈(X.pn++Oa)++[]:=hp
    rwa [SK] at this
   obtain⟨e,n,ne,nf,d⟩:=I2.pin p Q9;have PH:=Sa e;refine⟨old _ _ e,by rw[av (So PH)];exact n,?_,λhz=>?_,d⟩
   .show p.1≠G.objs.size;exact So (Nat.lt_trans PH (by rw[hC];exact T4 _))
   .rcases Ss.mp (I2.sJ _ hz) with z | z
    .exact ne z
    .exact nf z
  .exact I2.bJ.laid old (Se _) ⟨TY _,[],0,.nil,hacc⟩
  .show (fm ts js σ).length=(ts++fs).length;have frl:∀ {fs:List Str} {js:List Nat},iW X scope cl fs js->fs.length=js.length:=by
    intro fs js r
    induction r with
    | nil=>rfl
    | cons _ _ _ _ _ _ ih=>rw[T3,T3,ih]
   unfold fm;rw[Sw,Sw,R_,R_,frl fr]
 have Qu:∀ {H':Hp},(∀ b∈fp,H' b=none)->∀ b∈fp,ni X' [] H' b:=λ{H'} hn b hb=>by
  obtain⟨_,f1,f3,_,f4,f5⟩:=f2 b hb;refine⟨hn b hb,okX.Je b hb |>.1,okX.u0 b hb,.inl hb,λx c e=>f4 x c (ag.at x c e),λp hp=>f5 p ?_⟩;have:p∈(X.pn++Oa)++[]:=hp
  rwa [SK] at this
 have fin:∀ {σ':St} {H':Hp} {s':Shared},Inv X' [] σ' H' s'->Q (.ref s2.heap.objs.size) H' ->
   compPost (model X.prog X.w) X.A X.xe use Qv (.ref s2.heap.objs.size) G.objs.size (.ok .next) s':=by
  intro σ' H' s' I4 q;obtain⟨m,hn,_⟩:=I4.loc;have fC:H' G.objs.size=none:=I4.free;have Io:Inv X Oa σ H' s':=by
   refine I2.BN (s':=s') (ch:=fp) I4.os ⟨λb o e n hb hx=>?_,λb o e n hb hx=>?_,λb o e n hx=>I4.base.free b o e n hx,λb o e hx=>?_,I4.base.oz,I4.base.j3,I4.base.oJ⟩ I4.bJ I4.bare λb hb=>?_
   .exact I4.base.keep b o e n hb hx
   .exact I4.base.slot b o e n hb hx
   .exact I4.base.there b o e hx
   .obtain⟨_,f1,_,f3,f4,f5⟩:=f2 b hb;exact⟨f3,f1,f4,f5⟩
  have hCl:s2.heap.objs.size<=G.objs.size:=by rw[hC];exact VS _
  exact Hb _ H' s' _ Io q ⟨m,hn⟩ (I2.vI hCl fC)
 have loop:∀ s3:Shared,s3={ s2 with heap:=h₁,toks:=s2.toks+([]:List (Str×Value)).length } ->
   codeAny (model X.prog X.w) X.A (.compLoop (.ListComp elt [⟨tg,iter,ifs,0⟩] scope pos) 0 (.ref it) (.ref s2.heap.objs.size) (compEnvC scope cl G.objs.size X.env))
    (compPost (model X.prog X.w) X.A X.xe use Qv (.ref s2.heap.objs.size) G.objs.size) s3:=by
  rintro s3 rfl;refine zt (λn s'=>∃ i σ' H',Inv X' [] σ' H' s'/\tn i s'.heap/\(∀ b∈fp,H' b=none)/\W i n σ' H') ?_ m0 ⟨0,_,_,I3,T.keep _ _ _ Q0 λb _ o e=>old b o e,λb hb=>?_,w0⟩
  .rintro n s3 ⟨i,σ3,H3,I3,Ry,fr3,w3⟩;rcases turn i n σ3 H3 w3 with ⟨stop,qn⟩ | ⟨go,N,hN,step⟩
   .refine cU (T.done X' rfl rfl rfl Oj i [] s3 σ3 H3 _ I3 (Qu fr3) Ry stop) λr s4 ⟨hr,I4⟩=>?_;subst hr;exact fin I4 qn
   .refine cU (T.item X' rfl rfl rfl Oj i [] s3 σ3 H3 _ I3 (Qu fr3) Ry go) λr s4 ⟨u,hr,h4⟩=>?_;subst hr;refine cU h4 λ_ s5 ⟨x,H5,I5,r5,y5,st5,fr5⟩=>?_;have I5':=I5.pinned (Qu fr5) (T.obj _ _ st5);refine cU (hg _ _ _ _ _ _ s5 σ3 H5 x u _ I5' r5 (step x H5 y5)) λ_ s6 ⟨σ6,H6,I6,q6⟩=>?_;have again:∀ {σ7:St} {H7:Hp} {s7:Shared},Inv X' ([]++mP fp s5.heap) σ7 H7 s7->N σ7 H7->∃ m,m<n/\∃ i σ' H',Inv X' [] σ' H' s7/\tn i s7.heap/\(∀ b∈fp,H' b=none)/\W i m σ' H':=λ{σ7 H7 s7} I7 n7=>by
     obtain⟨m',hm,w7⟩:=hN σ7 H7 n7;refine⟨m',hm,i+1,σ7,H7,I7.ma,T.keep _ _ _ st5 λb hb o e=>(I7.pin (b,o) (SQ _ (SQ _ (jd hb e)))).1,λb hb=>?_,w7⟩;obtain⟨o,e,d⟩:=T.obj _ _ st5 b hb;exact(I7.pin (b,o) (SQ _ (SQ _ (jd hb e)))).2.1
    have tail:∀ {H7:Hp} {s7:Shared},Inv X' ([]++mP fp s5.heap) σ6 H7 s7->(te σ6 H7 λy H4=>∃ ys,H4 s2.heap.objs.size=some (.lst ys)/\ys.length<sizeLine/\N σ6 (upd H4 s2.heap.objs.size (.lst (ys++[y])))) ->
      wpAny (model X.prog X.w) X.A (eval elt (compEnvC scope cl G.objs.size X.env)) (λx s₅=>wpAny (model X.prog X.w) X.A (call (.builtin "list.append") [.ref s2.heap.objs.size,x])
       (λ_ s₆=>∃ m,m<n/\∃ i σ' H',Inv X' [] σ' H' s₆/\tn i s₆.heap/\(∀ b∈fp,H' b=none)/\W i m σ' H') (λ_ _=>False) s₅) (λ_ _=>False) s7:=by
     intro H7 s7 I7 q7;refine cU (he _ _ _ _ _ _ s7 σ6 H7 _ I7 q7) λuy s8 ⟨y,H8,I8,ry,ys,hy,hl,q8⟩=>?_;refine cU (rR (X:=X') _ s8 σ6 H8 (.ref s2.heap.objs.size) [y] (.ref s2.heap.objs.size) [uy] (λ_ H9=>N σ6 H9) I8 rfl (.cons ry .nil) ⟨_,ys,y,rfl,rfl,hy,hl,q8⟩) λ_ s9 ⟨_,H9,I9,_,q9⟩=>?_;exact again I9 q9
    cases ifs with
    | nil =>
     cases tt with
     | none=>exact wpAny_tests_nil (tail I6 q6)
     | some t=>exact(ht 0 s2 H1 [] []).elim
    | cons c r =>
     cases r with
     | nil =>
      cases tt with
      | none=>exact(ht 0 s2 H1 [] []).elim
      | some t =>
       refine wpAny_tests_one (cU (ht G.objs.size s2 H1 fp Oa _ s6 σ6 H6 _ I6 q6) λb s7 ⟨H7,I7,q7⟩=>?_);cases b with
       | true =>
        rw[if_pos rfl] at q7 ⊢;exact tail I7 q7
       | false =>
        rw[if_neg To] at q7 ⊢;exact again I7 q7
     | cons _ _=>cases tt <;> exact(ht 0 s2 H1 [] []).elim
  .rw[av (So (RK b hb))];exact(f2 b hb).1
 exact codeAny_compStart_list (loop _ rfl) (T.self _ 0 _ _ _ (T.keep _ _ _ Q0 λb _ o e=>old b o e) (loop _ rfl))
theorem Inv.other(I:Inv X Oa σ H s)(f:ni X Oa H C)(hs:Vo C s.heap h'):Inv X Oa σ H { s with heap:=h' }:=by
 obtain⟨f0,f1,_,f3,f4,f5⟩:=f;refine I.BN (s':={ s with heap:=h' }) (ch:=[C]) rfl ⟨λb o e n hb hx=>?_,λb o e n hb hx=>?_,λb o e n hx=>n,λb o e hx=>?_,λ_ _ q=>q,λ_ _ _ q=>q,λb ps q=>⟨#[],by rw[q];simp⟩⟩ (λb u e=>?_) I.bare λb hb=>?_
 .exact(hs.2 b (λz=>hx (by rw[z];exact Tq.mpr rfl))).trans e
 .exact⟨o.slots,(hs.2 b (λz=>hx (by rw[z];exact Tq.mpr rfl))).trans e⟩
 .exact⟨o,(hs.2 b (λz=>hx (by rw[z];exact Tq.mpr rfl))).trans e⟩
 .refine(I.bJ b u e).lg (λc v hc q=>(hs.2 c ?_).trans q) (λ_ q=>q) λ_ _ q=>q;rcases hc with z | z
  .rw[z];exact cn e f0
  .exact cn z f0
 .rw[Tq.mp hb];exact⟨f3,f1,f4,f5⟩
theorem DJ{cl:List (Str×Addr)}{wi:TI}{g:TG}{fs:List Str}(Oj:X.calm=true)
  (OO:closureFor scope X.env=pure cl) (hk:scope.kind=.function) (nc:fO scope.names=true) (lo:g9 scope.names=true) (fh:ik cl scope.names=true) (ag:eh X cl) (fr:iW X scope cl fs js)
  (hi:PI X tg iter wi) (hg:∀ C s₀ H₀ ex Oa,PG (qI X scope cl (ts++fs) C s₀ H₀ ex Oa) tg g)
  (ht:∀ C s₀ H₀ ex Oa,match ifs,tt with | [],none=>True | [c],some t=>PT (qI X scope cl (ts++fs) C s₀ H₀ ex Oa) c t | _,_=>False)
  (he:∀ C s₀ H₀ ex Oa,PE (qI X scope cl (ts++fs) C s₀ H₀ ex Oa) elt te)
  (hs:autoParam (∀ x,foldedSetIterable iter X.env x=pure x) aI._auto_1) :
  PE X (.ListComp elt [⟨tg,iter,ifs,0⟩] scope pos) (yF wi g tt te ts js):=by
 intro Oa s σ H Q I h;rw[eval_ListComp];refine pK Oj OO hk nc lo fh ag fr hi hg ht he hs I h none _ λD H' s' C Io q hm f=>?_;obtain⟨m,hn⟩:=hm;exact⟨m,hn,λh' Q_=>⟨.ref D,H',Io.other f Q_,rfl,q⟩⟩
def wy(wi:TI)(g:TG)(te:TE)(ts:List Str)(js:List Nat):TE:=fun σ H Q=>wi σ H λJ H1=>∀ D,H1 D=none ->
 ∃ W:Nat->Nat->St->Hp->Prop,(∃ m,W 0 m (fm ts js σ) (upd H1 D (.lst [])))/\∀ i m σ' H',W i m σ' H' ->
  (J.stop i H'/\Q (.ref D) H')\/(J.go i H'/\∃ N:St->Hp->Prop,(∀ σ'' H'',N σ'' H''->∃ m',m'<m/\W (i+1) m' σ'' H'') ∧
   ∀ x H2,J.wo i H' x H2->g x σ' H2 fun σ2 H3=>te σ2 H3 λy H4=>∃ ys,H4 D=some (.lst ys)/\ys.length<sizeLine/\N σ2 (upd H4 D (.lst (ys++[y]))))
def AK(wi:TI)(g:TG)(t:TT)(te:TE)(ts:List Str)(js:List Nat):TE:=fun σ H Q=>wi σ H λJ H1=>∀ D,H1 D=none ->
 ∃ W:Nat->Nat->St->Hp->Prop,(∃ m,W 0 m (fm ts js σ) (upd H1 D (.lst [])))/\∀ i m σ' H',W i m σ' H' ->
  (J.stop i H'/\Q (.ref D) H')\/(J.go i H'/\∃ N:St->Hp->Prop,(∀ σ'' H'',N σ'' H''->∃ m',m'<m/\W (i+1) m' σ'' H'') ∧
   ∀ x H2,J.wo i H' x H2->g x σ' H2 fun σ2 H3=>t σ2 H3 λb Rz=>if b=true then te σ2 Rz λy H4=>∃ ys,H4 D=some (.lst ys)/\ys.length<sizeLine/\N σ2 (upd H4 D (.lst (ys++[y]))) else N σ2 Rz)
theorem De{cl:List (Str×Addr)}{wi:TI}{g:TG}{fs:List Str}(Oj:X.calm=true)
  (OO:closureFor scope X.env=pure cl) (hk:scope.kind=.function) (nc:fO scope.names=true) (lo:g9 scope.names=true) (fh:ik cl scope.names=true) (ag:eh X cl) (fr:iW X scope cl fs js)
  (hi:PI X tg iter wi) (hg:∀ C s₀ H₀ ex Oa,PG (qI X scope cl (ts++fs) C s₀ H₀ ex Oa) tg g) (he:∀ C s₀ H₀ ex Oa,PE (qI X scope cl (ts++fs) C s₀ H₀ ex Oa) elt te)
  (hs:autoParam (∀ x,foldedSetIterable iter X.env x=pure x) aI._auto_1):PE X (.ListComp elt [⟨tg,iter,[],0⟩] scope pos) (wy wi g te ts js) :=
 DJ (tt:=none) Oj OO hk nc lo fh ag fr hi hg (λ_ _ _ _ _=>trivial) he hs
def mK(h:Heap)(b:Bool)(l:Addr)(xs:Array Value):Prop:=match b with
 | true=>h.IsList l xs
 | false=>h.IsTuple l xs
def lU(h:Heap)(b:Bool)(it l:Addr)(i:Nat):Prop:=match b with
 | true=>h.IsListIter it l i
 | false=>h.IsTupleIter it l i
variable{l:Addr}{b:Bool}{h:Heap}
theorem mK.at{xs:Array Value}(x:mK h b l xs)(k:∀ o,h.get? l=some o->h'.get? l=some o):mK h' b l xs:=by
 cases b with
 | true=>obtain⟨o,ho,r⟩:=(show h.IsList l xs from x);exact(show h'.IsList l xs from ⟨o,k o ho,r⟩)
 | false=>obtain⟨o,ho,r⟩:=(show h.IsTuple l xs from x);exact(show h'.IsTuple l xs from ⟨o,k o ho,r⟩)
variable{i:Nat}{it:Addr}
theorem lU.at(x:lU h b it l i)(k:∀ o,h.get? it=some o->h'.get? it=some o):lU h' b it l i:=by
 cases b with
 | true=>obtain⟨o,ho,r⟩:=(show h.IsListIter it l i from x);exact(show h'.IsListIter it l i from ⟨o,k o ho,r⟩)
 | false=>obtain⟨o,ho,r⟩:=(show h.IsTupleIter it l i from x);exact(show h'.IsTupleIter it l i from ⟨o,k o ho,r⟩)
theorem lU.obj(x:lU h b it l i):∃ o vs,h.get? it=some o/\o.data=.fields vs:=by
 cases b with
 | true=>obtain⟨o,ho,_,hd⟩:=(show h.IsListIter it l i from x);exact⟨o,_,ho,hd⟩
 | false=>obtain⟨o,ho,_,hd⟩:=(show h.IsTupleIter it l i from x);exact⟨o,_,ho,hd⟩
theorem mK.obj{xs:Array Value}(x:mK h b l xs):∃ o n,h.get? l=some o/\o.data=.seq xs n:=by
 cases b with
 | true=>obtain⟨o,ho,_,n,hd⟩:=(show h.IsList l xs from x);exact⟨o,n,ho,hd⟩
 | false=>obtain⟨o,ho,_,n,hd⟩:=(show h.IsTuple l xs from x);exact⟨o,n,ho,hd⟩
variable{Q:Value->Shared->Prop}{items:Array Value}
variable{ys:Array Value}{k1 k2:Nat}
section
variable{E:Value->Shared->Prop}
theorem iC{t:Addr}{x:Value}(hit:s.heap.IsTupleIter it t i)
  (ht:s.heap.IsTuple t items) (hx:items[i]?=some x)
  (hQ:∀ h',h'.IsTupleIter it t (i+1)->Vo it s.heap h'->Q x { s with heap:=h' }) :
  wpAny (model prog w) A (SA (.ref it)) Q E s:=by
 obtain⟨o,ho,hc,hd⟩:=id hit;obtain⟨ol,hol,_,nl,hdl⟩:=ht;unfold SA;refine R4 (Ti (name:=Si "__next__") hit.typeIs F.slot_tuple_iterator_next
  (Uh F.slot_tuple_iterator_next hit.typeIs F.entry_tuple_iterator_next ?_ (F.args_tuple_iterator_next_1 _)))
 show wpAny _ _ (field (.ref it) 0 >>= _) _ _ s;refine R4 (SH ho hd (x:=.ref t) rfl ?_);show wpAny _ _ (if (Sd t==SM)=true then _ else _) _ _ s;rw[if_neg (show ¬ ((Sd t==SM)=true) from To)];show wpAny _ _ (field (.ref it) 1 >>= _) _ _ s;refine R4 (SH ho hd (x:=.int i 0) rfl ?_);show wpAny _ _ (seqItems? (.ref t) >>= _) _ _ s;refine R4 (Ui hol hdl ?_);simp only[TH,hx];refine R4 (Vy ho hd (by simp) (R9 ⟨x,rfl,R9 (hQ _ ?_ (Xr ..))⟩));exact⟨_,TZ _ ho (US (Uj hd _)),(Obj.cls_mapFields ..).trans hc,by
  rw[Uj hd];simp[rawInt]⟩
theorem eS{t:Addr}(hh:A.handled=none)
  (hit:s.heap.IsTupleIter it t i) (ht:s.heap.IsTuple t items) (hx:items[i]?=none)
  (hE:∀ h' e,Heap.ExtBut it s.heap h'->(∃ o,h'.get? e=some o/\o.cls=.type "StopIteration")->E (.ref e) { s with heap:=h' }) :
  wpAny (model prog w) A (SA (.ref it)) Q E s:=by
 obtain⟨o,ho,hc,hd⟩:=id hit;obtain⟨ol,hol,_,nl,hdl⟩:=ht;unfold SA;refine R4 (Ti (name:=Si "__next__") hit.typeIs F.slot_tuple_iterator_next
  (Uh F.slot_tuple_iterator_next hit.typeIs F.entry_tuple_iterator_next ?_ (F.args_tuple_iterator_next_1 _)))
 show wpAny _ _ (field (.ref it) 0 >>= _) _ _ s;refine R4 (SH ho hd (x:=.ref t) rfl ?_);show wpAny _ _ (if (Sd t==SM)=true then _ else _) _ _ s;rw[if_neg (show ¬ ((Sd t==SM)=true) from To)];show wpAny _ _ (field (.ref it) 1 >>= _) _ _ s;refine R4 (SH ho hd (x:=.int i 0) rfl ?_);show wpAny _ _ (seqItems? (.ref t) >>= _) _ _ s;refine R4 (Ui hol hdl ?_);simp only[TH,hx];refine R4 (VE (R4 (Vy ho hd (by simp) ?_)));show wpAny _ _ (newExc (.type "StopIteration") [] >>= _) _ _ _;refine R4 ?_;simp only[newExc,newTuple];refine R4 (Tz ?_ (by size_fits));refine R4 (m:=firstArgMember _ _) (wpAny_of_eq (a:=SM) (by first | rfl | (simp only[firstArgMember];rfl)) ?_);refine Tz ?_ (by size_fits);simp only[raiseNew];refine R4 (wpAny_handled ?_)
 first | rw[show A.in1.handled=none from hh] | rw[hh]
 refine R4 (R9 (wpAny_throw ?_));exact hE _ _ (((Xr ..).extBut.push _).push _) ⟨_,Sg _ rfl,rfl⟩
theorem jZ{x:Value}(hit:lU s.heap b it l i)(hl:mK s.heap b l items)(hx:items[i]?=some x)
  (hQ:∀ h',lU h' b it l (i+1)->Vo it s.heap h'->Q x { s with heap:=h' }):wpAny (model prog w) A (SA (.ref it)) Q E s:=by
 cases b with
 | true=>exact wpAny_nextOf_list_item hit hl hx hQ
 | false=>exact iC hit hl hx hQ
theorem qe(hh:A.handled=none)(hit:lU s.heap b it l i)(hl:mK s.heap b l items)(hx:items[i]?=none)
  (hE:∀ h' e,Heap.ExtBut it s.heap h'->(∃ o,h'.get? e=some o/\o.cls=.type "StopIteration")->E (.ref e) { s with heap:=h' }):wpAny (model prog w) A (SA (.ref it)) Q E s:=by
 cases b with
 | true=>exact wpAny_nextOf_list_end hh hit hl hx hE
 | false=>exact eS hh hit hl hx hE
theorem zV{b1 b2:Bool}{z TI TO i1 i2 l1 l2:Addr}{xs:Array Value}{x y a b:Value}(D:ZipApart z TI TO i1 i2 l1 l2)
  (hz:IsZip s.heap z TI TO .none) (Qg:IsPair s.heap TI (.ref i1) (.ref i2)) (Qj:IsPair s.heap TO a b)
  (h1:lU s.heap b1 i1 l1 k1) (h2:lU s.heap b2 i2 l2 k2) (QH:mK s.heap b1 l1 xs) (QI:mK s.heap b2 l2 ys) (hx:xs[k1]?=some x) (hy:ys[k2]?=some y)
  (hQ:∀ h',IsZip h' z TI TO (rawInt s.heap.objs.size)->IsPair h' TO x y->lU h' b1 i1 l1 (k1+1)->lU h' b2 i2 l2 (k2+1)->IsPair h' s.heap.objs.size x y->h'.objs.size=s.heap.objs.size+1 ->
   (∀ c o,c≠z->c≠TO->c≠i1->c≠i2->s.heap.get? c=some o->h'.get? c=some o)->Q (.ref s.heap.objs.size) { s with heap:=h' }) :
  wpAny (model prog w) A (Builtin.«zip.__next__» ⟨[.ref z],[]⟩) (λfin s'=>∃ v,fin=.done (.ret v)/\Q v s') E s:=by
 show wpAny _ _ (field (.ref z) 2 >>= _) _ _ _;refine R4 (SH hz rfl (x:=.bool false) rfl ?_);show wpAny _ _ (field (.ref z) 3 >>= _) _ _ _;refine R4 (SH hz rfl (x:=.ref TI) rfl ?_);refine R4 (Ui Qg rfl ?_);show wpAny _ _ (TJ (.ref z) >>= _) _ _ _;refine R4 ?_;unfold TJ;refine R4 (SH hz rfl (x:=.none) rfl (R9 ?_));simp only[if_true];refine R4 (VE ?_);refine R4 (SH hz rfl (x:=.ref TO) rfl ?_);refine R4 (Uk hz (by simp) λh₁ hz₁ hs1=>?_)
 replace hz₁:IsZip h₁ z TI TO .ellipsis:=hz₁
 refine R4 ?_;simp only[Yr,YI,YJ,YS];refine R4 (R4 (WC ?_));show wpAny _ _ (SA (.ref i1) >>= _) _ _ _;refine R4 (jZ (h1.at λo e=>hs1.extBut _ _ D.i1z e) (QH.at λo e=>hs1.extBut _ _ D.l1z e) hx λh₂ h1₂ hs2=>R9 ?_);have hTO2:IsPair h₂ TO a b:=hs2.extBut _ _ D.TOi1 (hs1.extBut _ _ D.TOz Qj);refine R4 (Ui hTO2 rfl ?_);refine R4 (VT hTO2 λh₃ hTO3 hs3=>?_)
 replace hTO3:IsPair h₃ TO x b:=hTO3
 refine R4 (YB (R9 ?_));refine R4 (R4 (WC ?_));show wpAny _ _ (SA (.ref i2) >>= _) _ _ _;refine R4 (jZ (h2.at λo e=>hs3.extBut _ _ D.TOi2.symm (hs2.extBut _ _ D.i12.symm (hs1.extBut _ _ D.i2z e)))
  (QI.at λo e=>hs3.extBut _ _ D.l2TO (hs2.extBut _ _ D.l2i1 (hs1.extBut _ _ D.l2z e))) hy λh₄ h2₄ hs4=>R9 ?_)
 have hTO4:IsPair h₄ TO x b:=hs4.extBut _ _ D.TOi2 hTO3;refine R4 (Ui hTO4 rfl ?_);refine R4 (VT hTO4 λh₅ hTO5 hs5=>?_)
 replace hTO5:IsPair h₅ TO x y:=hTO5
 refine R4 (YB (R9 (R9 ?_)));refine R4 (Ui hTO5 rfl ?_);refine R4 (wpAny_newTuple ?_);have Qc:h₅.objs.size=s.heap.objs.size:=by rw[hs5.1,hs4.1,hs3.1,hs2.1,hs1.1]
 have hz5:IsZip h₅ z TI TO .ellipsis:=hs5.extBut _ _ D.TOz.symm (hs4.extBut _ _ D.i2z.symm (hs3.extBut _ _ D.TOz.symm (hs2.extBut _ _ D.i1z.symm hz₁)));have hk5:∀ c o,c≠z->c≠TO->c≠i1->c≠i2->s.heap.get? c=some o->h₅.get? c=some o:=λc o c1 c2 c3 c4 e =>
  hs5.extBut _ _ c2 (hs4.extBut _ _ c4 (hs3.extBut _ _ c2 (hs2.extBut _ _ c3 (hs1.extBut _ _ c1 e))))
 have h1₅:lU h₅ b1 i1 l1 (k1+1):=h1₂.at λo e=>hs5.extBut _ _ D.TOi1.symm (hs4.extBut _ _ D.i12 (hs3.extBut _ _ D.TOi1.symm e));have h2₅:lU h₅ b2 i2 l2 (k2+1):=h2₄.at λo e=>hs5.extBut _ _ D.TOi2.symm e;have RV:z<h₅.objs.size:=Sa hz5;show wpAny _ _ (U7 (.ref z) (.ref h₅.objs.size) >>= _) _ _ _;refine R4 ?_;unfold U7;have hz6:IsZip (h₅.push { cls:=.type "tuple", data:=.seq #[x,y] }) z TI TO .ellipsis:=R6 _ hz5;refine R4 (Uk hz6 (by simp) λh₇ hz7 hs7=>?_)
 replace hz7:IsZip h₇ z TI TO (rawInt h₅.objs.size):=hz7
 refine Uk hz7 (by simp) λh₈ hz₈ hs8=>?_
 replace hz₈:IsZip h₈ z TI TO (rawInt h₅.objs.size):=hz₈
 have up:∀ c o,c≠z->h₅.get? c=some o->h₈.get? c=some o:=λc o c1 e=>hs8.extBut _ _ c1 (hs7.extBut _ _ c1 (R6 _ e));have hT₈:IsPair h₈ h₅.objs.size x y:=hs8.extBut _ _ (UK RV) (hs7.extBut _ _ (UK RV) (Sg _ rfl));have hz8:h₈.objs.size=h₅.objs.size+1:=by rw[hs8.1,hs7.1,Tc]
 rw[Qc] at hz₈ hT₈ hz8;refine R9 ⟨_,rfl,?_⟩;show Q (.ref h₅.objs.size) _;rw[Qc];exact hQ h₈ hz₈ (up _ _ D.TOz hTO5) (h1₅.at λo e=>up _ o D.i1z e) (h2₅.at λo e=>up _ o D.i2z e) hT₈ hz8 λc o c1 c2 c3 c4 e=>up c o c1 (hk5 c o c1 c2 c3 c4 e)
theorem CB{b1 b2:Bool}{z TI TO i1 i2 l1 l2:Addr}{xs:Array Value}{a b:Value}{Q:Fin->Shared->Prop}(hh:A.handled=none)(D:ZipApart z TI TO i1 i2 l1 l2)
  (hz:IsZip s.heap z TI TO .none) (Qg:IsPair s.heap TI (.ref i1) (.ref i2)) (Qj:IsPair s.heap TO a b)
  (h1:lU s.heap b1 i1 l1 k1) (h2:lU s.heap b2 i2 l2 k2) (QH:mK s.heap b1 l1 xs) (QI:mK s.heap b2 l2 ys) (QQ:xs[k1]?=none\/ys[k2]?=none)
  (hE:∀ h' e,(∀ c o,c≠z->c≠TO->c≠i1->c≠i2->s.heap.get? c=some o->h'.get? c=some o)->(∃ o,h'.get? e=some o/\o.cls=.type "StopIteration")->E (.ref e) { s with heap:=h' }) :
  wpAny (model prog w) A (Builtin.«zip.__next__» ⟨[.ref z],[]⟩) Q E s:=by
 show wpAny _ _ (field (.ref z) 2 >>= _) _ _ _;refine R4 (SH hz rfl (x:=.bool false) rfl ?_);show wpAny _ _ (field (.ref z) 3 >>= _) _ _ _;refine R4 (SH hz rfl (x:=.ref TI) rfl ?_);refine R4 (Ui Qg rfl ?_);show wpAny _ _ (TJ (.ref z) >>= _) _ _ _;refine R4 ?_;unfold TJ;refine R4 (SH hz rfl (x:=.none) rfl (R9 ?_));simp only[if_true];refine R4 (VE ?_);refine R4 (SH hz rfl (x:=.ref TO) rfl ?_);refine R4 (Uk hz (by simp) λh₁ hz₁ hs1=>?_)
 replace hz₁:IsZip h₁ z TI TO .ellipsis:=hz₁
 refine R4 ?_;simp only[Yr,YI,YJ,YS];refine R4 (R4 (WC ?_));show wpAny _ _ (SA (.ref i1) >>= _) _ _ _;cases hx:xs[k1]? with
 | none =>
  refine R4 (qe hh (h1.at λo e=>hs1.extBut _ _ D.i1z e) (QH.at λo e=>hs1.extBut _ _ D.l1z e) hx λh₂ e hs2 he=>?_);obtain⟨oe,Qq,RH⟩:=he;have hz₂:IsZip h₂ z TI TO .ellipsis:=hs2 _ _ D.i1z.symm hz₁;have hez:e≠z:=λx=>by subst x;rw[hz₂] at Qq;cases Qq;simp at RH
  refine Uk hz₂ (by simp) λh₃ _ hs3=>hE h₃ e (λc o c1 _ c3 _ x=>hs3.extBut _ _ c1 (hs2 _ _ c3 (hs1.extBut _ _ c1 x))) ⟨oe,hs3.extBut _ _ hez Qq,RH⟩
 | some x =>
  have hy:ys[k2]?=none:=by rcases QQ with h | h;rw[hx] at h;cases h;exact h
  refine R4 (jZ (h1.at λo e=>hs1.extBut _ _ D.i1z e) (QH.at λo e=>hs1.extBut _ _ D.l1z e) hx λh₂ h1₂ hs2=>R9 ?_);have hTO2:IsPair h₂ TO a b:=hs2.extBut _ _ D.TOi1 (hs1.extBut _ _ D.TOz Qj);refine R4 (Ui hTO2 rfl ?_);refine R4 (VT hTO2 λh₃ hTO3 hs3=>?_);refine R4 (YB (R9 ?_));refine R4 (R4 (WC ?_));show wpAny _ _ (SA (.ref i2) >>= _) _ _ _;refine R4 (qe hh (h2.at λo e=>hs3.extBut _ _ D.TOi2.symm (hs2.extBut _ _ D.i12.symm (hs1.extBut _ _ D.i2z e)))
   (QI.at λo e=>hs3.extBut _ _ D.l2TO (hs2.extBut _ _ D.l2i1 (hs1.extBut _ _ D.l2z e))) hy λh₄ e hs4 he=>?_)
  obtain⟨oe,Qq,RH⟩:=he;have hz4:IsZip h₄ z TI TO .ellipsis:=hs4 _ _ D.i2z.symm (hs3.extBut _ _ D.TOz.symm (hs2.extBut _ _ D.i1z.symm hz₁));have hez:e≠z:=λx=>by subst x;rw[hz4] at Qq;cases Qq;simp at RH
  refine Uk hz4 (by simp) λh₅ _ hs5=>hE h₅ e (λc o c1 c2 c3 c4 x=>hs5.extBut _ _ c1 (hs4 _ _ c4 (hs3.extBut _ _ c2 (hs2.extBut _ _ c3 (hs1.extBut _ _ c1 x))))) ⟨oe,hs5.extBut _ _ hez Qq,RH⟩
theorem u_(hl:mK s.heap b l items)
  (h:∀ o,o=({ cls:=.type (if b then "list_iterator" else "tuple_iterator"),data:=.fields #[.ref l,.int 0 0] }:Obj)->Q (.ref s.heap.objs.size) { s with heap:=s.heap.push o }):wpAny (model prog w) A (pyIter (.ref l)) Q E s:=by
 cases b with
 | true=>exact Wx hl (h _ rfl)
 | false=>exact UN hl (h _ rfl)
theorem mW{b1 b2:Bool}{z TI TO i1 i2 l1 l2:Addr}{xs:Array Value}{x y a b:Value}{Q:Option Value->Shared->Prop}(D:ZipApart z TI TO i1 i2 l1 l2)
  (hz:IsZip s.heap z TI TO .none) (Qg:IsPair s.heap TI (.ref i1) (.ref i2)) (Qj:IsPair s.heap TO a b)
  (h1:lU s.heap b1 i1 l1 k1) (h2:lU s.heap b2 i2 l2 k2) (QH:mK s.heap b1 l1 xs) (QI:mK s.heap b2 l2 ys) (hx:xs[k1]?=some x) (hy:ys[k2]?=some y)
  (hQ:∀ h',IsZip h' z TI TO (rawInt s.heap.objs.size)->IsPair h' TO x y->lU h' b1 i1 l1 (k1+1)->lU h' b2 i2 l2 (k2+1)->IsPair h' s.heap.objs.size x y->h'.objs.size=s.heap.objs.size+1 ->
   (∀ c o,c≠z->c≠TO->c≠i1->c≠i2->s.heap.get? c=some o->h'.get? c=some o)->Q (some (.ref s.heap.objs.size)) { s with heap:=h' }) :
  wpAny (model prog w) A (pyNext (.ref z)) Q E s:=by
 have hT:s.TypeIs (.ref z) "zip" := ⟨_,hz,rfl⟩
 unfold pyNext;exact R4 (VM (Ti (name:=Si "__next__") hT F.slot_zip_next
  (Uh F.slot_zip_next hT F.entry_zip_next
   (zV D hz Qg Qj h1 h2 QH QI hx hy λh' a1 a2 a3 a4 a5 a6 a7=>R9 (hQ h' a1 a2 a3 a4 a5 a6 a7)) (F.args_zip_next_1 _))))
theorem oW{b1 b2:Bool}{z TI TO i1 i2 l1 l2:Addr}{xs:Array Value}{a b:Value}{Q:Option Value->Shared->Prop}(hh:A.handled=none)(D:ZipApart z TI TO i1 i2 l1 l2)
  (hz:IsZip s.heap z TI TO .none) (Qg:IsPair s.heap TI (.ref i1) (.ref i2)) (Qj:IsPair s.heap TO a b)
  (h1:lU s.heap b1 i1 l1 k1) (h2:lU s.heap b2 i2 l2 k2) (QH:mK s.heap b1 l1 xs) (QI:mK s.heap b2 l2 ys) (QQ:xs[k1]?=none\/ys[k2]?=none)
  (hQ:∀ h',(∀ c o,c≠z->c≠TO->c≠i1->c≠i2->s.heap.get? c=some o->h'.get? c=some o)->Q none { s with heap:=h' }):wpAny (model prog w) A (pyNext (.ref z)) Q E s:=by
 have hT:s.TypeIs (.ref z) "zip" := ⟨_,hz,rfl⟩
 unfold pyNext;refine R4 (VM (Ti (name:=Si "__next__") hT F.slot_zip_next
  (Uh F.slot_zip_next hT F.entry_zip_next (CB hh D hz Qg Qj h1 h2 QH QI QQ λh' e hk he=>?_) (F.args_zip_next_1 _))))
 obtain⟨o,ho,hc⟩:=he;refine R4 (wpAny_isInstance (T := "StopIteration") (b:=true) ⟨o,ho,hc⟩ isSubtype_stop ?_);exact R9 (hQ _ hk)
abbrev JA(b:Bool)(l:Addr):Obj:={ cls:=.type (if b then "list_iterator" else "tuple_iterator"),data:=.fields #[.ref l,.int 0 0] }
abbrev K5(h:Heap)(b1:Bool)(l1:Addr):Heap:=h.push (JA b1 l1)
abbrev K6(h:Heap)(b1 b2:Bool)(l1 l2:Addr):Heap:=(K5 h b1 l1).push (JA b2 l2)
abbrev K8(h:Heap)(b1 b2:Bool)(l1 l2:Addr):Heap:=(K6 h b1 b2 l1 l2).push { cls:=.type "tuple", data:=.seq #[.ref h.objs.size,.ref (K5 h b1 l1).objs.size] }
abbrev K_(h:Heap)(b1 b2:Bool)(l1 l2:Addr):Heap:=(K8 h b1 b2 l1 l2).push { cls:=.type "tuple", data:=.seq #[.none,.none] }
abbrev Hr(h:Heap)(b1 b2:Bool)(l1 l2:Addr):Heap:=(K_ h b1 b2 l1 l2).push { cls:=.type "zip", data:=.fields #[.none,.bool false,.bool false,.ref (K6 h b1 b2 l1 l2).objs.size,.ref (K8 h b1 b2 l1 l2).objs.size] }
end
theorem nX{E:Value->Shared->Prop}(hl:mK s.heap b l items)
  (h:Q (.ref s.heap.objs.size) { s with heap:=s.heap.push (JA b l) }):wpAny (model prog w) A (pyIter (.ref l)) Q E s:=u_ hl λo e=>by subst e;exact h
theorem mK.push{h:Heap}{b:Bool}{l:Addr}{xs:Array Value}(x:mK h b l xs)(o:Obj):mK (h.push o) b l xs:=x.at λ_ e=>R6 _ e
theorem pJ(b1 b2:Bool)(l1 l2:Addr)(xs ys:Array Value) :
  Meets (Builtin.«zip.__new__» ⟨[.type "zip", .ref l1,.ref l2],[]⟩) (λ_ R s=>mK s.heap b1 l1 xs/\mK s.heap b2 l2 ys ∧
   R (.ok (.ret (.ref (K_ s.heap b1 b2 l1 l2).objs.size))) { s with heap:=Hr s.heap b1 b2 l1 l2 }) :=
 .of_wp λprog w A R s h=>by
  obtain⟨hp,g,d,tk,os⟩:=s;obtain⟨QH,QI,h⟩:=h;have hsub:=sub_zip;have hL1:mK (YC ⟨hp,g,d,tk,os⟩) b1 l1 xs:=QH;have hL2:mK (YC ⟨hp.push (JA b1 l1),g,d,tk,os⟩) b2 l2 ys:=mK.push QI _
  wp_walk using nX hL1,nX hL2
  exact⟨_,rfl,h⟩
section
variable{E:Value->Shared->Prop}
theorem lU.new(h:Heap)(b:Bool)(it l:Addr)(e:h.get? it=some (JA b l)):lU h b it l 0:=by
 cases b with
 | true=>exact⟨_,e,rfl,rfl⟩
 | false=>exact⟨_,e,rfl,rfl⟩
theorem zu{b1 b2:Bool}{l1 l2:Addr}{xs:Array Value}(QH:mK s.heap b1 l1 xs)(QI:mK s.heap b2 l2 ys)
  (h:∀ h',IsZip h' (s.heap.objs.size+4) (s.heap.objs.size+2) (s.heap.objs.size+3) .none->IsPair h' (s.heap.objs.size+2) (.ref s.heap.objs.size) (.ref (s.heap.objs.size+1)) ->
   IsPair h' (s.heap.objs.size+3) .none .none->lU h' b1 s.heap.objs.size l1 0->lU h' b2 (s.heap.objs.size+1) l2 0->h'.objs.size=s.heap.objs.size+5 ->
   (∀ c o,s.heap.get? c=some o->h'.get? c=some o)->Q (.ref (s.heap.objs.size+4)) { s with heap:=h' }) :
  wpAny (model prog w) A (call (.type "zip") [.ref l1,.ref l2]) Q E s:=by
 refine callType_new F.called_zip (by decide) (F.typeCall_zip_2 _ _) (F.newCall_zip_2 _ _) (λobj=>F.args_object_init_3 obj _ _) F.entry_zip_new
  (pJ b1 b2 l1 l2 xs ys) ⟨QH,QI,?_⟩
 have z1:(K5 s.heap b1 l1).objs.size=s.heap.objs.size+1:=Tc ..;have z2:(K6 s.heap b1 b2 l1 l2).objs.size=s.heap.objs.size+2:=by rw[Tc,z1]
 have z3:(K8 s.heap b1 b2 l1 l2).objs.size=s.heap.objs.size+3:=by rw[Tc,z2]
 have z4:(K_ s.heap b1 b2 l1 l2).objs.size=s.heap.objs.size+4:=by rw[Tc,z3]
 have z5:(Hr s.heap b1 b2 l1 l2).objs.size=s.heap.objs.size+5:=by rw[Tc,z4]
 have g5:(Hr s.heap b1 b2 l1 l2).get? (K_ s.heap b1 b2 l1 l2).objs.size=some _:=Sg _ rfl;have g4:(Hr s.heap b1 b2 l1 l2).get? (K8 s.heap b1 b2 l1 l2).objs.size=some _:=R6 _ (Sg _ rfl);have g3:(Hr s.heap b1 b2 l1 l2).get? (K6 s.heap b1 b2 l1 l2).objs.size=some _:=R6 _ (R6 _ (Sg _ rfl));have g2:(Hr s.heap b1 b2 l1 l2).get? (K5 s.heap b1 l1).objs.size=some _:=R6 _ (R6 _ (R6 _ (Sg _ rfl)));have g1:(Hr s.heap b1 b2 l1 l2).get? s.heap.objs.size=some _:=R6 _ (R6 _ (R6 _ (R6 _ (Sg _ rfl))));show _/\_;rw[z2,z3,z4] at g5;rw[z1,z2] at g3;rw[z3] at g4;rw[z1] at g2;rw[z4];exact⟨⟨_,g5,rfl⟩,h _ g5 g3 g4 (lU.new _ b1 _ _ g1) (lU.new _ b2 _ _ g2) z5 λc o x =>
  R6 _ (R6 _ (R6 _ (R6 _ (R6 _ x))))⟩
end
def uK(K:R5)(H:Hp)(b:Bool)(a:Addr)(xs:List V):Prop:=match b with
 | true=>gS K H a xs
 | false=>gk K H a xs
variable{tl:TA}
theorem Inv.row{xs:List V}(I:Inv X Oa σ H s)(h:uK X.K H b a xs):∃ Og:List Value,Vals xs Og/\mK s.heap b a Og.toArray/\xs.length<=sizeLine:=by
 cases b with
 | true =>
  obtain⟨Og,r,p,z⟩:=I.list h;exact⟨Og,r,p.isList,z⟩
 | false =>
  obtain⟨Og,r,p,z⟩:=I.tuple h;exact⟨Og,r,p,z⟩
theorem Inv.yj{xs ys:List V}(I:Inv X Oa σ H s)(h:uK X.K H b a xs)(h':uK X.K H b a ys):xs=ys:=by
 cases b with
 | true=>exact I.qG h h'
 | false=>exact I.m_ h h'
theorem Inv.E1(I:Inv X Oa σ H s)(k:∀ b u,b ∉ ch->s.heap.get? b=some u->h'.get? b=some u)
  (Qh:∀ b∈ch,ni X Oa H b):Inv X Oa σ H { s with heap:=h',toks:=t' }:=by
 have QY:∀ b u,H b=some u->b ∉ ch:=λb u e z=>by rw[(Qh b z).1] at e;cases e
 refine I.step (g':=s.gens) (d':=s.drawn) (ch:=ch) (λb hb=>?_) (λb u _ _ hc e _=>k b u hc e) (λb u _ _ hc e _=>⟨u.slots,k b u hc e⟩)
  (λb u _ e n=>n) (λb u hc e=>⟨u,k b u hc e⟩) (λb xs e=>e) (λb ob u e=>e) (λb ps e=>⟨#[],by rw[e];simp⟩) (λm hm=>?_) (λb u e=>?_) I.bare
 .obtain⟨_,f1,_,f3,f4,f5⟩:=Qh b hb;exact⟨f3,f1,f4,f5⟩
 .obtain⟨ob,es,ep,ho,r⟩:=hm;exact⟨ob,es,ep,k _ ob (λz=>(Qh _ z).2.1 rfl) ho,r⟩
 .refine(I.bJ b u e).lg (λc v hc q=>k c v ?_ q) (λc q=>q) λc ys q=>q;rcases hc with z' | z'
  .rw[z'];exact QY b u e
  .exact QY c _ z'
theorem dF{c:Addr}{xs:List V}(I:Inv X Oa σ H s)(h:uK X.K H b a xs)(f:ni X Oa H c):a≠c:=by
 have rd:∀ {u:HO},Rd H a u->a≠c:=λ{u} r=>by
  rcases r with r | ⟨o,r⟩
  .exact cn r f.1
  .exact cn r f.1
 have mk:∀ {o:Obj},X.K.lookup a=some o->a≠c:=λ{o} e z=>by
  subst z;have e':=I.ok.mod.Dw _ _ e;rcases f.2.2.2.1 with q | q
  .exact I.ok.uk _ _ e' q
  .exact absurd (Sh (Sa (I.ok.bs _ _ e').1) q) (Uw _)
 cases b with
 | true =>
  rcases(show gS X.K H a xs from h) with r | ⟨o,Og,n,e,_⟩
  .exact rd r
  .exact mk e
 | false =>
  rcases(show gk X.K H a xs from h) with r | ⟨o,Og,n,e,_⟩
  .exact rd r
  .exact mk e
def Mu (K : R5) (b1 b2 : Bool) (a1 a2 : Addr) : It :=
  ⟨λi H => ∃ xs ys x y, uK K H b1 a1 xs /\ uK K H b2 a2 ys /\ xs[i]? = some x /\ ys[i]? = some y,
   λi H v H' => ∃ p x y, H p = none /\ v = .ref p /\ H' = upd H p (.tup [x, y]) /\ (∀ xs, uK K H b1 a1 xs -> xs[i]? = some x) /\ (∀ ys, uK K H b2 a2 ys -> ys[i]? = some y),
   λi H => ∃ xs ys, uK K H b1 a1 xs /\ uK K H b2 a2 ys /\ (xs.length <= i \/ ys.length <= i)⟩
theorem Bi{K:R5}{tp:Pos}(b1 b2:Bool)(a1 a2 z TI TO i1 i2:Addr)(D:TI≠z/\TO≠z/\i1≠z/\i2≠z/\TI≠TO/\TI≠i1/\TI≠i2/\TO≠i1/\TO≠i2/\i1≠i2) :
  Turn P w K (.Tuple elts x1 tp) (Mu K b1 b2 a1 a2) [z,TO,i1,i2,TI] z (λi h=>IsZip h z TI TO .none/\IsPair h TI (.ref i1) (.ref i2)/\(∃ a b,IsPair h TO a b)/\lU h b1 i1 a1 i/\lU h b2 i2 a2 i) where
 mem:=by simp
 obj:=λi h st b hb=>by
  obtain⟨hz,Qg,⟨a,c,Qj⟩,h1,h2⟩:=st;simp only[Ss,UG,or_false] at hb;rcases hb with q | q | q | q | q <;> subst q
  .exact⟨_,hz,λv z=>by cases z⟩
  .exact⟨_,Qj,λv z=>by cases z⟩
  .obtain⟨o,vs,e,d⟩:=h1.obj;exact⟨o,e,λv z=>by rw[d] at z;cases z⟩
  .obtain⟨o,vs,e,d⟩:=h2.obj;exact⟨o,e,λv z=>by rw[d] at z;cases z⟩
  .exact⟨_,Qg,λv z=>by cases z⟩
 keep:=λi h h' st k=>by
  obtain⟨hz,Qg,⟨a,c,Qj⟩,h1,h2⟩:=st;exact⟨k z (by simp) _ hz,k TI (by simp) _ Qg,⟨a,c,k TO (by simp) _ Qj⟩,h1.at λo e=>k i1 (by simp) o e,h2.at λo e=>k i2 (by simp) o e⟩
 item:=by
  intro X hP hw hK hc i Oa s σ H E I hf st hg;subst hP hw hK;obtain⟨xs,ys,x,y,Qa,P1,hx,hy⟩:=hg;obtain⟨RW,rv1,p1,hz1⟩:=I.row Qa;obtain⟨Qs,rv2,p2,hz2⟩:=I.row P1;obtain⟨u1,hu1,ru1⟩:=rv1.get hx;obtain⟨u2,hu2,ru2⟩:=rv2.get hy;obtain⟨hz,Qg,⟨a,c,Qj⟩,h1,h2⟩:=st;obtain⟨d1,d2,d3,d4,d5,d6,d7,d8,d9,d10⟩:=D;obtain⟨o1,n1,e1,dd1⟩:=p1.obj;obtain⟨o2,n2,e2,RB⟩:=p2.obj;obtain⟨oi1,vs1,ei1,di1⟩:=h1.obj;obtain⟨oi2,vs2,ei2,di2⟩:=h2.obj;have D:ZipApart z TI TO i1 i2 a1 a2:=⟨d1,d2,d3,d4,d5,d6,d7,d8,d9,d10,dF I Qa (hf z (by simp)),dF I Qa (hf TO (by simp)),dF I Qa (hf i1 (by simp)),dF I Qa (hf i2 (by simp)),
   dF I P1 (hf z (by simp)),dF I P1 (hf TO (by simp)),dF I P1 (hf i1 (by simp)),dF I P1 (hf i2 (by simp))⟩
  refine mW D hz Qg Qj h1 h2 p1 p2 (x:=u1) (y:=u2) (by simpa using hu1) (by simpa using hu2) λh' g1 g2 g3 g4 g5 g6 g7=>⟨_,rfl,?_⟩
  refine wpAny_letOwnedTupleGo_zip (s:={ s with heap:=h' }) g1 λh3 hz3 Rw=>?_;have P_:H s.heap.objs.size=none:=I.bJ.fresh (Se _);have lt:∀ {c:Addr} {o:Obj},s.heap.get? c=some o->c≠s.heap.objs.size:=λe=>So (Sa e);have RX:∀ b o,b ∉ [z,TO,i1,i2,TI]->s.heap.get? b=some o->h3.get? b=some o:=λb o hb q=>by
   simp only[Ss,UG,or_false,not_or] at hb;exact(Rw.2 b hb.1).trans (g7 b o hb.1 hb.2.1 hb.2.2.1 hb.2.2.2.1 q)
  have hT3:h3.get? s.heap.objs.size=some { cls:=.type "tuple", data:=.seq #[u1,u2] }:=(Rw.2 _ (lt hz).symm).trans g5;have I3:Inv X Oa σ (upd H s.heap.objs.size (.tup [x,y])) { s with heap:=h3,toks:=s.toks } :=
   I.nF (ch:=[z,TO,i1,i2,TI]) RX hf (Se _) (λb hb=>by
    simp only[Ss,UG,or_false] at hb;rcases hb with q | q | q | q | q <;> subst q
    .exact⟨_,hz⟩
    .exact⟨_,Qj⟩
    .exact⟨_,ei1⟩
    .exact⟨_,ei2⟩
    .exact⟨_,Qg⟩)
    ⟨by show 2<=sizeLine;decide,[u1,u2],.cons ru1 (.cons ru2 .nil),⟨_,hT3,rfl,_,rfl⟩⟩
  refine⟨.ref s.heap.objs.size,_,I3,rfl,⟨_,x,y,P_,rfl,rfl,λzs Rm=>by rw[I.yj Rm Qa];exact hx,λzs Rm=>by rw[I.yj Rm P1];exact hy⟩,
   ⟨hz3,(Rw.2 TI d1).trans (g7 TI _ d1 d5 d6 d7 Qg),⟨_,_,(Rw.2 TO d2).trans g2⟩,g3.at λo e=>(Rw.2 i1 d3).trans e,g4.at λo e=>(Rw.2 i2 d4).trans e⟩,λb hb=>?_⟩
  have nb:b≠s.heap.objs.size:=by
   simp only[Ss,UG,or_false] at hb;rcases hb with q | q | q | q | q <;> subst q
   .exact lt hz
   .exact lt Qj
   .exact lt ei1
   .exact lt ei2
   .exact lt Qg
  rw[av nb];exact(hf b hb).1
 done:=by
  intro X hP hw hK hc i Oa s σ H E I hf st hg;subst hP hw hK;obtain⟨xs,ys,Qa,P1,QQ⟩:=hg;obtain⟨RW,rv1,p1,hz1⟩:=I.row Qa;obtain⟨Qs,rv2,p2,hz2⟩:=I.row P1;obtain⟨hz,Qg,⟨a,c,Qj⟩,h1,h2⟩:=st;obtain⟨d1,d2,d3,d4,d5,d6,d7,d8,d9,d10⟩:=D;have D:ZipApart z TI TO i1 i2 a1 a2:=⟨d1,d2,d3,d4,d5,d6,d7,d8,d9,d10,dF I Qa (hf z (by simp)),dF I Qa (hf TO (by simp)),dF I Qa (hf i1 (by simp)),dF I Qa (hf i2 (by simp)),
   dF I P1 (hf z (by simp)),dF I P1 (hf TO (by simp)),dF I P1 (hf i1 (by simp)),dF I P1 (hf i2 (by simp))⟩
  have l1:=rv1.length;have l2:=rv2.length;refine oW (I.ok.hd hc) D hz Qg Qj h1 h2 p1 p2 ?_ λh' k=>⟨rfl,?_⟩
  .rcases QQ with q | q
   .exact .inl (by simp;lia)
   .exact .inr (by simp;lia)
  .exact I.E1 (t':=s.toks) (ch:=[z,TO,i1,i2,TI]) (λb u hb e=>by
    simp only[Ss,UG,or_false,not_or] at hb;exact k b u hb.1 hb.2.1 hb.2.2.1 hb.2.2.2.1 e) hf
 self:=λ_ _ _ _ _ st h=>by
  obtain⟨hz,_⟩:=st;exact wpAny_pyIter_zip hz h
theorem Ic(n:Nat):n+2≠n+4/\n+3≠n+4/\n≠n+4/\n+1≠n+4/\n+2≠n+3/\n+2≠n/\n+2≠n+1/\n+3≠n/\n+3≠n+1/\n≠n+1:=by
 refine⟨?_,?_,?_,?_,?_,?_,?_,?_,?_,?_⟩ <;> lia
def Ku(K:R5)(tl:TA):TI:=fun σ H R=>tl σ H λvs H1=>∃ b1 b2 a1 a2,vs=[.ref a1,.ref a2]/\(∃ xs,uK K H1 b1 a1 xs)/\(∃ ys,uK K H1 b2 a2 ys)/\R (Mu K b1 b2 a1 a2) H1
theorem fQ{tp:Pos}{l1 l2:Expr}{p:Pos}(hg:Gl X "zip")(hm:X.mg "zip" = none)(hl:PA X [l1,l2] tl)(hs:autoParam (starEach [l1,l2] X.env=[(false,eval l1 X.env),(false,eval l2 X.env)]) aR._auto_1)(P8:autoParam (starEach [l2] X.env=[(false,eval l2 X.env)]) aR._auto_1) :
  PI X (.Tuple elts x1 tp) (.Call (.Name "zip" p) [l1,l2] [] pos) (Ku X.K tl):=by
 intro Oa s σ H R I h;refine Call_ (j9 I hg hm PyProof.Rows.boot_zip (Tf (cU (hl pos Oa s σ H _ I h) λus s1 ⟨vs,H1,I1,r1,q1⟩=>?_) (by rw[hs,P8]) (by rw[P8];rfl)));obtain⟨b1,b2,a1,a2,e,⟨xs,Qa⟩,⟨ys,P1⟩,q⟩:=q1;subst e;cases r1 with
 | cons r rr =>
  cases rr with
  | cons r' rr =>
   cases rr;cases (show _=Sd a1 from r);cases (show _=Sd a2 from r');obtain⟨RW,rv1,p1,hz1⟩:=I1.row Qa;obtain⟨Qs,rv2,p2,hz2⟩:=I1.row P1;refine zu p1 p2 λh' g1 g2 g3 g4 g5 g6 g7=>?_;have I2:Inv X Oa σ H1 { s1 with heap:=h' }:=I1.kept (t':=s1.toks) g7;refine wpAny_pyIter_zip (s:={ s1 with heap:=h' }) g1 ?_;refine⟨s1.heap.objs.size+4,[s1.heap.objs.size+4,s1.heap.objs.size+3,s1.heap.objs.size,s1.heap.objs.size+1,s1.heap.objs.size+2],_,_,H1,rfl,I2,
    Bi b1 b2 a1 a2 _ _ _ _ _ (Ic s1.heap.objs.size),⟨g1,g2,⟨_,_,g3⟩,g4,g5⟩,λb hb=>?_,q⟩
   have hle:s1.heap.objs.size<=b:=by
    simp only[Ss,UG,or_false] at hb;rcases hb with q | q | q | q | q
    .rw[q];exact VH _ 4
    .rw[q];exact VH _ 3
    .rw[q];exact Se _
    .rw[q];exact VH _ 1
    .rw[q];exact VH _ 2
   exact I1.vI hle (I1.bJ.fresh hle)
def Ni(K:R5)(b:Bool)(a:Addr):It:=match b with
 | true=>NB K a
 | false=>Nn K a
def Kj(K:R5)(tl:TE):TI:=fun σ H R=>tl σ H λx H1=>∃ b a,x=.ref a/\(∃ xs,uK K H1 b a xs)/\R (Ni K b a) H1
theorem dg{l:Expr}{tl:TE}(hl:PE X l tl):PI X tg l (Kj X.K tl):=by
 intro Oa s σ H R I h;refine cU (hl Oa s σ H _ I h) λv s1 ⟨x,H1,I1,r1,q1⟩=>?_;obtain⟨b,a,e,⟨xs,hq⟩,q⟩:=q1;subst e;cases r1;cases b with
 | true =>
  obtain⟨Og,rv,p,hz⟩:=I1.list hq;refine Wx p.isList ?_;refine⟨s1.heap.objs.size,[s1.heap.objs.size],_,_,H1,rfl,I1.kept (t':=s1.toks) λb o e=>R6 _ e,z8 a _,⟨_,Sg _ rfl,rfl,rfl⟩,λb hb=>?_,q⟩;have e:b=s1.heap.objs.size:=by simpa using hb
  subst e;exact I1.vI (Se _) (I1.bJ.fresh (Se _))
 | false =>
  obtain⟨Og,rv,p,hz⟩:=I1.tuple hq;refine UN (show s1.heap.IsTuple a Og.toArray from p) ?_;refine⟨s1.heap.objs.size,[s1.heap.objs.size],_,_,H1,rfl,I1.kept (t':=s1.toks) λb o e=>R6 _ e,w4 a _,⟨_,Sg _ rfl,rfl,rfl⟩,λb hb=>?_,q⟩;have e:b=s1.heap.objs.size:=by simpa using hb
  subst e;exact I1.vI (Se _) (I1.bJ.fresh (Se _))
theorem zo(hc:X.calm=true):dc X (.builtin "sum") (λxs H Q=>∃ (a:Addr) (ns:List Int),xs=[.ref a]/\gS X.K H a (ns.map V.int)/\Q (.int ns.sum) H):=by
 intro Oa s σ H xs us Q I r h;obtain⟨a,ns,rfl,hq,q⟩:=h;cases r with
 | cons r1 r2 =>
  cases r2;cases (show _=Sd a from r1);obtain⟨Og,rv,p,hz⟩:=I.list hq;have hi:=intsAre_of rv;obtain⟨xs',e⟩:=hi.allInts.items;have e3:numsOf (intItems xs').toList=ns:=by rw[<- e];exact hi.numsOf
  rw[nums_intItems] at e3;refine sum_intListG (I.ok.hd hc) (by rw[<- e];exact p.isList) λh' tk t' hk=>⟨.int ns.sum,H,I.kept (t':=tk) hk,⟨t',?_⟩,q⟩
  rw[preSum_eq,Vz (by simp),e3]
structure dG (K:R5) (C:Addr):Prop where
 ga:SG K (.ref C) "__getattribute__" = some (some (.builtin "BaseException.__getattribute__"))
 gn:SG K (.ref C) "__getattr__" = some none
 hd:Vp K C=true
 sa:SG K (.ref C) "__setattr__" = some (some (.builtin "object.__setattr__"))
 mb:Wz K C (.type "BaseException")=some true
 mo:Wz K C (.type "object")=some true
 ca:SG K (.ref C) "__class__" = some (some (.builtin "object.__class__"))
 cg:Vq K (.builtin "object.__class__") "__get__" = some (some (.builtin "getset_descriptor.__get__"))
 ct:VZ K (.builtin "object.__class__")=some true
variable{name:Str}{ox:Obj}
variable{tk:Tok}
variable{pl:Sem Bool}{f:Addr}
section
variable{E:Value->Shared->Prop}{K:R5}{x:Addr}{od:Option Obj}
theorem Cq:builtinKind "BaseException.__getattribute__" = some .slot:=by decide +kernel
theorem zO:splitId "BaseException.__getattribute__" = some ("BaseException", "__getattribute__"):=by decide +kernel
theorem Az{fill expr:Bool}(c:dG K C)(X:K.In s.heap)(I:Ua s.heap x ox C od)
  (h:wpAny (model prog w) A.in1 (Builtin.«object.__getattribute__» ⟨[.ref x,.str name tk],[]⟩)
   (λfin s'=>match fin with | .done (.ret v)=>wpAny (model prog w) A (handedOut v) Q E s' | _=>False) (λ_ _=>False) s) :
  wpAny (model prog w) A (getAttrBy (.ref x) (.str name tk) fill expr) Q E s:=by
 have P2:(VN "BaseException.__getattribute__" == VN "object.__getattribute__")=false:=by decide +kernel
 have Rx:(onTheHeap (Sd C)&&VN "BaseException.__getattribute__" == VN "object.__getattribute__")=false:=by rw[P2];rfl
 have hx0:(expr&&onTheHeap (VN "BaseException.__getattribute__"))=false:=by cases expr <;> rfl
 have sub:Va (model prog w) s.heap (isInstance (.ref x) (.type "BaseException")) true:=I.type.andThen (V9 X c.mb);unfold getAttrBy;refine T9 (R4 (I.type.here (R4 ((TQ X c.ga).here ?_))));dsimp only;rw[Rx,if_neg To];unfold getAttrByItsOwn hookBefore;refine R4 ?_;show wpAny _ _ (typeLookup (.ref C) "__getattr__") _ _ _;refine(TQ X c.gn).here ?_;refine R4 (VM (T9 ?_));unfold callGetattribute;rw[hx0,if_neg To];unfold boundAndCalled;refine R4 (wpAny_of_eq (WK.ga.bind _) ?_);refine VI (Xi WK.ga.plain PySem.F.entry_bexc_ga (@XI (model prog w) _ _ s "BaseException.__getattribute__" "BaseException" "__getattribute__" (.ref x) [.str name tk] [] _ Cq zO sub (PySem.F.args_bexc_ga _ _) ?_));refine Tj h (λfin s' z=>?_) (λ_ _ z=>z.elim);rcases fin with (v | _ | _ | _) | _ <;> first | exact z | exact z.elim
theorem zm{v:Value}(c:dG K C)(X:K.In s.heap)(I:Ua s.heap x ox C od)(hf:V2 K C od name=some (.value v))(hh:handedOut v=pure v)
  (h:Q v { s with toks:=s.toks+1 }):wpAny (model prog w) A (getAttr (.ref x) name b) Q E s:=by
 unfold getAttr;refine R4 (wpAny_mkText (Az (s:={ s with toks:=s.toks+1 }) c X I ?_));unfold Builtin.«object.__getattribute__»;refine R4 (R9 ?_);dsimp only;refine R4 (R9 ?_);refine R4 (I.type.here (s:={ s with toks:=s.toks+1 }) (R4 ((XJ X I hf).here (s:={ s with toks:=s.toks+1 }) ?_)));refine R9 ?_;show wpAny _ _ (handedOut v) _ _ _;rw[hh];exact R9 h
theorem CC:Manifest.canonical "BaseException.__getattribute__" = "object.__getattribute__" := by decide +kernel
theorem AG{Q:Value×List Value->Shared->Prop}(c:dG K C)(X:K.In s.heap)(I:Ua s.heap x ox C od)
  (hf:SG K (.ref C) name=some (some (.ref f))) (ht:UL K (.ref f)=true) (hs:Ys od name=some false) (h:Q (.ref f,[.ref x]) s) :
  wpAny (model prog w) A (getMethod (.ref x) name pl) Q E s:=by
 have ht:=beq_iff_eq.mp ht;unfold getMethod specialOf;refine R4 (R4 (I.type.here ((TQ X c.ga).here ?_)));dsimp only;rw[CC,if_neg (by decide)];refine R4 (R4 (I.type.here ((TQ X c.gn).here ?_)));refine R4 (R4 (I.type.here ((TQ X hf).here (R4 ((Xj X ht).here ?_)))));rw[if_neg (by decide +kernel)];refine R4 (UE I.at_ ?_);have hd:=I.dict;cases e:ox.dict with
 | none=>exact R4 (VE (R9 h))
 | some dx =>
  cases od with
  | none=>rw[e] at hd;exact hd.elim
  | some o =>
   rw[e] at hd;obtain⟨r,a,b⟩:=Sn.mp hs;refine R4 (R4 (UE hd ?_));rw[PySem.W.nsLook_of a];refine R9 ?_;rw[b];exact R4 (VE (R9 h))
end
variable{newId:String}{dd:Option Addr}
section
open PySem.Builtin.ObjectAttr (storeInOwnDict storeTaker? setByDescriptor)
abbrev eX:List Value:=[.type "ValueError", .type "Exception", .type "BaseException", .type "object"]
def fu:List Value->Bool
 | .ref _::r=>fu r
 | l=>l==eX
theorem qy(self:Value):refuseLoop self "__setattr__" eX=pure ():=by kernel_rfl
theorem ot(self:Value):∀ {l:List Value},fu l=true->refuseLoop self "__setattr__" l=pure ()
 | .ref c::r,e=>by rw[PySem.refuseLoop_ref];exact ot self e
 | [],e=>by cases (show false=true from e)
 | .type n::r,e=>by rw[show TU n::r=eX from beq_iff_eq.mp e];exact qy self
 | .none::r,e=>by rw[show SM::r=eX from beq_iff_eq.mp e];exact qy self
section
variable{E:Value->Shared->Prop}{K:R5}{x:Addr}{od:Option Obj}
theorem q0{a g:Value}(hc:(Uy K C).isSome=true)(ha:SG K (.ref C) name=some (some a))(hg:Vq K a "__get__" = some (some g))(ht:VZ K a=some true):V2 K C od name=some (.bind g a):=by
 obtain⟨cd,hc⟩:=T_.mp hc;unfold V2;rw[hc,U4,ha,U4];simp[hg,ht]
theorem Ag{Q:Option Value->Shared->Prop}(c:dG K C)(X:K.In s.heap)(I:Ua s.heap x ox C od)(h:Q (some (.ref C)) { s with toks:=s.toks+1 }):wpAny (model prog w) A (getAttr? (.ref x) "__class__") Q E s:=by
 have hc:(Uy K C).isSome=true:=by obtain⟨cd,hc,_⟩:=UD c.hd;rw[hc];rfl
 have hf:V2 K C od "__class__" = some (.bind (.builtin "getset_descriptor.__get__") (.builtin "object.__class__")):=q0 hc c.ca c.cg c.ct;unfold getAttr? getAttrBy?;refine R4 (wpAny_mkText (R4 (VM ?_)));refine Az (s:={ s with toks:=s.toks+1 }) c X I ?_;unfold Builtin.«object.__getattribute__»;refine R4 (R9 ?_);dsimp only;refine R4 (R9 ?_);refine R4 (I.type.here (s:={ s with toks:=s.toks+1 }) (R4 ((XJ X I hf).here (s:={ s with toks:=s.toks+1 }) ?_)));show wpAny _ _ (holding [.builtin "object.__class__"] (call (.builtin "getset_descriptor.__get__") [.builtin "object.__class__", .ref x,.ref C]) >>= ret) _ _ _;refine R4 (T9 (VI (PySem.W.class_get (s:={ s with toks:=s.toks+1 }) (ox:=ox) (od:=od) X I c.mo ?_)));refine R9 ?_;exact PySem.W.handed_on rfl (R9 h)
theorem uE(c:dG K C):Y7 K (.ref x) (.ref C) (λh=>Ua h x ox C od) where
 ty:=λ_ _ _ I=>I.type
 it:=λ_ _ X _=>by
  obtain⟨cdD,QN,_⟩:=UD c.hd;unfold Uy at QN
  split at QN
  .rename_i c' d' cd' sl' ho;intro A' Q' E' s' k q;unfold isType loadHead;exact R4 (UE (k _ _ (X _ _ ho)) (R9 q))
  .cases QN
 ne:=λh tp dd Og n sl X htp=>by
  obtain⟨cdD,QN,_⟩:=UD c.hd;refine Bool.eq_false_iff.mpr λq=>?_;have e:C=tp:=Value.ref.inj (beq_iff_eq.mp q);subst e;unfold Uy at QN
  split at QN
  .rename_i c' d' cd' sl' ho;have z:=(X _ _ ho).symm.trans htp;cases z
  .cases QN
 ca:=λX I k=>Ag c X I k
theorem E7{v:Value}{R:Result->Shared->Prop}(po:((Uy K C).any λcd=>fu cd.mro)=true)(c:dG K C)(X:K.In s.heap)(I:Ua s.heap x ox C od)(ht:Ve K C name=some none)
  (h:∀ b,wpAny (model prog w) A.in1 (storeInOwnDict (.ref x) (.ref C) (.str name tk) name v b)
   (λfin s'=>match fin with | .done f=>R (.ok f) s' | .again c'=>c'.quiet=true/\codeAny (model prog w) A c' R s') (λe s'=>R (.error e) s') s) :
  codeAny (model prog w) A (.call (.builtin "object.__setattr__") ⟨[.ref x,.str name tk,v],[]⟩) R s:=by
 have SF:=PySem.F.store_object;obtain⟨cd,hc,ho⟩:=UD po;have sub:Va (model prog w) s.heap (isInstance (.ref x) (.type "object")) true:=I.type.andThen (V9 X c.mo);refine Xi SF.slot.plain SF.entry (@XI (model prog w) _ _ s "object.__setattr__" "object" "__setattr__" (.ref x) [.str name tk,v] [] _ SF.kind SF.split sub (SF.args (.ref x) (.str name tk) v) ?_);obtain⟨attr,ha,hr⟩:=UH.mp ht;have hm:Va (model prog w) s.heap (mroOf (.ref C)) cd.mro:=(V8 X hc).andThen .now;have L3:Va (model prog w) s.heap (storeTaker? attr) none:=by
  cases attr with
  | none=>cases hr;exact .now
  | some a =>
   obtain⟨b,hb,e⟩:=Sn.mp hr;refine(PySem.W.looks_takesIn X hb).andThen ?_;cases b with
   | true=>cases e
   | false=>exact .now
 rw[PySem.W.osa_eq,PySem.refuse_eq];refine R4 (R4 (I.type.here (R4 (hm.here ?_))));rw[ot _ ho];refine R9 (R4 (I.type.here (R4 ((TQ X ha).here (R4 (L3.here ?_))))));exact h _
theorem Df{vs:Array Value}{v:Value}{Q:Unit->Shared->Prop}(po:((Uy K C).any λcd=>fu cd.mro)=true)(c:dG K C)(X:K.In s.heap)(hx:s.heap.get? x=some ⟨.ref C,none,.fields vs,#[]⟩)(ht:Ve K C name=some none)
  (h:∀ h' tk d,h'.get? x=some ⟨.ref C,some d,.fields vs,#[]⟩->s.heap.get? d=none->h'.Ns1 d (λy=>if y=name then some v else none)->(∀ b o,b≠x->s.heap.get? b=some o->h'.get? b=some o)->Q () { s with heap:=h',toks:=tk }) :
  wpAny (model prog w) A (setAttr (.ref x) name v) Q E s:=by
 have I:Ua s.heap x ⟨.ref C,none,.fields vs,#[]⟩ C none:=⟨hx,rfl,rfl,trivial⟩
 refine XZ X I c.sa (E7 (s:={ s with toks:=s.toks+1 }) po c X I ht λb=>?_);obtain⟨cd,hc,RI⟩:=UD c.hd;have PH:=Sa hx;refine R4 (R9 (R4 (R4 (UE hx (R4 (XD (s:={ s with toks:=s.toks+1 }) (V8 X hc) ?_))))));rw[RI];refine R4 (wpAny_alloc ?_);have Rx:(s.heap.push { cls:=.type "dict", data:=.dict #[] }).get? x=some ⟨.ref C,none,.fields vs,#[]⟩:=R6 _ hx;refine R4 (wpAny_update Rx ?_);refine R9 (a:=some s.heap.objs.size) (R4 (R9 (R4 ?_)));have P2:((s.heap.push { cls:=.type "dict", data:=.dict #[] }).update x λo=>{ o with dict:=some s.heap.objs.size }).get? x=some ⟨.ref C,some s.heap.objs.size,.fields vs,#[]⟩:=TZ _ Rx rfl;have e1:(s.heap.push { cls:=.type "dict", data:=.dict #[] }).get? s.heap.objs.size=some { cls:=.type "dict", data:=.dict #[] }:=Sg s.heap rfl;have nxd:s.heap.objs.size≠x:=UK PH;have e2:((s.heap.push { cls:=.type "dict", data:=.dict #[] }).update x λo=>{ o with dict:=some s.heap.objs.size }).get? s.heap.objs.size=some { cls:=.type "dict", data:=.dict #[] }:=by
  rw[S9 _ _ (T7 nxd)];exact e1
 have e3:((s.heap.push { cls:=.type "dict", data:=.dict #[] }).update x λo=>{ o with dict:=some s.heap.objs.size }).Ns s.heap.objs.size (λ_=>none):=⟨_,#[],_,e2,rfl,(λe he=>absurd he (by simp)),λ_=>rfl⟩
 refine wpAny_nsSet1 (s:={ s with heap:=(s.heap.push { cls:=.type "dict", data:=.dict #[] }).update x λo=>{ o with dict:=some s.heap.objs.size },toks:=s.toks+1 }) (X4 e3) λh' Q6 P8=>?_;obtain⟨oD,esD,epD,hoD,hdD,QN⟩:=Q6.count (X0 (ns:=[]) name v (λy hy=>absurd rfl hy));refine R4 (wpAny_lookBehind hoD (by rw[hdD];exact pastItsLine_dict (SE QN (by show 1<=sizeLine+1;exact Nat.le_add_left _ _))) ?_);refine R9 (h h' _ s.heap.objs.size ((P8.2 x (T7 nxd)).trans P2) (UT (Se _)) Q6 λb o hb e=>?_);refine(P8.2 b (So (Sa e))).trans ?_;rw[S9 _ _ (T7 hb)];exact R6 _ e
end
def qr(K:R5)(C:Addr)(newId:String)(f:Addr):Bool:=match K.lookup C with
 | some ⟨.type "type", _,.cls cd,sl⟩=>(match cd.mro,sl.toList with
  | .ref C'::bm,[_,_,_,_,some (.builtin n),_]=>C'==C&&n==newId&&!cd.hasDel&&PySem.W.tailIn K eX bm&&PySem.W.nsOkIn K cd.ns&&W0 K cd.ns "__init__" == some (some (.ref f))
  | _,_=>false)
 | _=>false
section
variable{E:Value->Shared->Prop}{g:Array GenState}{d:Drawn}{t:Nat}{os:OsState}
variable{nm q:Str}{N:Addr}{bs bm:List Value}{Qr:Bool}{sn:List Str}{sub:List Value}{ab:Bool}{col:Option Bool}{k0 k1 k2 k3 k5:Option Value}{Rn:String}
theorem p8(F:ExcBaseFacts "ValueError" newId Rn eX)(T:OwnTail h eX bm){mN:Str->Option Value}{rest:List Value}{Q:Fin->Shared->Prop}
  (hC:h.get? C=some (excClassObj nm q C N bs bm Qr sn sub ab col dd k0 k1 k2 k3 k5 newId)) (hn:h.Ns N mN) (QD:mN "__init__" = some (.ref f))
  (hb:∀ h':Heap,(∀ b o,h.get? b=some o->h'.get? b=some o)->∀ self,Va (model prog w) h' (bindSpecial (.ref f) self) (.ref f,[self]))
  (hq:∀ h':Heap,(∀ b o,h.get? b=some o->h'.get? b=some o)->h'.get? h.objs.size=some { cls:=.type "tuple", data:=.seq rest.toArray } ->
   h'.get? (h.objs.size+1)=some { cls:=.ref C,data:=.fields #[.ref h.objs.size,.none,.none,.none,.bool false,.none] }->h'.objs.size=h.objs.size+2 ->
   wpAny (model prog w) A (call (.ref f) (.ref (h.objs.size+1)::rest)) (λv s'=>v=.none/\Q (.done (.ret (.ref (h.objs.size+1)))) s') E ⟨h',g,d,t,os⟩) (BR:rest.length<=sizeLine:=by size_fits) :
  wpAny (model prog w) A (Builtin.«type.__call__» ⟨.ref C::rest,[]⟩) Q E ⟨h,g,d,t,os⟩:=by
 repeat (first | with_reducible refine Wy hC ?_ | with_reducible refine wpAny_madeBy_exc hC ?_ | wp_step)
 refine codeAny_call_builtin_code (XM _ F.quiet) (wpAny_check_new_subT F T hC ?_);refine codeAny_exc_new_subT F T hC ?_ BR;show wpAny _ _ _ _ _ _;have kp:∀ b o,h.get? b=some o->((h.push { cls:=.type "tuple", data:=.seq rest.toArray }).push { cls:=.ref C,data:=.fields #[.ref h.objs.size,.none,.none,.none,.bool false,.none] }).get? b=some o:=λb o e=>R6 _ (R6 _ e);have hC1:=kp _ _ hC;have hn1:((h.push { cls:=.type "tuple", data:=.seq rest.toArray }).push { cls:=.ref C,data:=.fields #[.ref h.objs.size,.none,.none,.none,.bool false,.none] }).Ns N mN:=hn.keeps kp;have RL:((h.push { cls:=.type "tuple", data:=.seq rest.toArray }).push
   { cls:=.ref C,data:=.fields #[.ref h.objs.size,.none,.none,.none,.bool false,.none] }).get? (h.objs.size+1)=some
   { cls:=.ref C,data:=.fields #[.ref h.objs.size,.none,.none,.none,.bool false,.none] }:=by heap_get
 have htup:((h.push { cls:=.type "tuple", data:=.seq rest.toArray }).push
   { cls:=.ref C,data:=.fields #[.ref h.objs.size,.none,.none,.none,.bool false,.none] }).get? h.objs.size=some { cls:=.type "tuple", data:=.seq rest.toArray }:=R6 _ (Sg _ rfl)
 have Qc:((h.push { cls:=.type "tuple", data:=.seq rest.toArray }).push { cls:=.ref C,data:=.fields #[.ref h.objs.size,.none,.none,.none,.bool false,.none] }).objs.size=h.objs.size+2:=by rw[Tc,Tc]
 have hcC:(Sd C::bm).contains (.ref C)=true:=by simp
 have T1:=T.keeps kp;have hb₁:=hb _ kp (.ref (h.objs.size+1));have fin:=hq _ kp htup RL Qc;generalize ((h.push { cls:=.type "tuple", data:=.seq rest.toArray }).push { cls:=.ref C,data:=.fields #[.ref h.objs.size,.none,.none,.none,.bool false,.none] })=h1 at *;unfold isInstance
 repeat (first | with_reducible refine Wy RL ?_ | (with_reducible refine wpAny_isSubtype_exc hC1 ?_;rw[hcC]) | wp_step)
 show wpAny _ _ (typeLookup (.ref C) _) _ _ _;refine wpAny_typeLookup_tail hC1 hn1 T1 F.mroIs F.init.lookup ?_;rw[QD];refine T9 (R4 (hb₁.here ?_));refine R4 (Tj fin (λv s' z=>?_) λ_ _ z=>z);obtain⟨rfl,z⟩:=z
 wp_walk
 exact z
end
end
def gU(C:Addr)(dd:Option Addr)(e:Addr):HO:=.ext λh=>∃ vs,h.get? e=some ⟨.ref C,dd,.fields vs,#[]⟩
theorem D7{e:Addr}{vs:Array Value}(he:h.get? e=some ⟨.ref C,dd,.fields vs,#[]⟩):bZ P w H h e (gU C dd e) :=
 ⟨⟨vs,he⟩,⟨_,he⟩,λ_ _ ⟨vs,q⟩ k=>⟨vs,k _ q⟩⟩
def ExcAt(H:Hp)(e C:Addr)(fo:Option (List (Str×V))):Prop:=match fo with
 | none=>H e=some (gU C none e)
 | some fs=>∃ d,H e=some (gU C (some d) e)/\H d=some (.xd fs)
theorem Inv.pO(I:Inv X Oa σ H s){e:Addr}(he:H e=some (gU C dd e)):∃ vs,s.heap.get? e=some ⟨.ref C,dd,.fields vs,#[]⟩:=(I.bJ e _ he).1
theorem Inv.uz(I:Inv X Oa σ H s){e:Addr}{fo:Option (List (Str×V))}(h:ExcAt H e C fo):∃ ox od,Ua s.heap e ox C od/\(fo=none->od=none) ∧
  ∀ fs,fo=some fs->∃ (o:Obj) (mA:Str->Option Value),od=some o/\(∀ n,UU n o=some (mA n))/\∀ f,lO (fs.lookup f) (mA f):=by
 cases fo with
 | none =>
  obtain⟨vs,q⟩:=I.pO h;exact⟨_,none,⟨q,rfl,rfl,trivial⟩,λ_=>rfl,λfs z=>(by cases z)⟩
 | some fs =>
  obtain⟨d,h1,h2⟩:=h;obtain⟨vs,q⟩:=I.pO h1;obtain⟨mA,n,r⟩:=(show ∃ mA,s.heap.Ns1 d mA/\∀ f,lO (fs.lookup f) (mA f) from I.bJ d _ h2)
  obtain⟨o,ho,hl⟩:=ny n;refine⟨_,some o,⟨q,rfl,rfl,ho⟩,λz=>(by cases z),λfs' z=>?_⟩;cases z;exact⟨o,mA,rfl,hl,r⟩
theorem Inv.tq(I:Inv X Oa σ H s)(hn:s.heap.get? a=none):H a=none:=by
 cases q:H a with
 | none=>rfl
 | some u =>
  exfalso;have:∀ (u:HO),bZ X.prog X.w H s.heap a u->∃ ob,s.heap.get? a=some ob:=by
   intro u
   induction u with
   | lst xs=>intro ⟨_,_,_,_,e⟩;exact⟨_,e⟩
   | tup xs=>intro ⟨_,_,_,p⟩;obtain⟨ob,e,_⟩:=p;exact⟨ob,e⟩
   | dK OV=>intro ⟨_,_,_,_,p⟩;obtain⟨ob,_,_,e,_⟩:=p;exact⟨ob,e⟩
   | dT OV=>intro ⟨_,_,_,_,ob,_,_,e,_⟩;exact⟨ob,e⟩
   | set S n=>intro p;obtain⟨es,ob,xs,ep,e,_⟩:=p;exact⟨_,e⟩
   | ins C dx fs=>intro ⟨_,_,_,e,_⟩;exact⟨_,e⟩
   | own x=>intro ⟨ob,e⟩;exact⟨ob,e⟩
   | xd fs=>intro ⟨mA,n,_⟩;obtain⟨ob,e,_⟩:=ny n;exact⟨ob,e⟩
   | met f x=>intro e;exact⟨_,e⟩
   | Cd lo hi=>intro ⟨_,_,_,e⟩;exact⟨_,e⟩
   | jM o u _=>intro ⟨e,_⟩;exact⟨_,e⟩
   | Fl ps=>intro e;exact⟨_,e⟩
   | ext φ=>intro ⟨_,⟨ob,e⟩,_⟩;exact⟨ob,e⟩
  obtain⟨ob,e⟩:=this u (I.bJ a u q);rw[hn] at e;cases e
theorem Inv.FT(I:Inv X Oa σ H s)(k:∀ b u,s.heap.get? b=some u->h'.get? b=some u)(hn:s.heap.get? a=none)(new:bZ X.prog X.w (upd H a o) h' a o) :
  Inv X Oa σ (upd H a o) { s with heap:=h',toks:=t' }:=by
 have ne:∀ b u,s.heap.get? b=some u->b≠a:=λb u e z=>by rw[z,hn] at e;cases e
 have QS:H a=none:=I.tq hn;have QX:∀ b u,H b=some u->b≠a:=λb u e z=>by rw[z,QS] at e;cases e
 refine I.un ⟨λb u e _ _ _=>k b u e,λb u e _ _ _=>⟨u.slots,k b u e⟩,λb u e n _=>by rw[av (ne b u e)];exact n,λb u e _=>⟨u,k b u e⟩,
  λb xs e=>by rw[av (QX b _ e)];exact e,λb ob u e=>by rw[av (QX b _ e)];exact e,λb ps e=>⟨#[],by rw[av (QX b _ e),e];simp⟩⟩ λb u e=>?_
 by_cases z:b=a
 .subst z;rw[aA] at e;cases e;exact new
 .rw[av z] at e;refine(I.bJ b u e).lg (λc v _ q=>k c v q) (λc q=>?_) λc ys q=>?_
  .rw[av (QX c _ q)];exact q
  .rw[av (QX c _ q)];exact q
variable{apos:Pos}{m:Str}{ta:TE}
section
variable{o:Expr}{f:Str}
def Lq(K:R5):List V->Hp->VK->Prop:=λxs H Q=>∃ e C fo b,dG K C/\ExcAt H e C fo ∧
 ((∃ T,xs=[.ref e,.ty T]/\Sb K (.ref C) (.type T)=some b)\/(∃ D,xs=[.ref e,.ref D]/\Sb K (.ref C) (.ref D)=some b))/\Q (.bl b) H
theorem qa:dc X (.builtin "isinstance") (Lq X.K):=by
 intro Oa s σ H xs us Q I r h;obtain⟨e,C,fo,b,c,ha,hc,q⟩:=h;obtain⟨ox,od,J,_⟩:=I.uz ha;rcases hc with ⟨T,rfl,hk⟩ | ⟨D,rfl,hk⟩
 .cases r with
  | cons r1 r2 =>
   cases r2 with
   | cons r3 r4 =>
    cases r4;cases (show _=Sd e from r1);cases (show _=TU T from r3);exact S1 (uE c) I.hU J hk (λz=>nomatch z) λtk=>⟨.bl b,H,I.tok tk,rfl,q⟩
 .cases r with
  | cons r1 r2 =>
   cases r2 with
   | cons r3 r4 =>
    cases r4;cases (show _=Sd e from r1);cases (show _=Sd D from r3);exact S1 (uE c) I.hU J hk (λz=>nomatch z) λtk=>⟨.bl b,H,I.tok tk,rfl,q⟩
def Kl(K:R5)(ta:TE)(f:Str):TE:=fun σ H Q=>ta σ H λx H1=>∃ e C fs v,x=.ref e/\ExcAt H1 e C (some fs)/\dG K C/\bf K C f/\fs.lookup f=some v/\Q v H1
theorem D0(he:PE X o ta)(hb:attributeBase o f X.env (eval o X.env)=eval o X.env):PE X (.Attribute o f pos) (Kl X.K ta f):=by
 intro Oa s σ H Q I h;refine yx hb (cU (he Oa s σ H _ I h) λu s1 ⟨x,H1,I1,rx,e,C,fs,v,ex,ha,c,n,l,q⟩=>?_);subst ex;obtain rfl:u=Sd e:=rx;obtain⟨ox,od,J,_,hfo⟩:=I1.uz ha;obtain⟨o',mA,rfl,hl,hr⟩:=hfo fs rfl;obtain⟨u',hu,ru⟩:=lO.some_of (v:=v) (o:=mA f) (by rw[<- l];exact hr f);exact zm c I1.hU J (Xp c.hd n rfl (by rw[hl,hu])) (PySem.W.handedOut_of (r9 ru)) ⟨v,H1,I1.tok _,ru,q⟩
end
variable{mg:Str->Option Value}
theorem xc{K:R5}{N:Addr}{n:Str}{v:Value}(X:K.In h)(G:h.Ns N mg)(e:W0 K N n=some (some v)):mg n=some v:=by
 obtain⟨o,es,ep,ho,hd,_,hf⟩:=G;unfold W0 at e
 split at e
 .rename_i c d es' n' sl q;have:=X _ _ q;rw[ho] at this;cases this;cases hd
  split at e
  .rename_i en he;cases e;rw[<- hf];unfold nsFind findBy;rw[<- XC,he];rfl
  .split at e <;> cases e
 .cases e
theorem Eg{K:R5}(X:K.In h)(q:VO K C eX newId=true) :
  ∃ bm N nm qn bs Qr sn sub ab col dd k0 k1 k2 k3 k5 mN,h.get? C=some (excClassObj nm qn C N bs bm Qr sn sub ab col dd k0 k1 k2 k3 k5 newId)/\h.Ns N mN/\mN "__init__" = none/\OwnTail h eX bm:=by
 unfold VO at q
 split at q
 .rename_i dd cd sl ho
  split at q
  .rename_i C' bm k0 k1 k2 k3 n k5 hm hs;simp only[SX,beq_iff_eq,Yg] at q;obtain⟨⟨⟨⟨⟨rfl,rfl⟩,QO⟩,ht⟩,bJ⟩,QD⟩:=q;obtain⟨nm,bs,mro,ns,qn,hd,sn,sub,ab,col,del⟩:=cd;dsimp only at hm QO bJ QD;subst hm QO;have hsl:sl=#[k0,k1,k2,k3,some (.builtin n),k5]:=by
    obtain⟨l⟩:=sl;simp only at hs;rw[hs]
   subst hsl;exact⟨bm,ns,nm,qn,bs,hd,sn,sub,ab,col,dd,k0,k1,k2,k3,k5,_,X _ _ ho,.of_isNs (XN X bJ),PySem.W.nsMap_none_of_in X bJ QD,XO X ht⟩
  .cases q
 .cases q
theorem CO{K:R5}(X:K.In h)(q:qr K C newId f=true) :
  ∃ bm N nm qn bs Qr sn sub ab col dd k0 k1 k2 k3 k5 mN,h.get? C=some (excClassObj nm qn C N bs bm Qr sn sub ab col dd k0 k1 k2 k3 k5 newId)/\h.Ns N mN/\mN "__init__" = some (.ref f)/\OwnTail h eX bm:=by
 unfold qr at q
 split at q
 .rename_i dd cd sl ho
  split at q
  .rename_i C' bm k0 k1 k2 k3 n k5 hm hs;simp only[SX,beq_iff_eq,Yg] at q;obtain⟨⟨⟨⟨⟨rfl,rfl⟩,QO⟩,ht⟩,bJ⟩,QD⟩:=q;obtain⟨nm,bs,mro,ns,qn,hd,sn,sub,ab,col,del⟩:=cd;dsimp only at hm QO bJ QD;subst hm QO;have hsl:sl=#[k0,k1,k2,k3,some (.builtin n),k5]:=by
    obtain⟨l⟩:=sl;simp only at hs;rw[hs]
   subst hsl;have hN:=Heap.Ns.of_isNs (XN X bJ);exact⟨bm,ns,nm,qn,bs,hd,sn,sub,ab,col,dd,k0,k1,k2,k3,k5,_,X _ _ ho,hN,xc X hN QD,XO X ht⟩
  .cases q
 .cases q
variable{k:Nat}{t:TA}{es:List Expr}{e:Expr}{sp:Sp}{ps:List Str}{fd:FuncData}
section
variable{p:Pos}
end
section
open PySem.SeqAt (shaped noMix noMixAll)
end
section
open PySem.SeqAt (shaped noMix noMixAll)
theorem EK{x:V}{u t:Value}(I:Inv X Oa σ H s)(rx:RelV x u)(ty:jK X.K H x t):∃ HH:Heap->Prop,Y7 X.K u t HH/\HH s.heap/\u≠.builtin "__main__.__loader__#opaque" := by
 cases ty with
 | bG=>cases (show u=SM from rx);exact⟨_,X5,Ue,λz=>nomatch z⟩
 | bl y=>cases (show u=Te y from rx);exact⟨_,X6,Ue,λz=>nomatch z⟩
 | int i=>obtain⟨t,q⟩:=(show ∃ t,u=WH i t from rx);cases q;exact⟨_,Yn,Ue,λz=>nomatch z⟩
 | str y=>obtain⟨t,q⟩:=(show ∃ t,u=WI y t from rx);cases q;exact⟨_,Yo,Ue,λz=>nomatch z⟩
 | FW y=>obtain⟨t,q⟩:=(show ∃ t,u=Xf y t from rx);cases q;exact⟨_,XE,Ue,λz=>nomatch z⟩
 | @lst a xs ea =>
  cases (show u=Sd a from rx);obtain⟨_,_,n,_,h1⟩:=(show bZ X.prog X.w H s.heap a (.lst xs) from I.bJ a _ ea)
  exact⟨_,Vr,⟨_,h1,rfl⟩,λz=>nomatch z⟩
 | @jM a ob xs ea =>
  cases (show u=Sd a from rx);obtain⟨_,_,_,n,_,h1⟩:=(show bZ X.prog X.w H s.heap a (.jM ob (.lst xs)) from I.bJ a _ ea)
  exact⟨_,Vr,⟨_,h1,rfl⟩,λz=>nomatch z⟩
 | @tup a xs ea =>
  cases (show u=Sd a from rx);obtain⟨_,_,_,o,h1,h2,_⟩:=(show bZ X.prog X.w H s.heap a (.tup xs) from I.bJ a _ ea)
  exact⟨_,XF,⟨o,h1,h2⟩,λz=>nomatch z⟩
 | @dK a OV ea =>
  cases (show u=Sd a from rx);obtain⟨_,_,vs,_,o,es,ep,h1,h2,_⟩:=(show bZ X.prog X.w H s.heap a (.dK OV) from I.bJ a _ ea)
  exact⟨_,Vs,⟨o,h1,h2.1⟩,λz=>nomatch z⟩
 | @dT a OV ea =>
  cases (show u=Sd a from rx);obtain⟨_,_,xs,_,o,es,ep,h1,h2,_⟩:=(show bZ X.prog X.w H s.heap a (.dT OV) from I.bJ a _ ea)
  exact⟨_,Vs,⟨o,h1,h2.1⟩,λz=>nomatch z⟩
 | @ins a C dx fs ea cl ha hn IZ hm =>
  cases (show u=Sd a from rx);obtain⟨mA,O,_⟩:=mi I.bJ ea;obtain⟨od,J,_⟩:=O.look;exact⟨_,Yp (cl.get _) cl.hd ha hn IZ hm,J,λz=>nomatch z⟩
def Ko(K:R5):List V->Hp->VK->Prop:=λxs H Q=>∃ (x:V) (tp:Addr) (Ts:List String) (t:Value) (b:Bool),xs=[x,.ref tp]/\H tp=some (.tup (Ts.map V.ty))/\jK K H x t/\Wm K t (Ts.map TU)=some b/\Q (.bl b) H
theorem xW:∀ {Ts:List String} {us:List Value},Vals (Ts.map V.ty) us->us=Ts.map TU
 | [],us,r=>by rw[UM] at r;cases r;rfl
 | T::Ts,us,r=>by
  rw[Su] at r;cases r with
  | cons r1 r2 =>
   cases (show _=TU T from r1);rw[xW r2];rfl
theorem z0:dc X (.builtin "isinstance") (Ko X.K):=by
 intro Oa s σ H xs us Q I r h;obtain⟨x,tp,Ts,t,b,rfl,htp,ty,e,q⟩:=h;cases r with
 | cons r1 r2 =>
  cases r2 with
  | cons r3 r4 =>
   cases r4;cases (show _=Sd tp from r3);obtain⟨HH,Z,p,ne⟩:=EK I r1 ty;obtain⟨_,Og,rv,o,h1,h2,n,h3⟩:=(show bZ X.prog X.w H s.heap tp (.tup (Ts.map V.ty)) from I.bJ tp _ htp)
   have ei:=xW rv;subst ei;obtain⟨cls,dd,data,sl⟩:=o;dsimp only at h2 h3;subst h2 h3;exact PySem.W.kia_tup Z I.hU p h1 e ne λtk=>⟨.bl b,H,I.tok tk,rfl,q⟩
theorem yG:∀ {bs:List Bool} {us:List Value},Vals (bs.map V.bl) us->us=bs.map Te
 | [],us,r=>by rw[UM] at r;cases r;rfl
 | b::bs,us,r=>by
  rw[Su] at r;cases r with
  | cons r1 r2 =>
   cases (show _=Te b from r1);rw[yG r2];rfl
theorem GQ:bootBuiltins "all" = some (.builtin "all"):=by decide +kernel
theorem zz(hc:X.calm=true):dc X (.builtin "all") (λxs H Q=>∃ (a:Addr) (bs:List Bool),xs=[.ref a]/\gS X.K H a (bs.map V.bl)/\Q (.bl (bs.all id)) H):=by
 intro Oa s σ H xs us Q I r h;obtain⟨a,bs,rfl,hq,q⟩:=h;cases r with
 | cons r1 r2 =>
  cases r2;cases (show _=Sd a from r1);obtain⟨Og,rv,p,hz⟩:=I.list hq;have ei:=yG rv;subst ei;have hl:=p.isList;have PH:a<s.heap.objs.size:=by obtain⟨_,e,_⟩:=hl;exact Sa e
  refine call_all_walk (Wx hl ?_);refine⟨s.heap.objs.size,[s.heap.objs.size,a],[s.heap.objs.size],(bs.map Te).toArray.size,_,_,λi=>(bs[i]?).getD true,rfl,Walks.list (A:=X.A.in1) (I.ok.hd hc) _ a (So PH) (bs.map Te).toArray,
   ⟨⟨_,Sg _ rfl,rfl,rfl⟩,hl.push _⟩,λi v s' Q' E' hP hQ=>?_,λh' tk hk=>?_⟩
  .have hP':(bs.map Te)[i]?=some v:=by simpa using hP
   rw[Sx] at hP';obtain⟨b,e1,e2⟩:=Sn.mp hP';subst e2;simp only[e1,WL] at hQ;exact Ut hQ
  .have e:((S7 (bs.map Te).toArray.size).all λi=>(bs[i]?).getD true)=bs.all id:=by
    rw[Sf,R_];rw[W9,SD,SD];constructor
    .intro h b hb;obtain⟨i,hi,e⟩:=List.getElem_of_mem hb;have:=h i (UC.mpr hi);simp only[R8 hi,WL,e] at this;exact this
    .intro h i hi;have Q2:=UC.mp hi;simp only[R8 Q2,WL];exact h _ (Tv Q2)
   rw[e];refine⟨.bl _,H,I.kept (t':=tk) (λb x e=>?_),rfl,q⟩;exact hk b x (λhm=>by rw[Tq.mp hm] at e;exact Uw _ (Sa e)) (R6 _ e)
end
section
open PySem.MeetsSeq PySem.MeetsSeq2 PySem.MeetsSeq3
theorem nQ:fillsNumberSlot (.type "tuple") "mul" = pure false :=
 PySem.fillsNumberSlot_seq (id := "tuple.__mul__") (r:=some (.builtin "tuple.__rmul__")) F.slot_tuple_mul.lookup (by decide +kernel) F.slot_tuple_rmul.lookup (by decide +kernel)
theorem uu:seqRepeat? (.type "tuple")=pure (some (.builtin "tuple.__mul__")):=by
 unfold seqRepeat?;rw[Yt (T := "tuple") (name := "__mul__") (id := "tuple.__mul__") F.slot_tuple_mul.lookup (by decide +kernel),Yt (T := "tuple") (name := "__rmul__") (id := "tuple.__rmul__") F.slot_tuple_rmul.lookup (by decide +kernel)];rfl
theorem tW(a:Int)(t:Tok)(l:Addr)(items:Array Value)(n:Nat)(dd:Option Addr)(sl:Array (Option Value)) :
  Meets (Builtin.«int.__rmul__» ⟨[.int a t,.ref l],[]⟩) (λ_ R s=>s.heap.get? l=some ⟨.type "tuple", dd,.seq items n,sl⟩/\R (.ok (.ret Value.notImplemented)) s) :=
 .of_wp λprog w A R s h=>by obtain⟨hp,g,d,tk,os⟩:=s;obtain⟨hl,h⟩:=h;wp_walk;exact⟨_,rfl,h⟩
theorem yX(l:Addr)(items:Array Value)(n:Nat)(dd:Option Addr)(sl:Array (Option Value))(u:Tok) :
  Meets (Builtin.«tuple.__mul__» ⟨[.ref l,.int 1 u],[]⟩) (λ_ R s=>s.heap.get? l=some ⟨.type "tuple", dd,.seq items n,sl⟩/\R (.ok (.ret (.ref l))) s) :=
 .of_wp λprog w A R s h=>by
  obtain⟨hp,g,d,tk,os⟩:=s;obtain⟨hl,h⟩:=h;have f1:=WM;have f2:=Vb
  wp_walk using TL hl
  exact⟨_,rfl,h⟩
theorem zH(l:Addr)(items:Array Value)(n:Nat)(dd:Option Addr)(sl:Array (Option Value))(x:Int)(u:Tok)(c0:¬ (decide (x < -2^63)||decide (x>=2^63))=true)(c1:¬ (items.isEmpty||x==1)=true)(c2:¬ (decide (x<=0)||items.isEmpty)=true)
  (c3:¬ (items.size:Int)*x>(2^63-1)/8) (c4:¬ Wn ((items.size:Int)*x)=true) (Qc:(Wh (λx1 x2=>x1++x2) #[] (R7 x.toNat items)).size<=sizeLine) :
  Meets (Builtin.«tuple.__mul__» ⟨[.ref l,.int x u],[]⟩) (λ_ R s=>s.heap.get? l=some ⟨.type "tuple", dd,.seq items n,sl⟩/\R (.ok (.ret (.ref s.heap.objs.size))) { s with heap:=s.heap.push { cls:=.type "tuple", data:=.seq (Wh (λx1 x2=>x1++x2) #[] (R7 x.toNat items)) },toks:=s.toks }) :=
 .of_wp λprog w A R s h=>by
  obtain⟨hp,g,d,tk,os⟩:=s;obtain⟨hl,h⟩:=h;have f1:=WM;have f2:=Vb
  wp_walk using TL hl
  refine W_ (decide_eq_false c0) ?_;wp_walk using TL hl;refine W_ (decide_eq_false c3) ?_;wp_walk using TL hl;exact⟨_,rfl,h⟩
theorem zw(l:Addr)(items:Array Value)(n:Nat)(dd:Option Addr)(sl:Array (Option Value))(x:Int)(u:Tok)(c0:¬ (decide (x < -2^63)||decide (x>=2^63))=true)(c1:¬ (items.isEmpty||x==1)=true)(c2:(decide (x<=0)||items.isEmpty)=true) :
  Meets (Builtin.«tuple.__mul__» ⟨[.ref l,.int x u],[]⟩) (λ_ R s=>s.heap.get? l=some ⟨.type "tuple", dd,.seq items n,sl⟩/\R (.ok (.ret (.ref s.heap.objs.size))) { s with heap:=s.heap.push { cls:=.type "tuple", data:=.seq #[] },toks:=s.toks }) :=
 .of_wp λprog w A R s h=>by
  obtain⟨hp,g,d,tk,os⟩:=s;obtain⟨hl,h⟩:=h;have f1:=WM;have f2:=Vb
  wp_walk using TL hl
  refine W_ (decide_eq_false c0) ?_;wp_walk using TL hl;exact⟨_,rfl,h⟩
def FE(K:R5):R2:=λx y H Q=>∃ a k xs,x=.ref a/\y=.int k/\gk K H a xs/\xs≠[]/\-(2^63)<=k/\k<2^63/\xs.length*k.toNat<=sizeLine/\(k=1->Q (.ref a) H)/\(k≠1->∀ p,H p=none->Q (.ref p) (upd H p (.tup (R7 k.toNat xs).flatten)))
theorem E9:gA X (binaryOp .Mult) (FE X.K):=by
 intro Oa s σ H x y v u Q I rx ry h;obtain⟨a,k,xs,rfl,rfl,hq,Qz,h1,h2,hz,q1,q2⟩:=h;cases rx;obtain⟨t,rfl⟩:=ry;obtain⟨Og,r,⟨o,e,hc,n,hd⟩,_⟩:=I.tuple hq;obtain⟨cls,dd,data,sl⟩:=o;dsimp only at hc hd;subst hc hd;have hl:=r.length;refine Ws (T := "tuple") (U := "int") (by decide) ⟨_,e,rfl⟩ (λs'=>WY s' k t) nQ F.fills_int_mul F.slot_int_rmul uu F.slot_int_index.lookup
  (UX F.slot_int_rmul (WY s k t) F.entry_int_rmul (F.args_int_rmul_2 _ _) (tW k t a Og.toArray n dd sl) ⟨e,rfl,⟨_,e,rfl⟩,?_⟩)
 by_cases hk1:k=1
 .subst hk1;exact UX F.slot_tuple_mul ⟨_,e,rfl⟩ F.entry_tuple_mul (F.args_tuple_mul_2 _ _) (yX a Og.toArray n dd sl t) ⟨e,⟨.ref a,H,I,rfl,q1 rfl⟩⟩
 .have hb1:(k==1)=false:=by simpa using hk1
  have QD:Og≠[]:=λz=>Qz (r.lV.mp z);have hie:Og.toArray.isEmpty=false:=by cases Og with | nil=>exact absurd rfl QD | cons _ _=>rfl
  have c0:¬ (decide (k < -2^63)||decide (k>=2^63))=true:=by simp;lia
  have c1:¬ (Og.toArray.isEmpty||k==1)=true:=by rw[hie,hb1];simp
  have fin:∀ ys,ys=(R7 k.toNat Og).flatten.toArray->EP X Oa σ Q (.ref s.heap.objs.size) { s with heap:=s.heap.push { cls:=.type "tuple", data:=.seq ys },toks:=s.toks }:=λys ey=>by
   subst ey;refine⟨.ref s.heap.objs.size,_,I.laid (t':=s.toks) (o:=.tup (R7 k.toNat xs).flatten) (λb ob q=>R6 _ q) (Se _) ?_,rfl,q2 hk1 _ (I.bJ.fresh (Se _))⟩;exact⟨by rw[len_rep,U3];exact hz,_,r.rep k.toNat,Xo _ _⟩
  have P_:Wh (λx1 x2=>x1++x2) #[] (R7 k.toNat Og.toArray)=(R7 k.toNat Og).flatten.toArray:=by
   have:=foldl_rep Og k.toNat [];rw[V1] at this;exact this
  by_cases hk0:k<=0
  .have c2:(decide (k<=0)||Og.toArray.isEmpty)=true:=by rw[decide_eq_true hk0];rfl
   refine UX F.slot_tuple_mul ⟨_,e,rfl⟩ F.entry_tuple_mul (F.args_tuple_mul_2 _ _) (zw a Og.toArray n dd sl k t c0 c1 c2) ⟨e,fin _ ?_⟩;rw[show k.toNat=0 by lia];rfl
  .have c2:¬ (decide (k<=0)||Og.toArray.isEmpty)=true:=by rw[decide_eq_false hk0,hie];simp
   have em:((Og.toArray.size:Nat):Int)*k=((xs.length*k.toNat:Nat):Int):=by
    rw[Sf,<- hl,Int.natCast_mul,Int.toNat_of_nonneg (by lia)]
   have hs:(sizeLine:Int)<=(2^63-1)/8:=by decide
   refine UX F.slot_tuple_mul ⟨_,e,rfl⟩ F.entry_tuple_mul (F.args_tuple_mul_2 _ _) (zH a Og.toArray n dd sl k t c0 c1 c2 ?_ ?_ ?_) ⟨e,fin _ P_⟩
   .rw[em];lia
   .rw[em];unfold Wn;simp only[decide_eq_true_eq];lia
   .rw[P_,Sf,len_rep,U3,<- hl];exact hz
end
structure aV (K:R5) (x qual:Str) (st:Stmt) (dv:Value) (f:Addr) (fd:FuncData):Prop where
 ex:∃ (oc:Value) (od:Option Addr) (kV doc pm:Value) (an:Option Addr) (Ox ct:Value) (QJ:Array (Option Value)),
  fd=Tg x qual (iz st) (dC st) (aE st) dv kV doc pm an Ox ct/\K.lookup f=some ⟨oc,od,.func fd,QJ⟩/\Ub K Ox qual=true
 kp:SN K (.ref f)=true
variable{base:Heap}
variable{ds:List Value}{T:Addr}{qual:Str}
section
variable{K:R5}
theorem aV.binds{st:Stmt}{o:Obj}(F:aV K x qual st (.ref T) f fd)(ho:K.lookup T=some o)(hs:o.data=.seq items n)
  (h:∀ (kV doc pm:Value) (an:Option Addr) (Ox ct:Value) (us:List Value),(us++ds).length=ps.length->∃ k,bindArgs (Tg x qual (iz st) (dC st) (aE st) (.ref T) kV doc pm an Ox ct) ⟨us,[]⟩=seqItems? (.ref T) >>= k/\k (some items)=pure (ps.zip (us++ds))):Binds K fd ps ds:=by
 obtain⟨oc,od,kV,doc,pm,an,Ox,ct,QJ,rfl,lk,Pn⟩:=F.ex;intro s us X hl;obtain⟨k,h1,h2⟩:=h kV doc pm an Ox ct us hl;exact BindsTo.of_defaults rfl (X _ _ ho) hs h1 h2
end
variable{v:V}
theorem Kr(hg:Gl X x)(hm:∃ u,X.mg x=some u/\RelV v u)(hd:autoParam ((x==("__debug__" : Str))=false) aD._auto_1):PE X (.Name x pos) (tC v):=by
 obtain⟨u,h1,h2⟩:=hm;exact tU hg h1 h2 hd
theorem Ik:bootBuiltins "max" = some (.builtin "max"):=by decide +kernel
variable{y:Str}
theorem E6{cl:List (Str×Addr)}{PU py:Pos}{wi:TI}{g:TG}{fs:List Str}(hN:X.N.Nodup)(Rh:X.N[i]?=some y)(hy:Loc X.env.scope y)(Oj:X.calm=true)
  (OO:closureFor scope X.env=pure cl) (hk:scope.kind=.function) (nc:fO scope.names=true) (lo:g9 scope.names=true) (fh:ik cl scope.names=true) (ag:eh X cl) (fr:iW X scope cl fs js)
  (hi:PI X tg iter wi) (hg:∀ C s₀ H₀ ex Oa,PG (qI X scope cl (ts++fs) C s₀ H₀ ex Oa) tg g) (he:∀ C s₀ H₀ ex Oa,PE (qI X scope cl (ts++fs) C s₀ H₀ ex Oa) elt te)
  (hs:autoParam (∀ x,foldedSetIterable iter X.env x=pure x) aI._auto_1) (Q7:autoParam (swapsWith (.ListComp elt [⟨tg,iter,[],0⟩] scope pos) (some (.Name y py)) PU.line X.env=pure true) aR._auto_1)
  (hf:autoParam (X.fn y=true\/X.env.scope.names.lookup y=some .local) aF._auto_1) :
  PS X (.Assign [.Name y py] (.ListComp elt [⟨tg,iter,[],0⟩] scope pos) PU) (Ex (wy wi g te ts js) (aH i)):=by
 intro Oa s σ H D I h;rw[Xc _ _ _ _ Q7];refine R4 (UR (R4 ?_));show wpAny _ X.A (do let _ <- comprehension (.ListComp elt [⟨tg,iter,[],0⟩] scope pos) scope X.env _ (newList []) false (eval iter X.env) (some (assign (.Name y py) X.env))) _ _ s;refine R4 (Tj (pK (tt:=none) Oj OO hk nc lo fh ag fr hi hg (λ_ _ _ _ _=>trivial) he hs I (show yF wi g none te ts js σ H (λx H1=>D.nx (σ.set i (some x)) H1) from h) (some (assign (.Name y py) X.env)) (λ_ s'=>SP X Oa D .next s') λDd H' s' C Io q hm f=>?_) (λ_ s' hq=>R9 (R9 hq)) λ_ _ e=>e);show wpAny _ X.A (assign (.Name y py) X.env (.ref Dd)) _ _ s';refine Ww (nq Io hN Rh hy (v:=.ref Dd) rfl (λR0 I'' ⟨a,sb,ha⟩=>?_) hf);obtain⟨m,hn⟩:=hm;obtain⟨f0,f1,f2,f3,f4,f5⟩:=f;have naC:a≠C:=by
  rcases ha with z | z
  .rw[z];exact λw=>f1 w.symm
  .exact f4 y a z
 refine⟨m,hn.sameBut sb (T7 naC),λh' Q_=>?_⟩;exact⟨_,H',I''.other ⟨f0,f1,f2,f3,f4,f5⟩ Q_,q⟩
section
variable{E:Value->Shared->Prop}
variable{b1 b2 b3:Bool}{z TI TO i1 i2 i3 l1 l2 l3:Addr}{k3:Nat}{xs zs:Array Value}{x y v a b c:Value}
end
section
variable{E:Value->Shared->Prop}
variable{b1 b2 b3:Bool}{z TI TO i1 i2 i3 l1 l2 l3:Addr}{k3:Nat}{xs zs:Array Value}{x y v a b c:Value}
end
section
variable{E:Value->Shared->Prop}
end
variable{oe:Obj}{outer:List Env}
variable{to:Option Addr}
section
variable{M:Model}{E:Value->Shared->Prop}
theorem rV{env:Env}{L e:Addr}{vs:Array Value}{head:Value}{Q4:Bool}{Q:Unit->Shared->Prop}
  (QS:A.frames=some (env::outer)) (hl:s.heap.FunFrames base (env::outer)) (hf:env.frame=some L)
  (he:s.heap.get? e=some oe) (hd:oe.data=.fields vs) (Qc:1<vs.size)
  (h:∀ h' T oT ts,h'.get? e=some (Ug (·.setIfInBounds 1 (.ref T)) oe)->s.heap.objs.size<=T->T≠e->h'.get? T=some oT->oT.data=.fields ts->ts[3]?=some (rawInt L) ->
   (∀ b o,b≠e->b ∉ wt (env::outer)->s.heap.get? b=some o->h'.get? b=some o)->(∀ b o,b≠e->s.heap.get? b=some o->∃ sl,h'.get? b=some { o with slots:=sl })->Q () { s with heap:=h' }) :
  wpAny M A (do let a <- frameOf env;let pl <- entryPlaceOf L Q4;let b <- Xs head a .none (rawInt L) .none pl;setField (.ref e) 1 b) Q E s:=by
 have hene:e ∉ (env::outer).filterMap (·.frame):=λhm=>by
  obtain⟨_,o,ho,RP⟩:=hl.mem hm;rw[he] at ho;injection ho with ho;subst ho;exact RP vs hd
 refine R4 (wpAny_frameOf_fun QS hl hf λh₁ hs1=>?_);refine R4 (wpAny_entryPlaceOf λpl Oy=>?_);unfold Xs newFields;refine R4 (Tz ?_ (Oy.sizeOk5 _ _ _ _ _));have he1:h₁.get? e=some oe:=(hs1.2.1 e hene).trans he;have he₂:=R6 (h:=h₁) { cls:=.type "traceback", dict:=none,data:=.fields ([head,.ref L,.none,rawInt L,.none]++(if pl.isEmpty then R7 6 SM else pl)).toArray } he1;have hTe:h₁.objs.size≠e:=UK (Sa he1);have hd3:=Uj hd (·.setIfInBounds 1 (Sd h₁.objs.size));have he3:=TZ (Ug (·.setIfInBounds 1 (Sd h₁.objs.size))) he₂ (US hd3);have hT₃:=(S9 (h₁.push { cls:=.type "traceback", dict:=none,data:=.fields ([head,.ref L,.none,rawInt L,.none]++(if pl.isEmpty then R7 6 SM else pl)).toArray })
  (Ug (·.setIfInBounds 1 (Sd h₁.objs.size))) (T7 hTe)).trans (Sg h₁ rfl)
 have keep:∀ b o,b≠e->h₁.get? b=some o ->
   ((h₁.push { cls:=.type "traceback", dict:=none,data:=.fields ([head,.ref L,.none,rawInt L,.none]++(if pl.isEmpty then R7 6 SM else pl)).toArray }).update e (Ug (·.setIfInBounds 1 (Sd h₁.objs.size)))).get? b=some o:=λb o QC hb=>by
  rw[S9 _ _ (T7 QC)];exact R6 _ hb
 refine Vy he₂ hd Qc (h _ h₁.objs.size _ _ he3 ?_ hTe hT₃ rfl (by first | (simp;done) | (rcases Oy with rfl | ⟨_,_,_,_,_,_,_,rfl⟩ <;> simp)) ?_ ?_)
 .exact X3 hs1.1.symm
 .intro b o QC hbf hb;exact keep b o QC ((hs1.2.1 b hbf).trans hb)
 .intro b o QC hb;obtain⟨sl,hs⟩:=hs1.2.2 b o hb;exact⟨sl,keep b _ QC hs⟩
def Lies(h:Heap)(e:Addr)(vs:Array Value)(to:Option Addr):Prop:=match to with
 | none=>vs[1]?=some .none
 | some T=>vs[1]?=some (.ref T)/\T≠e/\∃ oT ts,h.get? T=some oT/\oT.data=.fields ts/\ts[3]?=some .none
theorem zk{env:Env}{L e:Addr}{vs:Array Value}{Q:Unit->Shared->Prop}
  (QS:A.frames=some (env::outer)) (hl:s.heap.FunFrames base (env::outer)) (hf:env.frame=some L)
  (he:s.heap.get? e=some oe) (hd:oe.data=.fields vs) (hto:Lies s.heap e vs to)
  (h:∀ h' T oT ts,h'.get? e=some (Ug (·.setIfInBounds 1 (.ref T)) oe)->s.heap.objs.size<=T->T≠e->h'.get? T=some oT->oT.data=.fields ts->ts[3]?=some (rawInt L) ->
   (∀ b o,b≠e->(∀ T,to=some T->b≠T)->b ∉ wt (env::outer)->s.heap.get? b=some o->h'.get? b=some o) ->
   (∀ b o,b≠e->(∀ T,to=some T->b≠T)->s.heap.get? b=some o->∃ sl,h'.get? b=some { o with slots:=sl })->(∀ b o,s.heap.get? b=some o->∃ o',h'.get? b=some o')->Q () { s with heap:=h' }) :
  wpAny M A (noteFrame (.ref e) env) Q E s:=by
 unfold noteFrame;simp only[hf];cases to with
 | none =>
  have h1:vs[1]?=some .none:=hto;refine R4 (SH he hd h1 ?_);rw[if_neg (by decide)];refine rV QS hl hf he hd (Tr.mp h1).1 λh' T oT ts a1 a2 a3 a4 a5 a6 a7 a8=>?_;refine h h' T oT ts a1 a2 a3 a4 a5 a6 (λb o n1 _ n2 q=>a7 b o n1 n2 q) (λb o n1 _ q=>a8 b o n1 q) λb o q=>?_
  by_cases z:b=e
  .subst z;exact⟨_,a1⟩
  .obtain⟨sl,r⟩:=a8 b o z q;exact⟨_,r⟩
 | some T0 =>
  obtain⟨h1,hTe,oT,ts,hT,hdT,h3⟩:=hto;refine R4 (SH he hd h1 ?_);rw[if_pos (show (Sd T0 != SM)=true from by simp)];refine R4 (SH hT hdT h3 ?_);rw[if_neg (show ¬ ((SM==rawInt L)=true) from by simp[rawInt])];refine R4 (Vy hT hdT (Tr.mp h3).1 ?_);have other:∀ b,b≠T0->(s.heap.update T0 (Ug (·.setIfInBounds 3 SM))).get? b=s.heap.get? b:=λb hb=>S9 _ _ (T7 hb);have QZ:∀ b o,s.heap.get? b=some o->(∀ vs,o.data≠.fields vs)->b≠T0:=λb o hb RP q=>by
   rw[q,hT] at hb;injection hb with hb;subst hb;exact RP ts hdT
  have Q3:=TZ (Ug (·.setIfInBounds 3 SM)) hT (US (Uj hdT _));refine rV QS (hl.of_keeps λb o hb RP=>⟨o,(other b (QZ b o hb RP)).trans hb,rfl⟩) hf ((other e (T7 hTe)).trans he) hd (Tr.mp h1).1 λh' T oT' ts' a1 a2 a3 a4 a5 a6 a7 a8=>?_;refine h h' T oT' ts' a1 (by simpa [Heap.update] using a2) a3 a4 a5 a6 (λb o n1 n2 n3 q=>a7 b o n1 n3 ((other b (n2 T0 rfl)).trans q)) (λb o n1 n2 q=>a8 b o n1 ((other b (n2 T0 rfl)).trans q)) λb o q=>?_
  by_cases z:b=e
  .subst z;exact⟨_,a1⟩
  .by_cases z2:b=T0
   .subst z2;obtain⟨sl,r⟩:=a8 b _ z Q3;exact⟨_,r⟩
   .obtain⟨sl,r⟩:=a8 b o z ((other b z2).trans q);exact⟨_,r⟩
end
def kM(C:Addr)(dd:Option Addr)(e:Addr):HO:=.ext λh=>∃ t,h.get? e=some ⟨.ref C,dd,.fields #[.ref t,.none,.none,.none,.bool false,.none],#[]⟩
def JQ(C:Addr)(dd:Option Addr)(e T:Addr):HO:=.ext λh=>∃ vs,h.get? e=some ⟨.ref C,dd,.fields vs,#[]⟩/\vs[1]?=some (.ref T)
def NA(fl:Value)(T:Addr):HO:=.ext λh=>∃ oT ts,h.get? T=some oT/\oT.data=.fields ts/\ts[3]?=some fl
def mY(Hc:Hp)(e T C:Addr)(dd:Option Addr)(fl:Value):Hp:=upd (upd Hc T (NA fl T)) e (JQ C dd e T)
variable{fl:Value}{Hc:Hp}
theorem qk{e:Addr}:mY Hc e T C dd fl e=some (JQ C dd e T):=aA
theorem qv{e:Addr}(n:T≠e):mY Hc e T C dd fl T=some (NA fl T):=by unfold mY;rw[av n,aA]
theorem jA{e b:Addr}(n:b≠e)(n2:b≠T):mY Hc e T C dd fl b=Hc b:=by unfold mY;rw[av n,av n2]
theorem Inv.note{e:Addr}{vs:Array Value}{φ:Heap->Prop}{Q:Unit->Shared->Prop}{E:Value->Shared->Prop}(I:Inv X Oa σ H s)(O6:X.stack=X.env::X.outer)(hf:X.env.frame=some X.env.locals)
  (he:H e=some (.ext φ)) (hx:s.heap.get? e=some ⟨.ref C,dd,.fields vs,#[]⟩) (lies:Lies s.heap e vs to) (hT:∀ T,to=some T->(∃ ψ,H T=some (.ext ψ))/\Hc T=none) (hc:∀ b,b≠e->(∀ T,to=some T->b≠T)->Hc b=H b)
  (h:∀ h' T,Hc T=none->T≠e->Inv X Oa σ (mY Hc e T C dd (rawInt X.env.locals)) { s with heap:=h' }->Q () { s with heap:=h' }) :
  wpAny (model X.prog X.w) X.A (noteFrame (.ref e) X.env) Q E s:=by
 have hl:=I.stack;have QS:=I.ok.frames;have sf:=I.sI;rw[O6] at hl QS sf;refine zk (base:=X.base) QS hl hf hx rfl lies λh' T oT ts a1 a2 a3 a4 a5 a6 a7 a8 a9=>?_;have hTn:H T=none:=I.bJ.fresh a2;have nT:∀ b u,H b=some u->b≠T:=λb u q z=>by rw[z,hTn] at q;cases q
 have QL:∀ b u,H b=some u->(∀ ψ,u≠.ext ψ)->b≠e/\∀ T0,to=some T0->b≠T0:=by
  intro b u q hu;refine⟨λz=>?_,λT0 z w=>?_⟩
  .rw[z,he] at q;exact hu _ (Sm q).symm
  .obtain⟨⟨ψ,q2⟩,_⟩:=hT T0 z;rw[w,q2] at q;exact hu _ (Sm q).symm
 have old:∀ b u,H b=some u->(∀ ψ,u≠.ext ψ)->mY Hc e T C dd (rawInt X.env.locals) b=some u:=λb u q hu=>by
  obtain⟨n1,n2⟩:=QL b u q hu;rw[jA n1 (nT b u q),hc b n1 n2];exact q
 have hcT:Hc T=none:=by
  by_cases z:∃ T0,to=some T0/\T=T0
  .obtain⟨T0,z1,z2⟩:=z;rw[z2];exact(hT T0 z1).2
  .rw[hc T a3 λT0 z1 z2=>z ⟨T0,z1,z2⟩];exact hTn
 have un:∀ b o,s.heap.get? b=some o->H b=none->b≠e/\(∀ T0,to=some T0->b≠T0)/\b≠T:=by
  intro b o q n;refine⟨λz=>?_,λT0 z w=>?_,So (Sh (Sa q) a2)⟩
  .rw[z,he] at n;cases n
  .obtain⟨⟨ψ,q2⟩,_⟩:=hT T0 z;rw[w,q2] at n;cases n
 refine h h' T hcT a3 ?_;have U:Un (wt X.stack) [] H (mY Hc e T C dd (rawInt X.env.locals)) s.heap h':=by
  rw[O6];refine⟨λb o q n nf _=>?_,λb o q n _ _=>?_,λb o q n _=>?_,λb o q _=>a9 b o q,λb xs q=>old b _ q (λ_ z=>nomatch z),λb ob u q=>old b _ q (λ_ z=>nomatch z),λb ps q=>⟨#[],?_⟩⟩
  .obtain⟨n1,n2,_⟩:=un b o q n;exact a7 b o n1 n2 nf q
  .obtain⟨n1,n2,_⟩:=un b o q n;exact a8 b o n1 n2 q
  .obtain⟨n1,n2,n3⟩:=un b o q n;rw[jA n1 n3,hc b n1 n2];exact n
  .rw[old b _ q (λ_ z=>nomatch z)];simp
 have ok:nI X.prog X.w (mY Hc e T C dd (rawInt X.env.locals)) h':=λb u q=>by
  by_cases z:b=e
  .subst z;rw[qk] at q;cases q;refine⟨⟨_,a1,?_⟩,⟨_,a1⟩,λh1 h2 ⟨ws,q1,q2⟩ k=>⟨ws,k _ q1,q2⟩⟩;have Qc:1<vs.size:=by
    cases to with
    | none=>exact(Tr.mp (show vs[1]?=some .none from lies)).1
    | some T0=>exact(Tr.mp lies.1).1
   simp[Qc]
  .by_cases z2:b=T
   .subst z2;rw[qv a3] at q;cases q;exact⟨⟨oT,ts,a4,a5,a6⟩,⟨_,a4⟩,λh1 h2 ⟨o1,t1,q1,q2,q3⟩ k=>⟨o1,t1,k _ q1,q2,q3⟩⟩
   .rw[jA z z2] at q;have z3:∀ T0,to=some T0->b≠T0:=λT0 w w2=>by rw[w2,(hT T0 w).2] at q;cases q
    rw[hc b z z3] at q;have nf:∀ c u',H c=some u'->c ∉ wt (X.env::X.outer):=λc u' q' hm=>by have:=sf c hm;rw[q'] at this;cases this
    refine(I.bJ b u q).lg (λc v Q5 q'=>?_) (λc q'=>old c _ q' (λ_ z=>nomatch z)) λc xs q'=>old c _ q' (λ_ z=>nomatch z);rcases Q5 with rfl | Q5
    .exact a7 c v z z3 (nf c u q) q'
    .obtain⟨n1,n2⟩:=QL c _ Q5 (λ_ z=>nomatch z);exact a7 c v n1 n2 (nf c _ Q5) q'
 exact I.call (ch:=[]) U ok I.bare (λb z=>absurd z (by simp))
theorem Inv.zZ{e:Addr}(I:Inv X Oa σ (mY Hc e T C dd fl) s)(n:T≠e):∃ vs oT ts,s.heap.get? e=some ⟨.ref C,dd,.fields vs,#[]⟩/\vs[1]?=some (.ref T)/\s.heap.get? T=some oT/\oT.data=.fields ts/\ts[3]?=some fl:=by
 obtain⟨vs,h1,h2⟩:=(I.bJ e _ qk).1;obtain⟨oT,ts,q⟩:=(I.bJ T _ (qv n)).1;exact⟨vs,oT,ts,h1,h2,q⟩
theorem Inv.J4{e:Addr}{Q:Unit->Shared->Prop}{E:Value->Shared->Prop}(I:Inv X Oa σ (mY Hc e T C dd fl) s)(hfl:fl=.none\/fl=rawInt X.env.locals)(n:T≠e)(hcT:Hc T=none)(O6:X.stack=X.env::X.outer)(hf:X.env.frame=some X.env.locals)
  (h:∀ h' T,Hc T=none->T≠e->Inv X Oa σ (mY Hc e T C dd (rawInt X.env.locals)) { s with heap:=h' }->Q () { s with heap:=h' }) :
  wpAny (model X.prog X.w) X.A (noteFrame (.ref e) X.env) Q E s:=by
 obtain⟨vs,oT,ts,hx,h1,hT,hd,h3⟩:=I.zZ n;rcases hfl with rfl | rfl
 .refine I.note (Hc:=Hc) (to:=some T) O6 hf qk hx ⟨h1,n,oT,ts,hT,hd,h3⟩ (λT0 z=>?_) (λb n1 n2=>(jA n1 (n2 T rfl)).symm) h;cases z;exact⟨⟨_,qv n⟩,hcT⟩
 .unfold noteFrame;simp only[hf];refine R4 (SH hx rfl h1 ?_);rw[if_pos (show (Sd T != SM)=true from by simp)];refine R4 (SH hT hd h3 ?_);rw[if_pos (show (rawInt X.env.locals==rawInt X.env.locals)=true from by simp)];exact R9 (h s.heap T hcT n I)
theorem Inv.KQ{e:Addr}{Q:Unit->Shared->Prop}{E:Value->Shared->Prop}(I:Inv X Oa σ H s)(he:H e=some (kM C dd e))(O6:X.stack=X.env::X.outer)(hf:X.env.frame=some X.env.locals)
  (h:∀ h' T,upd H e (gU C dd e) T=none->T≠e->Inv X Oa σ (mY (upd H e (gU C dd e)) e T C dd (rawInt X.env.locals)) { s with heap:=h' }->Q () { s with heap:=h' }) :
  wpAny (model X.prog X.w) X.A (noteFrame (.ref e) X.env) Q E s:=by
 obtain⟨t,hx⟩:=(I.bJ e _ he).1;exact I.note (Hc:=upd H e (gU C dd e)) (to:=none) O6 hf he hx rfl (λ_ z=>by cases z) (λb n1 _=>av n1) h
theorem Inv.pI{e:Addr}{fr:Option Addr}{Q:Unit->Shared->Prop}{E:Value->Shared->Prop}(I:Inv X Oa σ (mY Hc e T C dd fl) s)(n:T≠e)
  (h:∀ h',Inv X Oa σ (mY Hc e T C dd (fr.elim .none λf=>rawInt f)) { s with heap:=h' }->Q () { s with heap:=h' }) :
  wpAny (model X.prog X.w) X.A (setFlight (.ref e) fr) Q E s:=by
 obtain⟨vs,oT,ts,hx,h1,hT,hd,h3⟩:=I.zZ n;unfold setFlight;refine R4 (SH hx rfl h1 ?_);rw[if_pos (show (Sd T != SM)=true from by simp)];have Qc:3<ts.size:=(Tr.mp h3).1;refine Vy hT hd Qc (h _ ?_);have other:∀ b,b≠T->(s.heap.update T (Ug (·.setIfInBounds 3 (fr.elim SM λf=>rawInt f)))).get? b=s.heap.get? b:=λb hb=>S9 _ _ (T7 hb);have Q3:=TZ (Ug (·.setIfInBounds 3 (fr.elim SM λf=>rawInt f))) hT (US (Uj hd _));have nT:∀ b,mY Hc e T C dd fl b=none->b≠T:=λb q z=>by rw[z,qv n] at q;cases q
 have same:∀ b,b≠T->mY Hc e T C dd (fr.elim .none λf=>rawInt f) b=mY Hc e T C dd fl b:=λb z=>by
  by_cases w:b=e
  .subst w;rw[qk,qk]
  .rw[jA w z,jA w z]
 have ne:∀ b u,mY Hc e T C dd fl b=some u->(∀ ψ,u≠.ext ψ)->b≠T:=λb u q hu z=>by rw[z,qv n] at q;exact hu _ (Sm q).symm
 refine I.un (t':=s.toks) ⟨λb o q z _ _=>(other b (nT b z)).trans q,λb o q z _ _=>⟨o.slots,(other b (nT b z)).trans q⟩,λb o q z _=>by rw[same b (nT b z)];exact z,λb o q _=>?_,λb xs q=>?_,λb ob u q=>?_,λb ps q=>⟨#[],?_⟩⟩ λb u q=>?_
 .by_cases z:b=T
  .subst z;exact⟨_,Q3⟩
  .exact⟨o,(other b z).trans q⟩
 .rw[same b (ne b _ q λ_ z=>nomatch z)];exact q
 .rw[same b (ne b _ q λ_ z=>nomatch z)];exact q
 .rw[same b (ne b _ q λ_ z=>nomatch z),q];simp
 .by_cases z:b=T
  .subst z;rw[qv n] at q;cases q;refine⟨⟨_,_,Q3,Uj hd _,?_⟩,⟨_,Q3⟩,λh1 h2 ⟨o1,t1,q1,q2,q3⟩ k=>⟨o1,t1,k _ q1,q2,q3⟩⟩;simp[Qc]
  .rw[same b z] at q;refine(I.bJ b u q).lg (λc v hc q'=>(other c ?_).trans q') (λc q'=>?_) λc xs q'=>?_
   .rcases hc with rfl | hc
    .exact z
    .exact ne c _ hc λ_ z=>nomatch z
   .rw[same c (ne c _ q' λ_ z=>nomatch z)];exact q'
   .rw[same c (ne c _ q' λ_ z=>nomatch z)];exact q'
def bI(P:Program)(w:World):Gg:=λouter H s E e s'=>∃ (ea T C:Addr) (dd:Option Addr) (Hc:Hp),e=.ref ea/\s'.os=s.os/\AllBare s'.gens/\Un (wt outer) [] H (mY Hc ea T C dd .none) s.heap s'.heap/\nI P w (mY Hc ea T C dd .none) s'.heap ∧
 Hc ea=some (gU C dd ea)/\Hc T=none/\T≠ea/\E (.ref ea) none Hc
def Zx (X : Cx) (E : St -> XK) (e : Value) (s : Shared) : Prop := ∃ (ea C : Addr) (dd : Option Addr) (Oa : List (Addr × Obj)) (σ : St), e = .ref ea ∧
  ((∃ H, Inv X Oa σ H s /\ H ea = some (kM C dd ea) /\ E σ (.ref ea) none (upd H ea (gU C dd ea))) ∨
   (∃ Hc T fl, Inv X Oa σ (mY Hc ea T C dd fl) s /\ (fl = .none \/ fl = rawInt X.env.locals) /\ Hc ea = some (gU C dd ea) /\ Hc T = none /\ T ≠ ea /\ E σ (.ref ea) none Hc))
variable{E:St->XK}
theorem Zx.note{e:Value}{Q:Unit->Shared->Prop}{F:Value->Shared->Prop}(z:Zx X E e s)(O6:X.stack=X.env::X.outer)(hf:X.env.frame=some X.env.locals)
  (h:∀ s' ea C dd Oa σ Hc T,e=.ref ea->Inv X Oa σ (mY Hc ea T C dd (rawInt X.env.locals)) s'->Hc ea=some (gU C dd ea)->Hc T=none->T≠ea->E σ (.ref ea) none Hc->Q () s') :
  wpAny (model X.prog X.w) X.A (noteFrame e X.env) Q F s:=by
 obtain⟨ea,C,dd,Oa,σ,rfl,⟨H,I,h1,h2⟩ | ⟨Hc,T,fl,I,h1,h2,h3,h4,h5⟩⟩:=z
 .exact I.KQ h1 O6 hf λh' T q1 q2 I2=>h _ ea C dd Oa σ _ T rfl I2 aA q1 q2 h2
 .exact I.J4 h1 h4 h3 O6 hf λh' T q1 q2 I2=>h _ ea C dd Oa σ _ T rfl I2 h2 q1 q2 h5
theorem Zx.G_{E:XK}{e:Value}{F:Value->Shared->Prop}(z:Zx X (λ_=>E) e s)(O6:X.stack=X.env::X.outer)(hf:X.env.frame=some X.env.locals)(hex:X.ex=[]) :
  wpAny (model X.prog X.w) X.A (leaving X.env e) (λ_ s'=>bI X.prog X.w X.outer X.H₀ X.s₀ E e s') F s:=by
 unfold leaving;refine R4 (z.note O6 hf λs' ea C dd Oa σ Hc T he I h1 h2 h3 h4=>?_);subst he;refine I.pI h3 λh' I2=>⟨ea,T,C,dd,Hc,rfl,I2.os,I2.bare,?_,I2.bJ,h1,h2,h3,h4⟩
 have:=I2.base;rw[hex] at this;exact this
theorem Zx.own(O6:X.stack=X.env::X.outer)(hf:X.env.frame=some X.env.locals):PassesOwn (model X.prog X.w) X.A X.env (Zx X E):=by
 intro e s z;refine z.note O6 hf λs' ea C dd Oa σ Hc T he I h1 h2 h3 h4=>?_;subst he;obtain⟨vs,oT,ts,hx,q1,_⟩:=I.zZ h3;show wpAny _ _ _ _ _ _;refine R4 (SH hx rfl q1 ?_);rw[if_neg (show ¬ ((Sd T==SM)=true) from by simp)];rw[hf];refine I.pI h3 λh' I2=>⟨ea,C,dd,Oa,σ,rfl,.inr ⟨Hc,T,_,I2,.inr rfl,h1,h2,h3,h4⟩⟩
structure dU (X:Cx) (E:St->XK):Prop where
 pass:∀ (Oa:List (Addr×Obj)) (σ:St) (H:Hp) (s:Shared) (e:Value) (s':Shared),Inv X Oa σ H s->bI X.prog X.w X.stack H s (E σ) e s'->X.xe e s'
 new:∀ (Oa:List (Addr×Obj)) (σ:St) (H:Hp) (s:Shared) (e C:Addr) (dd:Option Addr),Inv X Oa σ H s->H e=some (kM C dd e)->E σ (.ref e) none (upd H e (gU C dd e))->X.xe (.ref e) s
 own:PassesOwn (model X.prog X.w) X.A X.env X.xe
abbrev Cx.out(X:Cx)(E:St->XK):Cx:=X.qz (Zx X E)
theorem Br(O6:X.stack=X.env::X.outer)(hf:X.env.frame=some X.env.locals):dU (X.out E) E where
 pass:=by
  intro Oa σ H s e s' I h;obtain⟨ea,T,C,dd,Hc,rfl,os,bare,un,bJ,h1,h2,h3,hE⟩:=h;have I':=I.eD.BN (ch:=[]) os un bJ bare (λb z=>absurd z (by simp));exact⟨ea,C,dd,Oa,σ,rfl,.inr ⟨Hc,T,.none,I',.inl rfl,h1,h2,h3,hE⟩⟩
 new:=λOa σ H s e C dd I he hE=>⟨e,C,dd,Oa,σ,rfl,.inl ⟨H,I.eD,he,hE⟩⟩
 own:=Zx.own O6 hf
variable{N:List Str}{QJ:Array (Option Value)}{an od:Option Addr}{body:List Stmt}{params:Arguments}
theorem wC{K:R5}{dV kV doc pm Ox ct oc:Value}(lk:K.lookup f=some ⟨oc,od,.func (Tg name qual params body scope dV kV doc pm an Ox ct),QJ⟩)(Pn:Ub K Ox qual=true)(S:bj N ps scope)
  (len:∀ vs H Q E,sp vs H Q E->vs.length=ps.length)
  (QM:∀ (A:Around) (outer:List Env) (s:Shared) (H:Hp) (vs:List V) (Q:VK) (E:XK),ck k (A.deeper (envOfC qual scope s.heap.objs.size f Ox))->sp vs H Q E ->
   ∃ t,kO ((lB (bI P w) P w K mg base N qual scope f Ox A outer s H E).out λ_=>E) body t/\t { nx:=λ_ H'=>Q .bG H',rt:=Q } (start N vs) H) :
  aL P w K mg base (bI P w) (k+1) f (Tg name qual params body scope dV kV doc pm an Ox ct) ps sp:=by
 refine JU lk Pn S len λA outer s H vs Q E hr hs=>?_;obtain⟨t,h1,h2⟩:=QM A outer s H vs Q E hr hs;refine⟨t,λOa s1 σ H1 D I q=>?_,h2⟩;refine Tj (h1 Oa s1 σ H1 D (I.qz _) q) (λf s' z=>z.eD) λe s' z=>?_;exact z.G_ rfl rfl rfl
variable{pos':Pos}
section
open PySem.Builtin.ObjectAttr (storeInOwnDict storeTaker? setByDescriptor)
theorem sS{e t:Addr}(he:h.get? e=some ⟨.ref C,dd,.fields #[.ref t,.none,.none,.none,.bool false,.none],#[]⟩):bZ P w H h e (kM C dd e) :=
 ⟨⟨t,he⟩,⟨_,he⟩,λ_ _ ⟨t,q⟩ k=>⟨t,k _ q⟩⟩
section
variable{p:Pos}
def Jz(C:Addr)(t:TA):TE:=fun σ H Q=>t σ H λvs H1=>vs.length<=sizeLine/\∀ a,H1 a=none->Q (.ref a) (upd H1 a (kM C none a))
theorem DZ(hc:VO X.K C eX "ValueError.__new__" = true)(kp:SN X.K (.ref C)=true)(hg:Gl X x)(hm:X.mg x=some (.ref C))
  (ha:PA X (e::es) t) (Po:autoParam ((x==("__debug__" : Str))=false) aD._auto_1) (he:autoParam (starEach (e::es) X.env=(false,eval e X.env)::starEach es X.env) aR._auto_1) (Oy:autoParam ((backTo pos (starEach es X.env)).any (·.1)=false) aR._auto_1) :
  PE X (.Call (.Name x p) (e::es) [] pos) (Jz C t):=by
 intro Oa s σ H Q I h;refine T5 (jt I hg hm ?_ Po);refine T6 (h₀:=X.base) I.ok.mod.Dw kp (cU (ha pos Oa s σ H _ I h) λus s1 ⟨vs,H1,I1,r,hl,q⟩=>⟨I1.hU,?_⟩) he Oy;obtain⟨bm,N,nm,qn,bs,Qr,sn,sub,ab,col,dd,k0,k1,k2,k3,k5,mN,hC,hN,QD,T⟩:=Eg I1.hU hc;obtain⟨hp,g,d,tk,os⟩:=s1;refine wpAny_call_exc_subT Wo T hC hN QD (λh' a M=>?_) (by show us.length<=sizeLine;rw[<- r.length];exact hl);obtain⟨t',e1,_,_⟩:=M.there;have I2:Inv X Oa σ (upd H1 a (kM C none a)) ⟨h',g,d,tk,os⟩:=I1.FT (t':=tk) M.keeps M.new (sS e1);have hn:H1 a=none:=I1.tq M.new;exact⟨.ref a,_,I2,rfl,q a hn⟩
def Gh(C:Addr)(sp:Sp)(t:TA):TE:=fun σ H Q=>t σ H λvs H1=>vs.length<=sizeLine/\∀ a,H1 a=none->sp (.ref a::vs) (upd H1 a (kM C none a)) (λv H2=>v=.bG/\Q (.ref a) H2) E0
theorem AA(hc:qr X.K C "ValueError.__new__" f=true)(hf:UL X.K (.ref f)=true)(kp:SN X.K (.ref C)=true)(F:aL X.prog X.w X.K X.mg X.base (bI X.prog X.w) k f fd ps sp)(hr:ck (k+1) X.A)(hb:Binds X.K fd ps [])(hg:Gl X x)(hm:X.mg x=some (.ref C))
  (ha:PA X (e::es) t) (Po:autoParam ((x==("__debug__" : Str))=false) aD._auto_1) (he:autoParam (starEach (e::es) X.env=(false,eval e X.env)::starEach es X.env) aR._auto_1) (Oy:autoParam ((backTo pos (starEach es X.env)).any (·.1)=false) aR._auto_1) :
  PE X (.Call (.Name x p) (e::es) [] pos) (Gh C sp t):=by
 intro Oa s σ H Q I h;refine T5 (jt I hg hm ?_ Po);refine T6 (h₀:=X.base) I.ok.mod.Dw kp (cU (ha pos Oa s σ H _ I h) λus s1 ⟨vs,H1,I1,r,hl,q⟩=>⟨I1.hU,?_⟩) he Oy;have X1:=I1.hU;obtain⟨bm,N,nm,qn,bs,Qr,sn,sub,ab,col,dd,k0,k1,k2,k3,k5,mN,hC,hN,QD,T⟩:=CO X1 hc;obtain⟨hp,g,d,tk,os⟩:=s1;have f1:=tc_lookup;have f2:=tc_bind (.ref C);have hT:(⟨hp,g,d,tk,os⟩:Shared).TypeIs (.ref C) "type" := ⟨_,hC,rfl⟩
 refine VI (codeAny_of_tree ?_);show wpAny _ _ (callAny (.ref C) _) _ _ _
 repeat (any_goals (first | assumption | with_reducible refine Wy hC ?_ | wp_step))
 refine⟨rfl,?_⟩;refine codeAny_call_builtin_at (XM _ (by decide +kernel)) entry_typeCall (wpAny_check_type_call_sub hC (p8 Wo T hC hN QD
  (λh' kk self=>YG (λb o z=>kk b o (X1 b o z)) self (beq_iff_eq.mp hf)) (λh' kk ht hx hz=>?_) (by show us.length<=sizeLine;rw[<- r.length];exact hl)))
 have I2:Inv X Oa σ (upd H1 (hp.objs.size+1) (kM C none (hp.objs.size+1))) ⟨h',g,d,tk,os⟩:=I1.FT (t':=tk) kk (UT (VS _)) (sS hx);have hq:=q (hp.objs.size+1) (I1.tq (UT (VS _)));have r2:Vals (V.ref (hp.objs.size+1)::vs) (Sd (hp.objs.size+1)::us):=.cons rfl r;have hlen:(Sd (hp.objs.size+1)::us++[]).length=ps.length:=by
  rw[SK,<- r2.length];exact F.len _ _ _ _ hq
 refine VI (Vw (F.run _ X.stack _ _ ⟨Sd (hp.objs.size+1)::us,[]⟩ (Sd (hp.objs.size+1)::us) _ _ E0 (hr.make C us []) (I2.lS.make C us []) (by have:=hb _ (Sd (hp.objs.size+1)::us) I2.hU hlen;rwa [SK] at this) r2 hq) λr s' QU=>?_);cases r with
 | error e =>
  obtain⟨_,_,_,_,_,_,_,_,_,_,_,_,_,z⟩:=QU;exact z.elim
 | ok fl =>
  cases fl with
  | ret u =>
   obtain⟨v,H',I3,rv,ev,q3⟩:=I2.after QU;subst ev;exact⟨rv,⟨V.ref (hp.objs.size+1),H',I3,rfl,q3⟩⟩
  | next=>exact S8 QU
  | brk=>exact S8 QU
  | cont=>exact S8 QU
def Ge(K:R5)(ta tv:TE)(f:Str):TS:=λD σ H=>tv σ H λy H1=>ta σ H1 λx H2=>∃ a C,x=.ref a/\H2 a=some (kM C none a)/\dG K C/\((Uy K C).any λcd=>fu cd.mro)=true/\bf K C f ∧
 ∀ d,H2 d=none->d≠a->D.nx σ (upd (upd H2 d (.xd [(f,y)])) a (kM C (some d) a))
theorem AI{o value:Expr}{tv:TE}{n:Str}(ha:PE X o ta)(hv:PE X value tv)(hs:swapsWith value (some (.Attribute o n pos')) pos.line X.env=pure false):PS X (.Assign [.Attribute o n pos'] value pos) (Ge X.K ta tv n):=by
 intro Oa s σ H D I h;refine VB (cU (hv Oa s σ H _ I h) λu s1 ⟨y,H1,I1,ry,q⟩=>cU (ha Oa s1 σ H1 _ I1 q) λov s2 ⟨x,H2,I2,rx,a,C,ex,ea,c,po,na,q2⟩=>?_) hs;subst ex;obtain rfl:ov=Sd a:=rx;obtain⟨tt,hx⟩:=(I2.bJ a _ ea).1;refine Df po c I2.hU hx na.FA λh' tk d e1 e2 e3 e4=>?_;have hd:H2 d=none:=I2.tq e2;have nda:d≠a:=λz=>by rw[z,ea] at hd;cases hd
 refine⟨σ,_,?_,q2 d hd nda⟩;have up:∀ b,b≠a->b≠d->upd (upd H2 d (.xd [(n,y)])) a (kM C (some d) a) b=H2 b:=λb h1 h2=>by rw[av h1,av h2]
 have nd:∀ b u,s2.heap.get? b=some u->b≠d:=λb u e z=>by rw[z,e2] at e;cases e
 have nH:∀ b u,H2 b=some u->b≠d:=λb u e z=>by rw[z,hd] at e;cases e
 have nE:∀ b u,H2 b=some u->(∀ C dd,u≠kM C dd a)->b≠a:=λb u e hu z=>by
  rw[z,ea] at e;exact hu C none (Sm e).symm
 refine I2.un (t':=tk) ⟨λb u e z _ _=>e4 b u (λw=>by rw[w,ea] at z;cases z) e,λb u e z _ _=>⟨u.slots,e4 b u (λw=>by rw[w,ea] at z;cases z) e⟩,λb u e z _=>?_,λb u e _=>?_,λb xs e=>?_,λb ob u e=>?_,λb ps e=>?_⟩ λb u e=>?_
 .rw[up b (λw=>by rw[w,ea] at z;cases z) (nd b u e)];exact z
 .by_cases w:b=a
  .rw[w];exact⟨_,e1⟩
  .exact⟨u,e4 b u w e⟩
 .rw[up b (nE b _ e λ_ _ z=>by cases z) (nH b _ e)];exact e
 .rw[up b (nE b _ e λ_ _ z=>by cases z) (nH b _ e)];exact e
 .exact⟨#[],by rw[up b (nE b _ e λ_ _ z=>by cases z) (nH b _ e),e];simp⟩
 .by_cases w:b=a
  .subst w;rw[aA] at e;cases e;exact sS e1
  .rw[av w] at e
   by_cases w2:b=d
   .subst w2;rw[aA] at e;cases e;refine⟨_,e3,λg=>?_⟩;show lO (UJ g [(n,y)]) (if g=n then some _ else none);rw[SY]
    by_cases z:g=n
    .rw[if_pos z,show (g==n)=true from by simp[z]];exact ry
    .rw[if_neg z,show (g==n)=false from by simp[z]];exact Ue
   .rw[av w2] at e;refine(I2.bJ b u e).lg (λc v hc z=>e4 c v ?_ z) (λc z=>?_) λc ys z=>?_
    .rcases hc with z' | z'
     .rw[z'];exact w
     .exact nE c _ z' λ_ _ z=>by cases z
    .rw[up c (nE c _ z λ_ _ z=>by cases z) (nH c _ z)];exact z
    .rw[up c (nE c _ z λ_ _ z=>by cases z) (nH c _ z)];exact z
end
end
section
variable{M:Model}{E:Value->Shared->Prop}
theorem BD{e:Addr}{o:Obj}(hx:s.heap.get? e=some o)(h:Q o.cls s):wpAny M A (typeOf (.ref e)) Q E s:=by
 unfold typeOf;exact R4 (UE hx (R9 h))
theorem x6{e:Addr}{o:Obj}{vs:Array Value}{Q:Bool->Shared->Prop}(hx:s.heap.get? e=some o)(hd:o.data=.fields vs)(h:Q false s):wpAny M A (isType (.ref e)) Q E s:=by
 unfold isType loadHead;refine R4 (UE hx (R9 ?_));rw[hd];exact h
end
def HU(K:R5)(E:St->XK)(te:TE):TS:=λD σ H=>te σ H λv H1=>∃ e C dd,v=.ref e/\H1 e=some (kM C dd e)/\dG K C/\UW K (.ref C)=some (.type "type")/\E σ (.ref e) none (upd H1 e (gU C dd e))
theorem uX{exc:Expr}(O:dU X E)(Oj:X.calm=true)(he:PE X exc te):PS X (.Raise (some exc) none pos) (HU X.K E te):=by
 intro Oa s σ H D I h;rw[arm_exec_Raise];refine R4 (UR ?_);unfold raiseStmt;dsimp only [evalOpt,Zd];refine R4 (R4 (cU (he Oa s σ H _ I h) λu s1 hq=>R4 (UR (R9 ?_))));obtain⟨v,H1,I1,rv,e,C,dd,ev,hN,c,ht,hE⟩:=hq;subst ev;obtain rfl:u=Sd e:=rv;obtain⟨t,hx⟩:=(I1.bJ e _ hN).1;have X1:=I1.hU;refine R4 (R9 ?_);refine R4 (T9 ?_);unfold excFromValue isExcClass;refine R4 (R4 (x6 hx rfl ?_));refine R9 ?_;refine R4 ?_;unfold isInstance;refine R4 (BD hx ((V9 X1 c.mb).here ?_));refine R9 ?_;dsimp only;refine R4 (x6 hx rfl ?_);unfold raisedInstance;refine R4 (R4 (BD hx (R4 ((Xj X1 ht).here ?_))));refine R9 ?_;unfold setFlight;refine R4 (R4 (SH hx rfl (x:=.none) rfl ?_));refine R9 ?_;exact wpAny_raiseNew_none (I1.ok.hd Oj) (O.new Oa σ H1 s1 e C dd I1 hN hE)
inductive PV where
 | bG | bl (b:Bool) | int (i:Int) | str (x:Str)
 | tup (xs:List PV) | lst (xs:List PV)
 | gc (xs:List PV)
 | obj (C:Addr) (fs:List (Str×PV))
 | exc (C:Addr) (fo:Option (List (Str×PV)))
 | emp
 | wL (OV:List (List Int×PV))
 | fn (a:Addr)
 deriving Inhabited
mutual
inductive Rep (H:Hp):PV->V->Prop where
 | bG:Rep H .bG .bG
 | bl (b:Bool):Rep H (.bl b) (.bl b)
 | int (i:Int):Rep H (.int i) (.int i)
 | str (x:Str):Rep H (.str x) (.str x)
 | tup {a:Addr} {xs:List PV} {vs:List V}:H a=some (.tup vs)->aX H xs vs->Rep H (.tup xs) (.ref a)
 | lst {a:Addr} {xs:List PV} {vs:List V}:H a=some (.lst vs)->aX H xs vs->Rep H (.lst xs) (.ref a)
 | gc {a:Addr} {o:Obj} {xs:List PV} {vs:List V}:H a=some (.jM o (.lst vs))->aX H xs vs->Rep H (.gc xs) (.ref a)
 | obj {a C dx:Addr} {fs:List (Str×PV)} {vs:List (Str×V)}:H a=some (.ins C dx vs)->e8 H fs vs->Rep H (.obj C fs) (.ref a)
 | pY {a C:Addr}:H a=some (gU C none a)->Rep H (.exc C none) (.ref a)
 | oK {a C d:Addr} {fs:List (Str×PV)} {vs:List (Str×V)}:H a=some (gU C (some d) a)->H d=some (.xd vs)->e8 H fs vs->Rep H (.exc C (some fs)) (.ref a)
 | emp {a:Addr}:H a=some (.dK [])->Rep H .emp (.ref a)
 | wL {a:Addr} {o:Obj} {OV:List (List Int×PV)} {us:List (List Key×V)}:H a=some (.jM o (.dT us))->uY H OV us->Rep H (.wL OV) (.ref a)
 | fn (a:Addr):Rep H (.fn a) (.ref a)
inductive aX (H:Hp):List PV->List V->Prop where
 | nil:aX H [] []
 | cons {p:PV} {v:V} {ps:List PV} {vs:List V}:Rep H p v->aX H ps vs->aX H (p::ps) (v::vs)
inductive e8 (H:Hp):List (Str×PV)->List (Str×V)->Prop where
 | nil:e8 H [] []
 | cons {n:Str} {p:PV} {v:V} {ps:List (Str×PV)} {vs:List (Str×V)}:Rep H p v->e8 H ps vs->e8 H ((n,p)::ps) ((n,v)::vs)
inductive uY (H:Hp):List (List Int×PV)->List (List Key×V)->Prop where
 | nil:uY H [] []
 | cons {k:List Int} {p:PV} {v:V} {ps:List (List Int×PV)} {vs:List (List Key×V)}:Rep H p v->uY H ps vs->uY H ((k,p)::ps) ((k.map Wu,v)::vs)
end
mutual
theorem Rep.mono{H H':Hp}(s:bB H H'):∀ {p:PV} {v:V},Rep H p v->Rep H' p v
 | _,_,.bG=>.bG
 | _,_,.bl b=>.bl b
 | _,_,.int i=>.int i
 | _,_,.str x=>.str x
 | _,_,.tup h r=>.tup (s _ _ h) (r.mono s)
 | _,_,.lst h r=>.lst (s _ _ h) (r.mono s)
 | _,_,.gc h r=>.gc (s _ _ h) (r.mono s)
 | _,_,.obj h r=>.obj (s _ _ h) (r.mono s)
 | _,_,.pY h=>.pY (s _ _ h)
 | _,_,.oK h h2 r=>.oK (s _ _ h) (s _ _ h2) (r.mono s)
 | _,_,.emp h=>.emp (s _ _ h)
 | _,_,.wL h r=>.wL (s _ _ h) (r.mono s)
 | _,_,.fn a=>.fn a
theorem aX.mono{H H':Hp}(s:bB H H'):∀ {p:List PV} {v:List V},aX H p v->aX H' p v
 | _,_,.nil=>.nil
 | _,_,.cons h r=>.cons (h.mono s) (r.mono s)
theorem e8.mono{H H':Hp}(s:bB H H'):∀ {p:List (Str×PV)} {v:List (Str×V)},e8 H p v->e8 H' p v
 | _,_,.nil=>.nil
 | _,_,.cons h r=>.cons (h.mono s) (r.mono s)
theorem uY.mono{H H':Hp}(s:bB H H'):∀ {p:List (List Int×PV)} {v:List (List Key×V)},uY H p v->uY H' p v
 | _,_,.nil=>.nil
 | _,_,.cons h r=>.cons (h.mono s) (r.mono s)
end
theorem aX.length{H:Hp}:∀ {p:List PV} {v:List V},aX H p v->p.length=v.length
 | _,_,.nil=>rfl
 | _,_,.cons _ r=>by simp[r.length]
theorem aX.get{H:Hp}:∀ {p:List PV} {v:List V} {i:Nat} {x:PV},aX H p v->p[i]?=some x->∃ u,v[i]?=some u/\Rep H x u
 | _,_,_,_,.nil,e=>by simp at e
 | _,_,0,_,.cons h _,e=>by simp at e;subst e;exact⟨_,rfl,h⟩
 | _,_,i+1,x,.cons _ r,e=>by
  obtain⟨u,h1,h2⟩:=aX.get (i:=i) (x:=x) r (by simpa using e);exact⟨u,by simpa using h1,h2⟩
theorem aX.append{H:Hp}:∀ {p q:List PV} {v u:List V},aX H p v->aX H q u->aX H (p++q) (v++u)
 | _,_,_,_,.nil,s=>s
 | _,_,_,_,.cons h r,s=>.cons h (r.append s)
theorem aX.take{H:Hp}:∀ {p:List PV} {v:List V} (n:Nat),aX H p v->aX H (p.take n) (v.take n)
 | _,_,0,_=>.nil
 | _,_,_+1,.nil=>.nil
 | _,_,n+1,.cons h r=>.cons h (r.take n)
theorem aX.drop{H:Hp}:∀ {p:List PV} {v:List V} (n:Nat),aX H p v->aX H (p.drop n) (v.drop n)
 | _,_,0,r=>r
 | _,_,_+1,.nil=>.nil
 | _,_,n+1,.cons _ r=>r.drop n
theorem aX.set{H:Hp}{x:PV}{u:V}(h:Rep H x u):∀ {p:List PV} {v:List V} (i:Nat),aX H p v->aX H (p.set i x) (v.set i u)
 | _,_,_,.nil=>.nil
 | _,_,0,.cons _ r=>.cons h r
 | _,_,i+1,.cons q r=>.cons q (r.set h i)
theorem aX.snoc{p:List PV}{v:List V}{x:PV}{u:V}(r:aX H p v)(h:Rep H x u):aX H (p++[x]) (v++[u]):=r.append (.cons h .nil)
theorem e8.look{H:Hp}{f:Str}:∀ {p:List (Str×PV)} {v:List (Str×V)} {x:PV},e8 H p v->p.lookup f=some x->∃ u,v.lookup f=some u/\Rep H x u
 | _,_,_,.nil,e=>by simp at e
 | (n,_)::_,_,x,.cons h r,e=>by
  rw[SY] at e ⊢;cases q:f==n with
  | true=>rw[q] at e;cases e;exact⟨_,rfl,h⟩
  | false=>rw[q] at e;exact r.look e
theorem e8.none{H:Hp}{f:Str}:∀ {p:List (Str×PV)} {v:List (Str×V)},e8 H p v->p.lookup f=none->v.lookup f=none
 | _,_,.nil,_=>rfl
 | (n,_)::_,_,.cons h r,e=>by
  rw[SY] at e ⊢;cases q:f==n with
  | true=>rw[q] at e;cases e
  | false=>rw[q] at e;exact r.none e
theorem aX.ints{H:Hp}:∀ {ns:List Int} {v:List V},aX H (ns.map PV.int) v->v=ns.map V.int
 | [],_,.nil=>rfl
 | _::_,_,.cons (.int i) r=>by rw[r.ints];rfl
theorem aX.Kh{H:Hp}:∀ {ns:List Bool} {v:List V},aX H (ns.map PV.bl) v->v=ns.map V.bl
 | [],_,.nil=>rfl
 | _::_,_,.cons (.bl i) r=>by rw[r.Kh];rfl
structure bF (Hs H Of H':Hp):Prop where
 st:bB Hs Of
 al:bB H H'
 sub:bB Of H'
 nw:∀ a o,Hs a=none->H a=some o->(∀ ws,o≠.tup ws)->Of a=none
variable{Hs:Hp}
theorem bF.refl(s:bB Hs H):bF Hs H Hs H:=⟨λ_ _ e=>e,λ_ _ e=>e,s,λ_ _ e _ _=>e⟩
variable{Ov:Hp}
theorem bF.trans{H1 Oo H2:Hp}(a:bF Hs H Ov H1)(b:bF Ov H1 Oo H2):bF Hs H Oo H2 :=
 ⟨λc o e=>b.st c o (a.st c o e),λc o e=>b.al c o (a.al c o e),b.sub,λc o e q t=>b.nw c o (a.nw c o e q t) (a.al c o q) t⟩
theorem bF.new{p:Addr}(s:bB Hs H)(n:H p=none):bF Hs H (upd Hs p o) (upd H p o):=by
 have ne:∀ c u,H c=some u->c≠p:=λc u e z=>by rw[z,n] at e;cases e
 refine⟨λc u e=>?_,λc u e=>?_,λc u e=>?_,λc u e q _=>?_⟩
 .rw[av (ne c u (s c u e))];exact e
 .rw[av (ne c u e)];exact e
 .by_cases z:c=p
  .subst z;rw[aA] at e ⊢;exact e
  .rw[av z] at e ⊢;exact s c u e
 .rw[av (ne c u q)];exact e
inductive SV where
 | sh (p:PV)
 | ow (xs:List PV)
 | bd (a C:Addr) (fs:List (Str×PV))
 | dw (OV:List (List Int×PV))
abbrev af:=List (Option SV)
def gX:SV->Bool
 | .sh _=>false
 | _=>true
def Ho(H₀ Hs H:Hp):SV->V->Prop
 | .sh p,v=>Rep Hs p v
 | .ow xs,v=>∃ a vs,v=.ref a/\H a=some (.lst vs)/\Hs a=none/\H₀ a=none/\aX Hs xs vs
 | .bd a C fs,v=>∃ dx vs,v=.ref a/\H a=some (.ins C dx vs)/\Hs a=none/\H₀ a=none/\e8 Hs fs vs
 | .dw OV,v=>∃ a us,v=.ref a/\H a=some (.dT us)/\Hs a=none/\H₀ a=none/\uY Hs OV us
structure SR (B H₀ Hs H:Hp) (σ:St) (env:af):Prop where
 gr:bF B H₀ Hs H
 len:σ.length=env.length
 at_:∀ (i:Nat) (x:SV),env[i]?=some (some x)->∃ v,σ[i]?=some (some v)/\Ho H₀ Hs H x v
 ap:∀ (i j:Nat) (x y:SV) (a:Addr),i≠j->env[i]?=some (some x)->env[j]?=some (some y)->gX x=true->gX y=true->σ[i]?=some (some (.ref a))->σ[j]?≠some (some (.ref a))
variable{H₀:Hp}
variable{j:Nat}
section
variable{B B' H₀' Of H':Hp}{σ':St}{env Oc:af}{x:Option SV}{v:Option V}
theorem SR.sh(r:SR B H₀ Hs H σ env)(i:Nat)(p:PV)(e:env[i]?=some (some (.sh p))):∃ v,σ[i]?=some (some v)/\Rep Hs p v:=r.at_ i _ e
theorem SR.ow(r:SR B H₀ Hs H σ env)(i:Nat)(xs:List PV)(e:env[i]?=some (some (.ow xs))):∃ a vs,σ[i]?=some (some (.ref a))/\H a=some (.lst vs)/\Hs a=none/\H₀ a=none/\aX Hs xs vs :=
 let ⟨_,h1,a,vs,z,h⟩:=r.at_ i _ e;⟨a,vs,z▸h1,h⟩
theorem SR.bd(r:SR B H₀ Hs H σ env)(i:Nat)(a C:Addr)(fs:List (Str×PV))(e:env[i]?=some (some (.bd a C fs))):∃ dx vs,σ[i]?=some (some (.ref a))/\H a=some (.ins C dx vs)/\Hs a=none/\H₀ a=none/\e8 Hs fs vs :=
 let ⟨_,h1,dx,vs,z,h⟩:=r.at_ i _ e;⟨dx,vs,z▸h1,h⟩
theorem Ho.l8{x:SV}{v:V}(h:Ho H₀ Hs H x v)(o:gX x=true):∃ a u,v=.ref a/\H a=some u/\Hs a=none/\H₀ a=none/\∀ ws,u≠.tup ws:=by
 cases x with
 | sh p=>cases o
 | ow xs=>obtain⟨a,vs,z,h1,h2,h3,_⟩:=h;exact⟨a,_,z,h1,h2,h3,λ_=>nofun⟩
 | bd a C fs=>obtain⟨dx,vs,z,h1,h2,h3,_⟩:=h;exact⟨a,_,z,h1,h2,h3,λ_=>nofun⟩
 | dw OV=>obtain⟨a,vs,z,h1,h2,h3,_⟩:=h;exact⟨a,_,z,h1,h2,h3,λ_=>nofun⟩
theorem Ho.mono{x:SV}{v:V}(h:Ho H₀ Hs H x v)(s:bB Hs Of)(k:∀ a u,gX x=true->v=.ref a->H a=some u->Hs a=none->H₀ a=none->(∀ ws,u≠.tup ws)->H' a=some u/\Of a=none/\H₀' a=none):Ho H₀' Of H' x v:=by
 cases x with
 | sh p=>exact Rep.mono s h
 | ow xs=>obtain⟨a,vs,z,h1,h2,h3,h4⟩:=h;obtain⟨q1,q2,q3⟩:=k a _ rfl z h1 h2 h3 (λ_=>nofun);exact⟨a,vs,z,q1,q2,q3,h4.mono s⟩
 | bd a C fs=>obtain⟨dx,vs,z,h1,h2,h3,h4⟩:=h;obtain⟨q1,q2,q3⟩:=k a _ rfl z h1 h2 h3 (λ_=>nofun);exact⟨dx,vs,z,q1,q2,q3,h4.mono s⟩
 | dw OV=>obtain⟨a,vs,z,h1,h2,h3,h4⟩:=h;obtain⟨q1,q2,q3⟩:=k a _ rfl z h1 h2 h3 (λ_=>nofun);exact⟨a,vs,z,q1,q2,q3,h4.mono s⟩
theorem SR.mv(r:SR B H₀ Hs H σ env)(gr:bF B' H₀' Of H')(hl:σ'.length=Oc.length)(s:bB Hs Of)
  (c:∀ (j:Nat) (x:SV),Oc[j]?=some (some x)->env[j]?=some (some x)/\σ'[j]?=σ[j]?/\∀ a u,gX x=true->σ[j]?=some (some (.ref a))->H a=some u->Hs a=none->H₀ a=none->(∀ ws,u≠.tup ws)->H' a=some u/\Of a=none/\H₀' a=none):SR B' H₀' Of H' σ' Oc where
 gr:=gr
 len:=hl
 at_:=λj x e=>by
  obtain⟨e1,e2,k⟩:=c j x e;obtain⟨v,h1,h2⟩:=r.at_ j x e1;exact⟨v,e2.trans h1,h2.mono s λa u o z=>k a u o (z▸h1)⟩
 ap:=λj k x y a n e1 e2 o1 o2=>by
  rw[(c j x e1).2.1,(c k y e2).2.1];exact r.ap j k x y a n (c j x e1).1 (c k y e2).1 o1 o2
theorem t8{y:SV}(e:(env.set i x)[j]?=some (some y)):(i≠j/\env[j]?=some (some y))\/(i=j/\x=some y/\i<env.length):=by
 rw[Uc] at e
 by_cases z:i=j
 .rw[if_pos z] at e
  split at e
  .exact .inr ⟨z,Sm e,by assumption⟩
  .cases e
 .rw[if_neg z] at e;exact .inl ⟨z,e⟩
theorem SR.chg(r:SR B H₀ Hs H σ env)(gr:bF B H₀ Of H')(s:bB Hs Of)(new:∀ y,x=some y->∃ w,v=some w/\Ho H₀ Of H' y w)
  (kp:∀ (j:Nat) (y:SV) (a:Addr) (u:HO),i≠j->env[j]?=some (some y)->gX y=true->σ[j]?=some (some (.ref a))->H a=some u->Hs a=none->(∀ ws,u≠.tup ws)->H' a=some u/\Of a=none)
  (sp:∀ y,x=some y->gX y=true->∀ (k:Nat) (z:SV),i≠k->env[k]?=some (some z)->gX z=true->σ[k]?≠some v):SR B H₀ Of H' (σ.set i v) (env.set i x) where
 gr:=gr
 len:=by rw[W8,W8];exact r.len
 at_:=λj y e=>by
  rcases t8 e with ⟨n,e⟩ | ⟨rfl,e,l⟩
  .obtain⟨w,h1,h2⟩:=r.at_ j y e;refine⟨w,by rw[Uc,if_neg n];exact h1,h2.mono s λa u o z q1 q2 q3 t=>?_⟩;obtain⟨p1,p2⟩:=kp j y a u n e o (z▸h1) q1 q2 t;exact⟨p1,p2,q3⟩
  .obtain⟨w,rfl,h⟩:=new y e;exact⟨w,by rw[Uc,if_pos rfl,if_pos (by rw[r.len];exact l)],h⟩
 ap:=λj k y z a n e1 e2 o1 o2 q1 q2=>by
  rw[Uc] at q1 q2;rcases t8 e1 with ⟨n1,e1⟩ | ⟨rfl,e1,l⟩
  .rw[if_neg n1] at q1;rcases t8 e2 with ⟨n2,e2⟩ | ⟨rfl,e2,l⟩
   .rw[if_neg n2] at q2;exact r.ap j k y z a n e1 e2 o1 o2 q1 q2
   .rw[if_pos rfl,if_pos (by rw[r.len];exact l)] at q2;exact sp z e2 o2 j y n1 e1 o1 (q1.trans q2.symm)
  .rw[if_pos rfl,if_pos (by rw[r.len];exact l)] at q1;rcases t8 e2 with ⟨n2,e2⟩ | ⟨z2,_,_⟩
   .rw[if_neg n2] at q2;exact sp y e1 o1 k z n2 e2 o2 (q2.trans q1.symm)
   .exact n z2
theorem SR.Fe(r:SR B H₀ Hs H σ env)(hv:σ[i]?=some v)(gr:bF B H₀ Of H')(s:bB Hs Of)(new:∀ y,x=some y->∃ w,v=some w/\Ho H₀ Of H' y w)
  (kp:∀ (j:Nat) (y:SV) (a:Addr) (u:HO),i≠j->env[j]?=some (some y)->gX y=true->σ[j]?=some (some (.ref a))->H a=some u->Hs a=none->(∀ ws,u≠.tup ws)->H' a=some u/\Of a=none)
  (sp:∀ y,x=some y->gX y=true->∀ (k:Nat) (z:SV),i≠k->env[k]?=some (some z)->gX z=true->σ[k]?≠some v):SR B H₀ Of H' σ (env.set i x):=by
 have e:σ.set i v=σ:=List.ext_getElem? λj=>by
  rw[Uc]
  by_cases z:i=j
  .subst z;rw[if_pos rfl,if_pos (S5.mp hv).1,hv]
  .rw[if_neg z]
 have:=r.chg gr s new kp sp
 rwa [e] at this
theorem SR.held{p:Addr}(r:SR B H₀ Hs H σ env)(n:H p=none):∀ (j:Nat) (y:SV),env[j]?=some (some y)->gX y=true->σ[j]?≠some (some (.ref p)):=λj y e o z=>by
 obtain⟨v,h1,h2⟩:=r.at_ j y e;obtain⟨a,u,rfl,q,_⟩:=h2.l8 o;rw[h1] at z;cases z;rw[n] at q;cases q
theorem SR.free{p:Addr}(r:SR B H₀ Hs H σ env)(n:H p=none):Hs p=none/\H₀ p=none:=by
 refine⟨?_,?_⟩
 .cases q:Hs p with
  | none=>rfl
  | some o=>have:=r.gr.sub _ _ q;rw[n] at this;cases this
 .cases q:H₀ p with
  | none=>rfl
  | some o=>have:=r.gr.al _ _ q;rw[n] at this;cases this
theorem bF.l8{p:Addr}(g:bF B H₀ Hs H)(h1:Hs p=none)(h2:H₀ p=none):bF B H₀ Hs (upd H p o) :=
 ⟨g.st,λc u q=>by rw[av (λz=>by rw[z,h2] at q;cases q)];exact g.al c u q,λc u q=>by rw[av (λz=>by rw[z,h1] at q;cases q)];exact g.sub c u q,g.nw⟩
theorem bF.into{p:Addr}(g:bF B H₀ Hs H)(h:H p=some o)(h1:Hs p=none)(h2:H₀ p=none):bF B H₀ (upd Hs p o) H/\bB Hs (upd Hs p o):=by
 have st:bB Hs (upd Hs p o):=λc u q=>by rw[av (λz=>by rw[z,h1] at q;cases q)];exact q
 refine⟨⟨λc u q=>st c u (g.st c u q),g.al,λc u q=>?_,λc u q1 q2 q3=>?_⟩,st⟩
 .by_cases z:c=p
  .subst z;rw[aA] at q;rw[h,q]
  .rw[av z] at q;exact g.sub c u q
 .rw[av (λz=>by rw[z,h2] at q2;cases q2)];exact g.nw c u q1 q2 q3
theorem SR.grow(r:SR B H₀ Hs H σ env)(g:bF Hs H Of H'):SR B H₀ Of H' σ env :=
 r.mv (r.gr.trans g) r.len g.st λ_ _ e=>⟨e,rfl,λa u _ _ h1 h2 h3 t=>⟨g.al _ _ h1,g.nw _ _ h2 h1 t,h3⟩⟩
end
abbrev EX:=Addr×Option (List (Str×PV))
abbrev M(α:Type):=Option (Except EX α)
def M.ok{α:Type}(a:α):M α:=some (.ok a)
variable{α:Type}
noncomputable def M.bind{β:Type}(x:M α)(f:α->M β):M β:=match x with
 | some (.ok a)=>f a
 | some (.error e)=>some (.error e)
 | none=>none
instance:Monad M where
 pure:=M.ok
 bind:=M.bind
def au(r:M α)(Q:α->Prop)(E:EX->Prop):Prop:=match r with
 | some (.ok a)=>Q a
 | some (.error e)=>E e
 | none=>False
variable{E':EX->Prop}
theorem au.imp{r:M α}{Q Q':α->Prop}{E:EX->Prop}(h:au r Q E)(hq:∀ a,Q a->Q' a)(he:∀ e,E e->E' e):au r Q' E':=by
 cases r with
 | none=>exact h
 | some x=>cases x with
  | ok a=>exact hq a h
  | error e=>exact he e h
theorem au.bind{α β:Type}{x:M α}{f:α->M β}{Q:β->Prop}{E:EX->Prop}(h:au (x.bind f) Q E):au x (λa=>au (f a) Q E) E:=by
 cases x with
 | none=>exact h
 | some x=>cases x with
  | ok a=>exact h
  | error e=>exact h
def XW(E:XK)(Hs H:Hp)(x:EX):Prop:=∀ ea Of H',bF Hs H Of H'->Rep Of (.exc x.1 x.2) (.ref ea)->E (.ref ea) none H'
theorem XW.grow{E:XK}{Of H':Hp}{x:EX}(h:XW E Hs H x)(g:bF Hs H Of H'):XW E Of H' x:=λea Oo H2 g2 r=>h ea Oo H2 (g.trans g2) r
def tE(E:St->XK)(f:af->M PV):TE:=fun σ H Q=>∃ B H₀ Hs env,SR B H₀ Hs H σ env/\au (f env) (λp=>∀ v Of H',bF Hs H Of H'->Rep Of p v->Q v H') (XW (E σ) Hs H)
theorem PE.imp{t t':TE}(h:PE X e t)(i:∀ σ H Q,t' σ H Q->t σ H Q):PE X e t':=λOa s σ H Q I q=>h Oa s σ H Q I (i σ H Q q)
theorem tH{f:af->M PV}{g:af->PV->M PV}{Q R:VK}(h:tE E (λenv=>(f env).bind (g env)) σ H Q)
  (k:∀ B H₀ Hs H1 env p v,SR B H₀ Hs H1 σ env->Rep Hs p v->au (g env p) (λq=>∀ u Of H',bF Hs H1 Of H'->Rep Of q u->Q u H') (XW (E σ) Hs H1)->R v H1):tE E f σ H R:=by
 obtain⟨B,H₀,Hs,env,sr,h⟩:=h;refine⟨B,H₀,Hs,env,sr,(au.bind h).imp (λp hp v Of H' g r=>?_) λe he=>he⟩;exact k B H₀ Of H' env p v (sr.grow g) r (hp.imp (λq hq u Oo H2 g2 r2=>hq u Oo H2 (g.trans g2) r2) λe he=>he.grow g)
theorem yL{f g:af->M PV}{op:PV->PV->M PV}{r:R2}{Q:VK}(h:tE E (λenv=>(f env).bind λp=>(g env).bind λq=>op p q) σ H Q)
  (k:∀ Hs H1 p q v u,bB Hs H1->Rep Hs p v->Rep Hs q u->au (op p q) (λz=>∀ w Of H',bF Hs H1 Of H'->Rep Of z w->Q w H') (XW (E σ) Hs H1)->r v u H1 Q):Jg r (tE E f) (tE E g) σ H Q:=by
 refine tH h λB H₀ Hs H1 env p v sr rp hp=>?_;refine⟨B,H₀,Hs,env,sr,(au.bind hp).imp (λq hq u Of H' g ru=>?_) λe he=>he⟩;exact k Of H' p q v u (sr.grow g).gr.sub (rp.mono g.st) ru (hq.imp (λz hz w Oo H2 g2 r2=>hz w Oo H2 (g.trans g2) r2) λe he=>he.grow g)
theorem JS{f:af->M PV}{op:PV->M PV}{r:V->Hp->VK->Prop}{Q:VK}(h:tE E (λenv=>(f env).bind op) σ H Q)
  (k:∀ Hs H1 p v,bB Hs H1->Rep Hs p v->au (op p) (λz=>∀ w Of H',bF Hs H1 Of H'->Rep Of z w->Q w H') (XW (E σ) Hs H1)->r v H1 Q):Nz r (tE E f) σ H Q :=
 tH h λB H₀ Hs H1 env p v sr rp hp=>k Hs H1 p v sr.gr.sub rp hp
def Gi(sp:Sp)(Pb:List V)(E:St->XK)(t:TA):TE:=fun σ H Q=>t σ H λvs H1=>sp (vs++Pb) H1 Q (E σ)
def Ct(C:Addr)(m:Str)(sp:Sp)(Pb:List V)(E:St->XK)(ta:TE)(t:TA):TE:=fun σ H Q=>ta σ H λx H1=>∃ a dx fs,x=.ref a/\H1 a=some (.ins C dx fs)/\fs.lookup m=none ∧
 t σ H1 λvs H2=>sp (x::(vs++Pb)) H2 Q (E σ)
def HS(C:Addr)(sp:Sp)(Pb:List V)(E:St->XK)(t:TA):TE:=fun σ H Q=>t σ H λvs H1=>∀ x dx,H1 x=none->H1 dx=none->dx≠x ->
 sp (.ref x::(vs++Pb)) (upd (upd H1 dx (.own x)) x (.ins C dx [])) (λv H2=>v=.bG/\Q (.ref x) H2) (E σ)
variable{Pb:List V}
variable{vs:List V}{us:List Value}
section
variable{p:Pos}{o:Expr}
theorem kB{Q:VK}(F:aL X.prog X.w X.K X.mg X.base (bI X.prog X.w) k f fd ps sp)(hr:ck k X.A)(hb:Binds X.K fd ps ds)(hd:Vals Pb ds)(hx:dU X E)
  (I:Inv X Oa σ H s) (r:Vals vs us) (h:sp (vs++Pb) H Q (E σ)):wpAny (model X.prog X.w) X.A (call (.ref f) us) (EP X Oa σ Q) X.xe s:=by
 have r2:Vals (vs++Pb) (us++ds):=r.append hd;have hl:(us++ds).length=ps.length:=by rw[<- r2.length];exact F.len _ _ _ _ h
 refine VI (Vw (F.run X.A X.stack s H ⟨us,[]⟩ (us++ds) (vs++Pb) Q (E σ) hr I.lS (hb s us I.hU hl) r2 h) λr s' hq=>?_);cases r with
 | error e=>exact hx.pass Oa σ H s e s' I hq
 | ok fl =>
  cases fl with
  | ret u=>exact I.after hq
  | next=>exact S8 hq
  | brk=>exact S8 hq
  | cont=>exact S8 hq
theorem Dk(F:aL X.prog X.w X.K X.mg X.base (bI X.prog X.w) k f fd ps sp)(hr:ck k X.A)(hg:Gl X x)(hm:X.mg x=some (.ref f))(hk:SN X.K (.ref f)=true)(hb:Binds X.K fd ps ds)(hd:Vals Pb ds)(hx:dU X E)
  (ha:PA X (e::es) t) (Po:autoParam ((x==("__debug__" : Str))=false) aD._auto_1) (he:autoParam (starEach (e::es) X.env=(false,eval e X.env)::starEach es X.env) aR._auto_1) (Oy:autoParam ((backTo pos (starEach es X.env)).any (·.1)=false) aR._auto_1) :
  PE X (.Call (.Name x p) (e::es) [] pos) (Gi sp Pb E t):=by
 intro Oa s σ H Q I h;refine T5 (jt I hg hm ?_ Po);refine T6 (h₀:=X.base) I.ok.mod.Dw hk (cU (ha pos Oa s σ H _ I h) λus s1 ⟨vs,H1,I1,r,q⟩=>⟨I1.hU,?_⟩) he Oy;exact kB F hr hb hd hx I1 r q
theorem Bq(he:PE X o ta)(c:iK X.K C)(hm:Meth X.K C m f)(F:aL X.prog X.w X.K X.mg X.base (bI X.prog X.w) k f fd ps sp)(hr:ck k X.A)(hb:Binds X.K fd ps ds)(hd:Vals Pb ds)(hx:dU X E)(ha:PA X (e::es) t)
  (O6:autoParam (starEach (e::es) X.env=(false,eval e X.env)::starEach es X.env) aR._auto_1) (Oy:autoParam ((backTo pos (starEach es X.env)).any (·.1)=false) aR._auto_1)
  (ht:autoParam (eval (.Call (.Attribute o m apos) (e::es) [] pos) X.env=(do
   let ov <- eval o X.env
   standAt apos.atName
   let (f,first) <- holding [ov] (getMethod ov m pl)
   callWith pos f first (backTo pos (starEach (e::es) X.env)) (backToKw pos (keywordEach [] X.env)))) aR._auto_1) :
  PE X (.Call (.Attribute o m apos) (e::es) [] pos) (Ct C m sp Pb E ta t):=by
 intro Oa s σ H Q I h;refine Uo (pl:=pl) (cU (he Oa s σ H _ I h) λu s1 ⟨x,H1,I1,rx,a,dx,fs,ex,ea,l,q⟩=>?_) ht;subst ex;obtain rfl:u=Sd a:=rx;refine jz I1 ea c hm l ?_;refine T6 (first:=[.ref a]) (h₀:=X.base) I.ok.mod.Dw hm.kp (cU (ha pos Oa s1 σ H1 _ I1 q) λus s2 ⟨vs,H2,I2,r,q2⟩=>⟨I2.hU,?_⟩) O6 Oy;exact kB (us:=.ref a::us) (vs:=.ref a::vs) F hr hb hd hx I2 (.cons rfl r) q2
theorem Ad(he:PE X o ta)(c:iK X.K C)(hm:Meth X.K C m f)(F:aL X.prog X.w X.K X.mg X.base (bI X.prog X.w) k f fd ps sp)(hr:ck k X.A)(hb:Binds X.K fd ps ds)(hd:Vals Pb ds)(hx:dU X E)
  (ht:autoParam (eval (.Call (.Attribute o m apos) [] [] pos) X.env=(do
   let ov <- eval o X.env
   standAt apos.atName
   let (f,first) <- holding [ov] (getMethod ov m pl)
   callWith pos f first (backTo pos (starEach [] X.env)) (backToKw pos (keywordEach [] X.env)))) aR._auto_1) :
  PE X (.Call (.Attribute o m apos) [] [] pos) (Ct C m sp Pb E ta Kk):=by
 intro Oa s σ H Q I h;refine Uo (pl:=pl) (cU (he Oa s σ H _ I h) λu s1 ⟨x,H1,I1,rx,a,dx,fs,ex,ea,l,q⟩=>?_) ht;subst ex;obtain rfl:u=Sd a:=rx;refine jz I1 ea c hm l ?_;exact V_ (first:=[.ref a]) I1.hU hm.kp (kB (us:=[.ref a]) (vs:=[.ref a]) F hr hb hd hx I1 (.cons rfl .nil) q)
theorem zC{Q:VK}(M:Mk X.K C f)(F:aL X.prog X.w X.K X.mg X.base (bI X.prog X.w) k f fd ps sp)(hr:ck (k+1) X.A)(hb:Binds X.K fd ps ds)(hd:Vals Pb ds)
  (hx:dU X E) (I:Inv X Oa σ H s) (r:Vals vs us)
  (h:∀ x dx,H x=none->H dx=none->dx≠x->sp (.ref x::(vs++Pb)) (upd (upd H dx (.own x)) x (.ins C dx [])) (λv H2=>v=.bG/\Q (.ref x) H2) (E σ)) :
  wpAny (model X.prog X.w) X.A (call (.ref C) us) (EP X Oa σ Q) X.xe s:=by
 have hq:=h (s.heap.objs.size+1) s.heap.objs.size (I.bJ.fresh (VS _)) (I.bJ.fresh (Se _)) (So (T4 _));have I2:=Inv.made (C:=C) I;have r2:Vals (V.ref (s.heap.objs.size+1)::(vs++Pb)) (Sd (s.heap.objs.size+1)::(us++ds)):=.cons rfl (r.append hd);have hl:(Sd (s.heap.objs.size+1)::us++ds).length=ps.length:=by
  have e:=r2.length;rw[F.len _ _ _ _ hq] at e;exact e.symm
 refine VI (BS (f:=f) I.hU M.makes M.init (beq_iff_eq.mp M.fn) (Vw (F.run _ X.stack _ _ ⟨Sd (s.heap.objs.size+1)::us,[]⟩ (Sd (s.heap.objs.size+1)::(us++ds)) _ _ (E σ) (hr.make C us [])
  (I2.lS.make C us []) (hb _ (Sd (s.heap.objs.size+1)::us) I2.hU hl) r2 hq) λr s' QU=>?_))
 cases r with
 | error e=>exact hx.pass Oa σ _ _ e s' I2 QU
 | ok fl =>
  cases fl with
  | ret u =>
   obtain⟨v,H',I3,rv,ev,q3⟩:=I2.after QU;subst ev;exact⟨rv,⟨V.ref (s.heap.objs.size+1),H',I3,rfl,q3⟩⟩
  | next=>exact S8 QU
  | brk=>exact S8 QU
  | cont=>exact S8 QU
theorem CV(M:Mk X.K C f)(F:aL X.prog X.w X.K X.mg X.base (bI X.prog X.w) k f fd ps sp)(hr:ck (k+1) X.A)(hg:Gl X x)(hm:X.mg x=some (.ref C))(hb:Binds X.K fd ps ds)(hd:Vals Pb ds)(hx:dU X E)
  (ha:PA X (e::es) t) (Po:autoParam ((x==("__debug__" : Str))=false) aD._auto_1) (he:autoParam (starEach (e::es) X.env=(false,eval e X.env)::starEach es X.env) aR._auto_1) (Oy:autoParam ((backTo pos (starEach es X.env)).any (·.1)=false) aR._auto_1) :
  PE X (.Call (.Name x p) (e::es) [] pos) (HS C sp Pb E t):=by
 intro Oa s σ H Q I h;refine T5 (jt I hg hm ?_ Po);refine T6 (h₀:=X.base) I.ok.mod.Dw M.kp (cU (ha pos Oa s σ H _ I h) λus s1 ⟨vs,H1,I1,r,q⟩=>⟨I1.hU,?_⟩) he Oy;exact zC M F hr hb hd hx I1 r q
end
abbrev dh(Hs H:Hp)(Q:VK):PV->Prop:=λz=>∀ w Of H',bF Hs H Of H'->Rep Of z w->Q w H'
variable{p:PV}
theorem dh.flat{Q:VK}(h:dh Hs H Q p)(s:bB Hs H)(r:Rep Hs p v):Q v H:=h v Hs H (.refl s) r
theorem dh.tup{Hs H:Hp}{Q:VK}{xs:List PV}{vs:List V}(h:dh Hs H Q (.tup xs))(s:bB Hs H)(r:aX Hs xs vs):∀ p,H p=none->Q (.ref p) (upd H p (.tup vs)) :=
 λp n=>h _ (upd Hs p (.tup vs)) _ (bF.new s n) (.tup aA (r.mono (bF.new s n).st))
theorem dh.lst{Hs H:Hp}{Q:VK}{xs:List PV}{vs:List V}(h:dh Hs H Q (.lst xs))(s:bB Hs H)(r:aX Hs xs vs):∀ p,H p=none->Q (.ref p) (upd H p (.lst vs)) :=
 λp n=>h _ (upd Hs p (.lst vs)) _ (bF.new s n) (.lst aA (r.mono (bF.new s n).st))
namespace HT
theorem BG{prog:Program}{w:World}{A:Around}{E:Value->Shared->Prop}{s:Shared}{t b:Addr}{ws:List Value}{Q:Value->Shared->Prop}(ht:IsTup s.heap t #[])(hb:IsTup s.heap b ws.toArray)
  (h1:Q (.ref b) s):wpAny (model prog w) A (binaryOp .Add (.ref t) (.ref b)) Q E s:=by
 obtain⟨⟨cls,dd,data,sl⟩,ho,hc,n,hd⟩:=id ht;obtain⟨⟨cls2,RB,data2,sl2⟩,QE,RG,n2,hd2⟩:=id hb;simp only at hc hd RG hd2;subst hc hd RG hd2;exact X9 ⟨_,ho,rfl⟩ ⟨_,QE,rfl⟩ WJ Xw Vu Vi (U9 _ _)
   (tuple_addW0 t b #[] ws.toArray n n2 dd RB sl sl2 rfl) ⟨ho,QE,h1⟩
end HT
def Ca(K:R5):R2:=λx y H Q=>∃ a b ys,x=.ref a/\y=.ref b/\gk K H a []/\gk K H b ys/\Q (.ref b) H
theorem Bm:gA X (binaryOp .Add) (Ca X.K):=by
 intro Oa s σ H x y v u Q I rx ry h;obtain⟨a,b,ys,rfl,rfl,ha,hb,q1⟩:=h;cases rx;cases ry;obtain⟨Og,r1,p1,_⟩:=I.tuple ha;obtain⟨Qs,r2,p2,_⟩:=I.tuple hb;have e:Og=[]:=r1.lV.mpr rfl;subst e;exact HT.BG p1 p2 ⟨.ref b,H,I,rfl,q1⟩
def cA(c:Prop)[Decidable c](x:M α):M α:=if c then x else none
theorem au.cA{α:Type}{c:Prop}[Decidable c]{x:M α}{Q:α->Prop}{E:EX->Prop}(h:au (L2.cA c x) Q E):c/\au x Q E:=by
 unfold L2.cA at h
 by_cases hc:c
 .rw[if_pos hc] at h;exact⟨hc,h⟩
 .rw[if_neg hc] at h;exact h.elim
def ed(o:Option PV):M PV:=match o with
 | some x=>M.ok x
 | none=>none
theorem au.opt{o:Option PV}{Q:PV->Prop}{E:EX->Prop}(h:au (ed o) Q E):∃ x,o=some x/\Q x:=by
 cases o with
 | none=>exact h.elim
 | some x=>exact⟨x,rfl,h⟩
variable{c:Expr}
variable{op:CmpOp}
section
variable{a b:Expr}{f g h:af->M PV}
def ae(i:Nat)(env:af):M PV:=match env[i]? with
 | some (some (.sh p))=>M.ok p
 | _=>none
theorem HF(hN:X.N[i]?=some x)(hv:BE X.env.scope x)(hd:autoParam ((x==("__debug__" : Str))=false) aD._auto_1)(Pn:autoParam ((x==("__classdict__" : Str))=false) aD._auto_1):PE X (.Name x pos) (tE E (ae i)):=by
 refine(lj hN hv hd Pn).imp fun σ H Q q=>?_;obtain⟨B,H₀,Hs,env,sr,q⟩:=q;unfold ae at q
 split at q
 .rename_i p e;obtain⟨v,h1,h2⟩:=sr.sh i p e;exact⟨v,h1,dh.flat q sr.gr.sub h2⟩
 .exact q.elim
theorem kF(he:PE X e (tC v))(r:∀ H,Rep H p v):PE X e (tE E λ_=>M.ok p):=by
 refine he.imp fun σ H Q q=>?_;obtain⟨B,H₀,Hs,env,sr,q⟩:=q;exact dh.flat q sr.gr.sub (r Hs)
theorem Bb{i:Int}:PE X (.Constant (.int i) j pos) (tE E λ_=>M.ok (.int i)):=kF GO λ_=>.int i
theorem Ke{i:Bool}:PE X (.Constant (.bool i) j pos) (tE E λ_=>M.ok (.bl i)):=kF KC λ_=>.bl i
theorem G7:PE X (.Constant .none j pos) (tE E λ_=>M.ok .bG):=kF GR λ_=>.bG
theorem IQ{i:Str}:PE X (.Constant (.str i) j pos) (tE E λ_=>M.ok (.str i)):=kF AZ λ_=>.str i
def ak(op:PV->PV->M PV)(f g:af->M PV):af->M PV:=λenv=>(f env).bind λp=>(g env).bind λq=>op p q
def ll(E:St->XK)(r:R2)(op:PV->PV->M PV):Prop:=∀ (σ:St) (Hs H:Hp) (p q:PV) (v u:V) (Q:VK),bB Hs H->Rep Hs p v->Rep Hs q u->au (op p q) (dh Hs H Q) (XW (E σ) Hs H)->r v u H Q
theorem mQ{op:Operator}{r:R2}{o:PV->PV->M PV}(ho:gA X (binaryOp op) r)(hv:ll E r o)(ha:PE X a (tE E f))(hb:PE X b (tE E g)):PE X (.BinOp a op b pos) (tE E (ak o f g)) :=
 (F1 ho ha hb).imp fun σ H Q q=>yL q λHs H1 p q v u s rp rq h=>hv σ Hs H1 p q v u Q s rp rq h
theorem gH{r:R2}{o:PV->PV->M PV}(ho:gA X (compareOp op) r)(hv:ll E r o)(ha:PE X a (tE E f))(hb:PE X b (tE E g))(hm:behindInMarks op b=false):PE X (.Compare a [op] [b] pos) (tE E (ak o f g)) :=
 (D2 ho ha hb hm).imp fun σ H Q q=>yL q λHs H1 p q v u s rp rq h=>hv σ Hs H1 p q v u Q s rp rq h
def cJ:PV->PV->M PV
 | .int i,.int j=>M.ok (.int (i+j))
 | .str x,.str y=>cA (x.length+y.length<=sizeLine) (M.ok (.str (x++y)))
 | .tup xs,.tup ys=>cA (xs.length+ys.length<=sizeLine) (M.ok (.tup (xs++ys)))
 | .lst xs,.lst ys=>cA (xs.length+ys.length<=sizeLine) (M.ok (.lst (xs++ys)))
 | _,_=>none
def FP(K:R5):R2:=λx y H Q=>(∃ i j,x=.int i/\y=.int j/\Q (.int (i+j)) H)\/(∃ i j,x=.str i/\y=.str j/\i.length+j.length<=sizeLine/\Q (.str (i++j)) H)\/FD K x y H Q\/J9 x y H Q\/Ca K x y H Q
theorem Fm:gA X (binaryOp .Add) (FP X.K):=gA.or Hk (gA.or w_ (gA.or EV (gA.or G5 Bm)))
theorem HN{K:R5}:ll E (FP K) cJ:=by
 intro σ Hs H p q v u Q s rp rq h;cases rp with
 | int i=>cases rq with
  | int j=>exact .inl ⟨i,j,rfl,rfl,dh.flat h s (.int _)⟩
  | _=>exact h.elim
 | str i=>cases rq with
  | str j =>
   obtain⟨hz,h⟩:=au.cA h;exact .inr (.inl ⟨i,j,rfl,rfl,hz,dh.flat h s (.str _)⟩)
  | _=>exact h.elim
 | @tup a xs vs ha hx=>cases rq with
  | @tup b ys us hb hy =>
   obtain⟨hz,h⟩:=au.cA h;cases hx with
   | nil=>exact .inr (.inr (.inr (.inr ⟨a,b,us,rfl,rfl,gk.of (s _ _ ha),gk.of (s _ _ hb),dh.flat h s (.tup hb hy)⟩)))
   | cons Rx P2 =>
    have hx:=aX.cons Rx P2;refine .inr (.inr (.inl ⟨a,b,_,us,rfl,rfl,gk.of (s _ _ ha),gk.of (s _ _ hb),(λz=>nomatch z),by rw[<- hx.length,<- hy.length];exact hz,λz=>?_,λz=>dh.tup h s (hx.append hy)⟩));have e:ys=[]:=by cases hy with | nil=>rfl | cons _ _=>cases z
    subst e;rw[SK] at h;exact dh.flat h s (.tup ha hx)
  | _=>exact h.elim
 | @lst a xs vs ha hx=>cases rq with
  | @lst b ys us hb hy =>
   obtain⟨hz,h⟩:=au.cA h;exact .inr (.inr (.inr (.inl ⟨a,b,vs,us,rfl,rfl,s _ _ ha,s _ _ hb,by rw[<- hx.length,<- hy.length];exact hz,dh.lst h s (hx.append hy)⟩)))
  | _=>exact h.elim
 | _=>exact h.elim
def xH(c:Int->Int->Bool)(o:Int->Int->Int):PV->PV->M PV
 | .int i,.int j=>cA (c i j=true) (M.ok (.int (o i j)))
 | _,_=>none
theorem xB{C:Int->Int->Prop}{c:Int->Int->Bool}{o:Int->Int->Int}(hc:∀ i j,c i j=true->C i j):ll E (rI C λi j=>.int (o i j)) (xH c o):=by
 intro σ Hs H p q v u Q s rp rq h;cases rp with
 | int i=>cases rq with
  | int j =>
   obtain⟨hz,h⟩:=au.cA h;exact⟨i,j,rfl,rfl,hc i j hz,dh.flat h s (.int _)⟩
  | _=>exact h.elim
 | _=>exact h.elim
def jJ:PV->PV->M PV
 | .int i,.int j=>M.ok (.int (i-j))
 | _,_=>none
theorem GL:ll E (yi λi j=>.int (i-j)) jJ:=by
 intro σ Hs H p q v u Q s rp rq h;cases rp with
 | int i=>cases rq with
  | int j=>exact⟨i,j,rfl,rfl,dh.flat h s (.int _)⟩
  | _=>exact h.elim
 | _=>exact h.elim
def CD(o:Int->Int->Bool):PV->PV->M PV
 | .int i,.int j=>M.ok (.bl (o i j))
 | _,_=>none
theorem t4{o:Int->Int->Bool}:ll E (yi λi j=>.bl (o i j)) (CD o):=by
 intro σ Hs H p q v u Q s rp rq h;cases rp with
 | int i=>cases rq with
  | int j=>exact⟨i,j,rfl,rfl,dh.flat h s (.bl _)⟩
  | _=>exact h.elim
 | _=>exact h.elim
def aS:PV->PV->M PV
 | .tup xs,.int i=>ed (uB xs i)
 | .lst xs,.int i=>ed (uB xs i)
 | .gc xs,.int i=>ed (uB xs i)
 | .str z,.int i=>cA (z.length<=sizeLine) (ed ((uB z.cps.toList i).map λc=>.str ⟨#[c]⟩))
 | _,_=>none
theorem aX.uB{H:Hp}{xs:List PV}{vs:List V}{i:Int}{x:PV}(r:aX H xs vs)(e:L2.uB xs i=some x):∃ v,L2.uB vs i=some v/\Rep H x v:=by
 unfold L2.uB at e ⊢;rw[<- r.length];obtain⟨j,h1,h2⟩:=UH.mp e;obtain⟨v,h3,h4⟩:=r.get h2;exact⟨v,by rw[h1];exact h3,h4⟩
theorem Ii{K:R5}:ll E (Nx K) aS:=by
 intro σ Hs H p q v u Q s rp rq h;cases rp with
 | @tup a xs vs ha hx=>cases rq with
  | int i =>
   obtain⟨x,ex,h⟩:=au.opt h;obtain⟨v,h1,h2⟩:=hx.uB ex;exact .inr (.inl ⟨a,vs,i,v,rfl,rfl,gk.of (s _ _ ha),h1,dh.flat h s h2⟩)
  | _=>exact h.elim
 | @lst a xs vs ha hx=>cases rq with
  | int i =>
   obtain⟨x,ex,h⟩:=au.opt h;obtain⟨v,h1,h2⟩:=hx.uB ex;exact .inl ⟨a,vs,i,v,rfl,rfl,gS.of (s _ _ ha),h1,dh.flat h s h2⟩
  | _=>exact h.elim
 | @gc a o xs vs ha hx=>cases rq with
  | int i =>
   obtain⟨x,ex,h⟩:=au.opt h;obtain⟨v,h1,h2⟩:=hx.uB ex;exact .inl ⟨a,vs,i,v,rfl,rfl,.inl (.inr ⟨o,s _ _ ha⟩),h1,dh.flat h s h2⟩
  | _=>exact h.elim
 | str z=>cases rq with
  | int i =>
   obtain⟨hz,h⟩:=au.cA h;obtain⟨x,ex,h⟩:=au.opt h;obtain⟨c,ec,rfl⟩:=Sn.mp ex;exact .inr (.inr ⟨z,i,c,rfl,rfl,hz,ec,dh.flat h s (.str _)⟩)
  | _=>exact h.elim
 | _=>exact h.elim
theorem Gf(ha:PE X a (tE E f))(hb:PE X b (tE E g))(hs:ub b):PE X (.Subscript a b pos) (tE E (ak aS f g)) :=
 (JE Iw ha hb hs).imp fun σ H Q q=>yL q λHs H1 p q v u s rp rq h=>Ii σ Hs H1 p q v u Q s rp rq h
end
def tG(E:St->XK)(f:af->M α)(K:Hp->Hp->α->Prop):St->Hp->Prop:=fun σ H=>∃ B H₀ Hs env,SR B H₀ Hs H σ env/\au (f env) (K Hs H) (XW (E σ) Hs H)
def KG(K:Hp->Hp->α->Prop):Prop:=∀ Hs H Of H' b,K Hs H b->bF Hs H Of H'->K Of H' b
abbrev KB(Q:Bool->Hp->Prop):Hp->Hp->Bool->Prop:=λHs H k=>∀ Of H',bF Hs H Of H'->Q k H'
abbrev gW(Q:VK):Hp->Hp->PV->Prop:=λHs H p=>dh Hs H Q p
abbrev KL(Q:List V->Hp->Prop):Hp->Hp->List PV->Prop:=λHs H ps=>∀ vs Of H',bF Hs H Of H'->aX Of ps vs->Q vs H'
theorem KB.g{Q:Bool->Hp->Prop}:KG (KB Q):=λHs H Of H' b k g Oo H2 g2=>k Oo H2 (g.trans g2)
theorem gW.g{Q:VK}:KG (gW Q):=λHs H Of H' b k g w Oo H2 g2 r=>k w Oo H2 (g.trans g2) r
theorem KL.g{Q:List V->Hp->Prop}:KG (KL Q):=λHs H Of H' b k g w Oo H2 g2 r=>k w Oo H2 (g.trans g2) r
def tT(E:St->XK)(f:af->M Bool):TT:=fun σ H Q=>tG E f (KB Q) σ H
def tL(E:St->XK)(f:af->M (List PV)):TA:=fun σ H Q=>tG E f (KL Q) σ H
theorem PT.imp{t t':TT}(h:PT X e t)(i:∀ σ H Q,t' σ H Q->t σ H Q):PT X e t':=λOa s σ H Q I q=>h Oa s σ H Q I (i σ H Q q)
theorem PW.imp{t t':TT}(h:PW X e t)(i:∀ σ H Q,t' σ H Q->t σ H Q):PW X e t':=λw Oa s σ H Q I q=>h w Oa s σ H Q I (i σ H Q q)
theorem PA.imp{e:List Expr}{t':TA}(h:PA X e t)(i:∀ σ H Q,t' σ H Q->t σ H Q):PA X e t':=λw Oa s σ H Q I q=>h w Oa s σ H Q I (i σ H Q q)
section
variable{β:Type}{K:Hp->Hp->β->Prop}
theorem bD{f:af->M PV}{g:af->PV->M β}{R:VK}(kg:KG K)(h:tG E (λenv=>(f env).bind (g env)) K σ H)
  (k:∀ B H₀ Hs H1 env p v,SR B H₀ Hs H1 σ env->Rep Hs p v->au (g env p) (K Hs H1) (XW (E σ) Hs H1)->R v H1):tE E f σ H R:=by
 obtain⟨B,H₀,Hs,env,sr,h⟩:=h;refine⟨B,H₀,Hs,env,sr,(au.bind h).imp (λp hp v Of H' g r=>?_) λe he=>he⟩;exact k B H₀ Of H' env p v (sr.grow g) r (hp.imp (λq hq=>kg _ _ _ _ q hq g) λe he=>he.grow g)
theorem qm{f:af->M Bool}{g:af->Bool->M β}{R:Bool->Hp->Prop}(kg:KG K)(h:tG E (λenv=>(f env).bind (g env)) K σ H)
  (k:∀ B H₀ Hs H1 env p,SR B H₀ Hs H1 σ env->au (g env p) (K Hs H1) (XW (E σ) Hs H1)->R p H1):tT E f σ H R:=by
 obtain⟨B,H₀,Hs,env,sr,h⟩:=h;refine⟨B,H₀,Hs,env,sr,(au.bind h).imp (λp hp Of H' g=>?_) λe he=>he⟩;exact k B H₀ Of H' env p (sr.grow g) (hp.imp (λq hq=>kg _ _ _ _ q hq g) λe he=>he.grow g)
theorem dH{f:af->M (List PV)}{g:af->List PV->M β}{R:List V->Hp->Prop}(kg:KG K)(h:tG E (λenv=>(f env).bind (g env)) K σ H)
  (k:∀ B H₀ Hs H1 env p v,SR B H₀ Hs H1 σ env->aX Hs p v->au (g env p) (K Hs H1) (XW (E σ) Hs H1)->R v H1):tL E f σ H R:=by
 obtain⟨B,H₀,Hs,env,sr,h⟩:=h;refine⟨B,H₀,Hs,env,sr,(au.bind h).imp (λp hp v Of H' g r=>?_) λe he=>he⟩;exact k B H₀ Of H' env p v (sr.grow g) r (hp.imp (λq hq=>kg _ _ _ _ q hq g) λe he=>he.grow g)
end
def wR:PV->M Bool
 | .bl b=>M.ok b
 | _=>none
def c6(f:af->M PV):af->M Bool:=λenv=>(f env).bind wR
theorem au.K2{Q:Bool->Prop}{E:EX->Prop}(h:au (wR p) Q E):∃ b,p=.bl b/\Q b:=by
 cases p with
 | bl b=>exact⟨b,rfl,h⟩
 | _=>exact h.elim
variable{r:List V->Hp->VK->Prop}
section
variable{a b:Expr}{f g h:af->M PV}{u v:af->M Bool}{rest:List Expr}
theorem uF{Q:Bool->Hp->Prop}(q:tT E (c6 f) σ H Q):tB (tE E f) σ H Q:=by
 refine bD KB.g q λB H₀ Hs H1 env p v sr rp hp=>?_;obtain⟨k,rfl,hp⟩:=au.K2 hp;cases rp;exact⟨k,rfl,hp Hs H1 (.refl sr.gr.sub)⟩
theorem qi(he:PE X e (tE E f))(hw:autoParam (∀ whole,isTrue e X.env whole=(do let v <- whole;standAt e.pos;holding [v] (truthy v))) aI._auto_1):PT X e (tT E (c6 f)) :=
 (Il he hw).imp fun σ H Q q=>uF q
theorem gM{r:R2}{o:PV->PV->M PV}(ho:gA X (compareOp op) r)(hv:ll E r o)(ha:PE X a (tE E f))(hb:PE X b (tE E g))(hm:behindInMarks op b=false):PT X (.Compare a [op] [b] pos) (tT E (c6 (ak o f g))):=by
 refine(DV ho ha hb hm).imp fun σ H Q q=>?_;have q':=uF q;exact yL q' λHs H1 p q v u s rp rq h=>hv σ Hs H1 p q v u _ s rp rq h
def gT(u:af->M Bool):af->M Bool:=λenv=>(u env).bind λb=>M.ok (!b)
def Mb(u v:af->M Bool):af->M Bool:=λenv=>(u env).bind λb=>if b=true then v env else M.ok false
def y_(u v:af->M Bool):af->M Bool:=λenv=>(u env).bind λb=>if b=true then M.ok true else v env
theorem GB(ha:PT X a (tT E u)):PT X (.UnaryOp .Not a pos) (tT E (gT u)) :=
 (Hu ha).imp fun σ H Q q=>qm KB.g q λB H₀ Hs H1 env p sr hp=>hp Hs H1 (.refl sr.gr.sub)
theorem jo(ha:PT X a (tT E u)):PW X (.BoolOp .Or [a] pos) (tT E u):=pw_or1 ha
theorem ke(ha:PT X a (tT E u))(hb:PW X (.BoolOp .Or (b::rest) pos) (tT E v)):PW X (.BoolOp .Or (a::b::rest) pos) (tT E (y_ u v)):=by
 refine(pw_or ha hb).imp fun σ H Q q=>qm KB.g q λB H₀ Hs H1 env p sr hp=>?_;cases p with
 | true=>exact hp Hs H1 (.refl sr.gr.sub)
 | false=>exact⟨B,H₀,Hs,env,sr,hp⟩
def Dy(f:af->M PV):af->M PV:=λenv=>(f env).bind λp=>(wR p).bind λb=>M.ok (.bl (!b))
def tf(f g:af->M PV):af->M PV:=λenv=>(f env).bind λp=>(wR p).bind λb=>if b=true then g env else M.ok (.bl false)
def N6(f g:af->M PV):af->M PV:=λenv=>(f env).bind λp=>(wR p).bind λb=>if b=true then M.ok (.bl true) else g env
theorem A9(ha:PE X a (tE E f)):PE X (.UnaryOp .Not a pos) (tE E (Dy f)):=by
 refine(HP ha).imp fun σ H Q q=>bD (K:=gW Q) gW.g q λB H₀ Hs H1 env p v sr rp hp=>?_;obtain⟨k,rfl,hp⟩:=au.K2 (au.bind hp);cases rp;exact⟨k,rfl,dh.flat hp sr.gr.sub (.bl _)⟩
theorem lu(ha:PE X a (tE E f))(hb:PE X (.BoolOp .And (b::rest) pos) (tE E g)):PE X (.BoolOp .And (a::b::rest) pos) (tE E (tf f g)):=by
 refine(HE ha hb).imp fun σ H Q q=>bD (K:=gW Q) gW.g q λB H₀ Hs H1 env p v sr rp hp=>?_;obtain⟨k,rfl,hp⟩:=au.K2 (au.bind hp);cases rp;refine⟨k,rfl,?_⟩;cases k with
 | true=>exact⟨B,H₀,Hs,env,sr,hp⟩
 | false=>exact dh.flat hp sr.gr.sub (.bl _)
def wY(u:af->M Bool)(f g:af->M PV):af->M PV:=λenv=>(u env).bind λb=>if b=true then f env else g env
theorem GV(hc:PT X c (tT E u))(ha:PE X a (tE E f))(hb:PE X b (tE E g)):PE X (.IfExp c a b pos) (tE E (wY u f g)):=by
 refine(BW hc ha hb).imp fun σ H Q q=>qm (K:=gW Q) gW.g q λB H₀ Hs H1 env p sr hp=>?_;cases p with
 | true=>exact⟨B,H₀,Hs,env,sr,hp⟩
 | false=>exact⟨B,H₀,Hs,env,sr,hp⟩
def aj:af->M (List PV):=λ_=>M.ok []
def aa(f:af->M PV)(fs:af->M (List PV)):af->M (List PV):=λenv=>(f env).bind λp=>(fs env).bind λps=>M.ok (p::ps)
variable{fs:af->M (List PV)}
theorem A3:PA X [] (tL E aj):=by
 refine jw.imp fun σ H Q q=>?_;obtain⟨B,H₀,Hs,env,sr,q⟩:=q;exact q [] Hs H (.refl sr.gr.sub) .nil
theorem yN(ha:PE X e (tE E f))(hr:PA X es (tL E fs))(hs:autoParam (starEach (e::es) X.env=(false,eval e X.env)::starEach es X.env) aR._auto_1):PA X (e::es) (tL E (aa f fs)):=by
 refine(dj ha hr hs).imp fun σ H Q q=>bD (K:=KL Q) KL.g q λB H₀ Hs H1 env p v sr rp hp=>?_;refine⟨B,H₀,Hs,env,sr,(au.bind hp).imp (λps Qi vs Of H' g r=>?_) λe he=>he⟩;exact Qi (v::vs) Of H' g (.cons (rp.mono g.st) r)
def dD(fs:af->M (List PV)):af->M PV:=λenv=>(fs env).bind λps=>cA (ps.length<=sizeLine) (M.ok (.tup ps))
def ef(fs:af->M (List PV)):af->M PV:=λenv=>(fs env).bind λps=>cA (ps.length<=sizeLine) (M.ok (.lst ps))
theorem HC(hr:PA X es (tL E fs)):PE X (.Tuple es x1 pos) (tE E (dD fs)):=by
 refine(BI hr).imp fun σ H Q q=>dH (K:=gW Q) gW.g q λB H₀ Hs H1 env p v sr rp hp=>?_;obtain⟨hz,hp⟩:=au.cA hp;exact⟨by rw[<- rp.length];exact hz,dh.tup hp sr.gr.sub rp⟩
theorem Cv(hr:PA X es (tL E fs)):PE X (.List es pos) (tE E (ef fs)):=by
 refine(Bo hr).imp fun σ H Q q=>dH (K:=gW Q) gW.g q λB H₀ Hs H1 env p v sr rp hp=>?_;obtain⟨hz,hp⟩:=au.cA hp;exact⟨by rw[<- rp.length];exact hz,dh.lst hp sr.gr.sub rp⟩
def ai(o:List PV->M PV)(fs:af->M (List PV)):af->M PV:=λenv=>(fs env).bind o
def kQ(E:St->XK)(r:List V->Hp->VK->Prop)(o:List PV->M PV):Prop:=∀ (σ:St) (Hs H:Hp) (ps:List PV) (vs:List V) (Q:VK),bB Hs H->aX Hs ps vs->au (o ps) (dh Hs H Q) (XW (E σ) Hs H)->r vs H Q
theorem Bp{o:List PV->M PV}{Q:VK}(hv:kQ E r o)(q:tE E (ai o fs) σ H Q):MB r (tL E fs) σ H Q :=
 dH (K:=gW Q) gW.g q λB H₀ Hs H1 env p v sr rp hp=>hv σ Hs H1 p v Q sr.gr.sub rp hp
variable{p:Pos}{id T:String}
theorem l_{o:List PV->M PV}(hc:dc X (.builtin id) r)(hv:kQ E r o)(hg:Gl X x)(hm:X.mg x=none)(hx:bootBuiltins x=some (.builtin id))(ha:PA X (e::es) (tL E fs))(hn:autoParam (x ≠ "__name__") aD._auto_1)(Po:autoParam ((x==("__debug__" : Str))=false) aD._auto_1)
  (he:autoParam (starEach (e::es) X.env=(false,eval e X.env)::starEach es X.env) aR._auto_1) (Oy:autoParam ((backTo pos (starEach es X.env)).any (·.1)=false) aR._auto_1):PE X (.Call (.Name x p) (e::es) [] pos) (tE E (ai o fs)) :=
 (kb hc hg hm hx ha hn Po he Oy).imp fun σ H Q q=>Bp hv q
theorem nh{o:List PV->M PV}(hc:dc X (.type T) r)(hv:kQ E r o)(hg:Gl X x)(hm:X.mg x=none)(hx:bootBuiltins x=some (.type T))(ha:PA X (e::es) (tL E fs))(hn:autoParam (x ≠ "__name__") aD._auto_1)(Po:autoParam ((x==("__debug__" : Str))=false) aD._auto_1)
  (he:autoParam (starEach (e::es) X.env=(false,eval e X.env)::starEach es X.env) aR._auto_1) (Oy:autoParam ((backTo pos (starEach es X.env)).any (·.1)=false) aR._auto_1):PE X (.Call (.Name x p) (e::es) [] pos) (tE E (ai o fs)) :=
 (rL hc hg hm hx ha hn Po he Oy).imp fun σ H Q q=>Bp hv q
end
variable{xs:List PV}
def cB:PV->Option (List PV)
 | .tup xs=>some xs
 | .lst xs=>some xs
 | .gc xs=>some xs
 | _=>none
theorem wB{K:R5}(s:bB Hs H)(r:Rep Hs p v)(e:cB p=some xs):∃ a vs,v=.ref a/\(gS K H a vs\/gk K H a vs)/\aX Hs xs vs:=by
 cases r with
 | tup h r=>cases e;exact⟨_,_,rfl,.inr (gk.of (s _ _ h)),r⟩
 | lst h r=>cases e;exact⟨_,_,rfl,.inl (gS.of (s _ _ h)),r⟩
 | gc h r=>cases e;exact⟨_,_,rfl,.inl (.inl (.inr ⟨_,s _ _ h⟩)),r⟩
 | _=>cases e
def tX:PV->M PV
 | .str z=>cA (z.length<=sizeLine) (M.ok (.int z.length))
 | p=>ed ((cB p).map λxs=>.int xs.length)
def c_:List PV->M PV
 | [p]=>tX p
 | _=>none
theorem aX.one(r:aX H [p] vs):∃ v,vs=[v]/\Rep H p v:=by
 cases r with
 | cons h r=>cases r;exact⟨_,rfl,h⟩
theorem aX.two{q:PV}(r:aX H [p,q] vs):∃ v u,vs=[v,u]/\Rep H p v/\Rep H q u:=by
 cases r with
 | cons h r=>obtain⟨u,rfl,h2⟩:=r.one;exact⟨_,_,rfl,h,h2⟩
def FZ(K:R5):List V->Hp->VK->Prop:=λxs H Q=>(∃ p ys,xs=[.ref p]/\(gS K H p ys\/gk K H p ys)/\Q (.int ys.length) H)\/∃ z,xs=[.str z]/\z.length<=sizeLine/\Q (.int z.length) H
theorem zP:dc X (.builtin "len") (FZ X.K):=dc.or ug tj
theorem IY{K:R5}:kQ E (FZ K) c_:=by
 intro σ Hs H ps vs Q s r h
 match ps,r with
 | [],_=>exact h.elim
 | _::_::_,_=>exact h.elim
 | [p],r =>
  obtain⟨v,rfl,rp⟩:=r.one;cases hp:cB p with
  | none =>
   cases p with
   | str z =>
    cases rp;obtain⟨hz,h⟩:=au.cA h;exact .inr ⟨z,rfl,hz,dh.flat h s (.int _)⟩
   | tup _=>cases hp
   | lst _=>cases hp
   | gc _=>cases hp
   | _=>exact h.elim
  | some xs =>
   obtain⟨a,us,rfl,hq,hx⟩:=wB (K:=K) s rp hp;have h':au (ed ((cB p).map λxs=>PV.int xs.length)) (dh Hs H Q) (XW (E σ) Hs H):=by
    cases p with
    | str z=>cases hp
    | _=>exact h
   rw[hp] at h';refine .inl ⟨a,us,rfl,hq,?_⟩;rw[<- hx.length];exact dh.flat h' s (.int _)
def sA:List PV->M PV
 | [p]=>ed ((cB p).map .lst)
 | _=>none
theorem D_{K:R5}:kQ E (λxs H Q=>∃ p ys,xs=[.ref p]/\(gS K H p ys\/gk K H p ys)/\∀ l,H l=none->Q (.ref l) (upd H l (.lst ys))) sA:=by
 intro σ Hs H ps vs Q s r h
 match ps,r with
 | [],_=>exact h.elim
 | _::_::_,_=>exact h.elim
 | [p],r =>
  obtain⟨v,rfl,rp⟩:=r.one;obtain⟨x,ex,h⟩:=au.opt h;obtain⟨xs,hp,rfl⟩:=Sn.mp ex;obtain⟨a,us,rfl,hq,hx⟩:=wB (K:=K) s rp hp;exact⟨a,us,rfl,hq,dh.lst h s hx⟩
def cW:List PV->M PV
 | [p]=>ed ((cB p).map .tup)
 | _=>none
theorem Bz{K:R5}:kQ E (λxs H Q=>∃ p ys,xs=[.ref p]/\((gS K H p ys/\∀ l,H l=none->Q (.ref l) (upd H l (.tup ys)))\/(gk K H p ys/\Q (.ref p) H))) cW:=by
 intro σ Hs H ps vs Q s r h
 match ps,r with
 | [],_=>exact h.elim
 | _::_::_,_=>exact h.elim
 | [p],r =>
  obtain⟨v,rfl,rp⟩:=r.one;obtain⟨x,ex,h⟩:=au.opt h;obtain⟨xs,hp,rfl⟩:=Sn.mp ex;cases rp with
  | tup ha hx=>cases hp;exact⟨_,_,rfl,.inr ⟨gk.of (s _ _ ha),dh.flat h s (.tup ha hx)⟩⟩
  | lst ha hx=>cases hp;exact⟨_,_,rfl,.inl ⟨gS.of (s _ _ ha),dh.tup h s hx⟩⟩
  | gc ha hx=>cases hp;exact⟨_,_,rfl,.inl ⟨.inl (.inr ⟨_,s _ _ ha⟩),dh.tup h s hx⟩⟩
  | _=>cases hp
def uQ:List PV->Option (List Int)
 | []=>some []
 | .int i::r=>(uQ r).map (i::·)
 | _=>none
def zg:List PV->Option (List Bool)
 | []=>some []
 | .bl i::r=>(zg r).map (i::·)
 | _=>none
theorem yw:∀ {ps:List PV} {ns:List Int},uQ ps=some ns->ps=ns.map PV.int
 | [],_,e=>by cases e;rfl
 | .int i::r,_,e=>by
  obtain⟨ms,h1,rfl⟩:=Sn.mp e;rw[yw h1];rfl
theorem xA:∀ {ps:List PV} {ns:List Bool},zg ps=some ns->ps=ns.map PV.bl
 | [],_,e=>by cases e;rfl
 | .bl i::r,_,e=>by
  obtain⟨ms,h1,rfl⟩:=Sn.mp e;rw[xA h1];rfl
theorem sd:∀ (ns:List Int),uQ (ns.map PV.int)=some ns
 | []=>rfl
 | n::r=>by show (uQ (r.map PV.int)).map (n::·)=_;rw[sd r];rfl
theorem vk:∀ (ns:List Bool),zg (ns.map PV.bl)=some ns
 | []=>rfl
 | n::r=>by show (zg (r.map PV.bl)).map (n::·)=_;rw[vk r];rfl
def Kc:PV->M PV
 | .lst xs=>ed ((uQ xs).map λns=>.int ns.sum)
 | _=>none
def xq:List PV->M PV
 | [p]=>Kc p
 | _=>none
theorem G9{K:R5}:kQ E (λxs H Q=>∃ (a:Addr) (ns:List Int),xs=[.ref a]/\gS K H a (ns.map V.int)/\Q (.int ns.sum) H) xq:=by
 intro σ Hs H ps vs Q s r h
 match ps,r with
 | [],_=>exact h.elim
 | _::_::_,_=>exact h.elim
 | [p],r =>
  obtain⟨v,rfl,rp⟩:=r.one;cases rp with
  | lst ha hx =>
   obtain⟨x,ex,h⟩:=au.opt h;obtain⟨ns,hn,rfl⟩:=Sn.mp ex;rw[yw hn] at hx;exact⟨_,ns,rfl,hx.ints▸gS.of (s _ _ ha),dh.flat h s (.int _)⟩
  | _=>exact h.elim
def all1:PV->M PV
 | .lst xs=>ed ((zg xs).map λns=>.bl (ns.all id))
 | _=>none
def qu:List PV->M PV
 | [p]=>all1 p
 | _=>none
theorem ID{K:R5}:kQ E (λxs H Q=>∃ (a:Addr) (bs:List Bool),xs=[.ref a]/\gS K H a (bs.map V.bl)/\Q (.bl (bs.all id)) H) qu:=by
 intro σ Hs H ps vs Q s r h
 match ps,r with
 | [],_=>exact h.elim
 | _::_::_,_=>exact h.elim
 | [p],r =>
  obtain⟨v,rfl,rp⟩:=r.one;cases rp with
  | lst ha hx =>
   obtain⟨x,ex,h⟩:=au.opt h;obtain⟨ns,hn,rfl⟩:=Sn.mp ex;rw[xA hn] at hx;exact⟨_,ns,rfl,hx.Kh▸gS.of (s _ _ ha),dh.flat h s (.bl _)⟩
  | _=>exact h.elim
def LH(o:Int->Int->Int):PV->PV->M PV
 | .int i,.int j=>M.ok (.int (o i j))
 | _,_=>none
def Fz(o:Int->Int->Int):List PV->M PV
 | [p,q]=>LH o p q
 | _=>none
theorem Fs{o:Int->Int->Int}:kQ E (λxs H Q=>∃ i j,xs=[.int i,.int j]/\Q (.int (o i j)) H) (Fz o):=by
 intro σ Hs H ps vs Q s r h
 match ps,r with
 | [],_=>exact h.elim
 | [_],_=>exact h.elim
 | _::_::_::_,_=>exact h.elim
 | [p,q],r =>
  obtain⟨v,u,rfl,rp,rq⟩:=r.two;cases rp with
  | int i=>cases rq with
   | int j=>exact⟨i,j,rfl,dh.flat h s (.int _)⟩
   | _=>exact h.elim
  | _=>exact h.elim
def cP(n:Nat)(sem:List PV->M PV):Sp:=λvs H Q E=>vs.length=n/\∃ Hs ps,bB Hs H/\aX Hs ps vs/\au (sem ps) (dh Hs H Q) (XW E Hs H)
variable{P9:List PV}
section
variable{sem:List PV->M PV}{p:Pos}{o:Expr}{fs:af->M (List PV)}{g:af->M PV}
theorem E5(F:aL X.prog X.w X.K X.mg X.base (bI X.prog X.w) k f fd ps (cP n sem))(hr:ck k X.A)(hg:Gl X x)(hm:X.mg x=some (.ref f))(hk:SN X.K (.ref f)=true)(hb:Binds X.K fd ps ds)(hd:Vals Pb ds)(hdp:∀ H,aX H P9 Pb)(O:dU X E)
  (hl:∀ ps,sem (ps++P9)≠none->ps.length+P9.length=n)
  (ha:PA X (e::es) (tL E fs)) (Po:autoParam ((x==("__debug__" : Str))=false) aD._auto_1) (he:autoParam (starEach (e::es) X.env=(false,eval e X.env)::starEach es X.env) aR._auto_1) (Oy:autoParam ((backTo pos (starEach es X.env)).any (·.1)=false) aR._auto_1) :
  PE X (.Call (.Name x p) (e::es) [] pos) (tE E (ai (λps=>sem (ps++P9)) fs)):=by
 refine(Dk F hr hg hm hk hb hd O ha Po he Oy).imp fun σ H Q q=>dH (K:=gW Q) gW.g q λB H₀ Hs H1 env PD v sr rp hp=>?_;have r2:aX Hs (PD++P9) (v++Pb):=rp.append (hdp Hs);have hn:sem (PD++P9)≠none:=λz=>by rw[z] at hp;exact hp
 refine⟨?_,Hs,PD++P9,sr.gr.sub,r2,hp⟩;rw[<- r2.length,Sw];exact hl PD hn
def cv(ok:Addr->Bool)(f:Str)(g:af->M PV):af->M PV:=λenv=>(g env).bind λp=>match p with
 | .obj C fs=>cA (ok C=true) (ed (fs.lookup f))
 | _=>none
theorem GP{ok:Addr->Bool}{fl:Str}(he:PE X e (tE E g))(bJ:∀ C,ok C=true->iK X.K C/\bf X.K C fl)(hb:attributeBase e fl X.env (eval e X.env)=eval e X.env):PE X (.Attribute e fl pos) (tE E (cv ok fl g)):=by
 refine(HK he hb).imp fun σ H Q q=>bD (K:=gW Q) gW.g q λB H₀ Hs H1 env p v sr rp hp=>?_;cases rp with
 | obj ha hx =>
  obtain⟨hc,hp⟩:=au.cA hp;obtain⟨x,ex,hp⟩:=au.opt hp;obtain⟨u,h1,h2⟩:=hx.look ex;exact⟨_,_,_,_,u,rfl,sr.gr.sub _ _ ha,(bJ _ hc).1,(bJ _ hc).2,h1,dh.flat hp sr.gr.sub h2⟩
 | _=>exact hp.elim
def bP(C:Addr)(m:Str)(sem:List PV->M PV)(g:af->M PV)(fs:af->M (List PV)):af->M PV:=λenv=>(g env).bind λp=>match p with
 | .obj C' fl=>cA (C'=C/\fl.lookup m=none) ((fs env).bind λps=>sem (.obj C' fl::ps))
 | _=>none
theorem D1(he:PE X o (tE E g))(c:iK X.K C)(hm:Meth X.K C m f)(F:aL X.prog X.w X.K X.mg X.base (bI X.prog X.w) k f fd ps (cP n sem))(hr:ck k X.A)(hb:Binds X.K fd ps [])(O:dU X E)(hl:∀ ps,sem ps≠none->ps.length=n)(ha:PA X (e::es) (tL E fs))
  (O6:autoParam (starEach (e::es) X.env=(false,eval e X.env)::starEach es X.env) aR._auto_1) (Oy:autoParam ((backTo pos (starEach es X.env)).any (·.1)=false) aR._auto_1)
  (ht:autoParam (eval (.Call (.Attribute o m apos) (e::es) [] pos) X.env=(do
   let ov <- eval o X.env
   standAt apos.atName
   let (f,first) <- holding [ov] (getMethod ov m pl)
   callWith pos f first (backTo pos (starEach (e::es) X.env)) (backToKw pos (keywordEach [] X.env)))) aR._auto_1) :
  PE X (.Call (.Attribute o m apos) (e::es) [] pos) (tE E (bP C m sem g fs)):=by
 refine(Bq he c hm F hr hb .nil O ha O6 Oy ht).imp fun σ H Q q=>bD (K:=gW Q) gW.g q λB H₀ Hs H1 env p v sr rp hp=>?_;cases rp with
 | @obj a C' dx fl fvs ho hx =>
  obtain⟨⟨e1,hn⟩,Du⟩:=au.cA hp;subst e1;refine⟨a,dx,fvs,rfl,sr.gr.sub _ _ ho,hx.none hn,B,H₀,Hs,env,sr,(au.bind Du).imp (λPD Qi vs Of H' g' r=>?_) λe he=>he⟩;have r2:aX Of (.obj C' fl::PD) (V.ref a::(vs++[])):=by rw[SK];exact .cons ((Rep.obj ho hx).mono g'.st) r
  have hn:sem (.obj C' fl::PD)≠none:=λz=>by rw[z] at Qi;exact Qi
  refine⟨by rw[<- r2.length];exact hl _ hn,Of,_,g'.sub,r2,Qi.imp (λz hz w Oo H2 g2 r2=>hz w Oo H2 (g'.trans g2) r2) λe he=>he.grow g'⟩
 | _=>exact hp.elim
theorem B8(he:PE X o (tE E g))(c:iK X.K C)(hm:Meth X.K C m f)(F:aL X.prog X.w X.K X.mg X.base (bI X.prog X.w) k f fd ps (cP n sem))(hr:ck k X.A)(hb:Binds X.K fd ps [])(O:dU X E)(hl:∀ ps,sem ps≠none->ps.length=n)
  (ht:autoParam (eval (.Call (.Attribute o m apos) [] [] pos) X.env=(do
   let ov <- eval o X.env
   standAt apos.atName
   let (f,first) <- holding [ov] (getMethod ov m pl)
   callWith pos f first (backTo pos (starEach [] X.env)) (backToKw pos (keywordEach [] X.env)))) aR._auto_1) :
  PE X (.Call (.Attribute o m apos) [] [] pos) (tE E (bP C m sem g aj)):=by
 refine(Ad he c hm F hr hb .nil O ht).imp fun σ H Q q=>bD (K:=gW Q) gW.g q λB H₀ Hs H1 env p v sr rp hp=>?_;cases rp with
 | @obj a C' dx fl fvs ho hx =>
  obtain⟨⟨e1,hn⟩,Du⟩:=au.cA hp;subst e1;have r2:aX Hs [.obj C' fl] [V.ref a]:=.cons (Rep.obj ho hx) .nil;have RO:sem [.obj C' fl]≠none:=λz=>by
   have Q9:au (sem [.obj C' fl]) (dh Hs H1 Q) (XW (E σ) Hs H1):=Du;rw[z] at Q9;exact Q9
  exact⟨a,dx,fvs,rfl,sr.gr.sub _ _ ho,hx.none hn,by rw[show ([]:List V)++[]=[] from rfl];exact r2.length▸hl _ RO,Hs,_,sr.gr.sub,r2,Du⟩
 | _=>exact hp.elim
end
inductive Out where
 | nx (env:af) | rt (p:PV) | bk (env:af) | ct (env:af)
def KS(D:Ends)(B H₀:Hp):Out->Prop
 | .nx env=>∀ σ Hs H,SR B H₀ Hs H σ env->D.nx σ H
 | .rt p=>∀ v Hs H,bF B H₀ Hs H->Rep Hs p v->D.rt v H
 | .bk env=>∀ σ Hs H,SR B H₀ Hs H σ env->D.bk σ H
 | .ct env=>∀ σ Hs H,SR B H₀ Hs H σ env->D.ct σ H
def tS(E:XK)(f:af->M Out):TS:=λD σ H=>∃ B H₀ Hs env,SR B H₀ Hs H σ env/\au (f env) (KS D B H₀) (XW E B H₀)
theorem PS.imp{st:Stmt}{t t':TS}(h:PS X st t)(i:∀ D σ H,t' D σ H->t D σ H):PS X st t':=λOa s σ H D I q=>h Oa s σ H D I (i D σ H q)
theorem kO.imp{st:List Stmt}{t t':TS}(h:kO X st t)(i:∀ D σ H,t' D σ H->t D σ H):kO X st t':=λOa s σ H D I q=>h Oa s σ H D I (i D σ H q)
def aq:af->M Out:=λenv=>M.ok (.nx env)
def Ar(g:af->M Out):Out->M Out
 | .nx env=>g env
 | o=>M.ok o
noncomputable def ao(f g:af->M Out):af->M Out:=λenv=>(f env).bind (Ar g)
theorem iY{E:XK}{f:af->M PV}{g:af->PV->M Out}{D:Ends}{R:VK}(h:tS E (λenv=>(f env).bind (g env)) D σ H)
  (k:∀ B H₀ Hs H1 env p v,SR B H₀ Hs H1 σ env->Rep Hs p v->au (g env p) (KS D B H₀) (XW E B H₀)->R v H1):tE (λ_=>E) f σ H R:=by
 obtain⟨B,H₀,Hs,env,sr,h⟩:=h;refine⟨B,H₀,Hs,env,sr,(au.bind h).imp (λp hp v Of H' g r=>?_) λe he=>he.grow sr.gr⟩;exact k B H₀ Of H' env p v (sr.grow g) r hp
theorem BJ{E:XK}{f:af->M Bool}{g:af->Bool->M Out}{D:Ends}{R:Bool->Hp->Prop}(h:tS E (λenv=>(f env).bind (g env)) D σ H)
  (k:∀ B H₀ Hs H1 env p,SR B H₀ Hs H1 σ env->au (g env p) (KS D B H₀) (XW E B H₀)->R p H1):tT (λ_=>E) f σ H R:=by
 obtain⟨B,H₀,Hs,env,sr,h⟩:=h;refine⟨B,H₀,Hs,env,sr,(au.bind h).imp (λp hp Of H' g=>?_) λe he=>he.grow sr.gr⟩;exact k B H₀ Of H' env p (sr.grow g) hp
theorem p7{E:XK}{f:af->M (List PV)}{g:af->List PV->M Out}{D:Ends}{R:List V->Hp->Prop}(h:tS E (λenv=>(f env).bind (g env)) D σ H)
  (k:∀ B H₀ Hs H1 env p v,SR B H₀ Hs H1 σ env->aX Hs p v->au (g env p) (KS D B H₀) (XW E B H₀)->R v H1):tL (λ_=>E) f σ H R:=by
 obtain⟨B,H₀,Hs,env,sr,h⟩:=h;refine⟨B,H₀,Hs,env,sr,(au.bind h).imp (λp hp v Of H' g r=>?_) λe he=>he.grow sr.gr⟩;exact k B H₀ Of H' env p v (sr.grow g) r hp
theorem SR.set{B H₀ Hs H:Hp}{σ:St}{env:af}{p:PV}{v:V}{i:Nat}(r:SR B H₀ Hs H σ env)(h:Rep Hs p v):SR B H₀ Hs H (σ.set i (some v)) (env.set i (some (.sh p))) :=
 r.chg r.gr (λ_ _ q=>q) (λ_ e=>by cases e;exact⟨v,rfl,h⟩) (λ_ _ _ _ _ _ _ _ h1 h2 _=>⟨h1,h2⟩) λ_ e o=>by cases e;cases o
theorem SR.own{B:Hp}{env:af}{p:Addr}(r:SR B H₀ Hs H σ env)(h:aX Hs xs vs)(n:H p=none):SR B H₀ Hs (upd H p (.lst vs)) (σ.set i (some (.ref p))) (env.set i (some (.ow xs))) :=
 r.chg (r.gr.l8 (r.free n).1 (r.free n).2) (λ_ _ q=>q) (λ_ e=>by cases e;exact⟨_,rfl,p,vs,rfl,aA,(r.free n).1,(r.free n).2,h⟩) (λ_ _ a u _ _ _ _ h1 h2 _=>⟨by rw[av (λz=>by rw[z,n] at h1;cases h1)];exact h1,h2⟩) λ_ _ _ k z _=>r.held n k z
def qN(i:Nat)(env:af):af:=match env[i]? with
 | some (some (.ow xs))=>env.set i (some (.sh (.lst xs)))
 | _=>env
theorem SR.KN{B:Hp}{env:af}(r:SR B H₀ Hs H σ env)(e:env[i]?=some (some (.ow xs))):∃ a vs,Hs a=none/\H a=some (.lst vs)/\SR B H₀ (upd Hs a (.lst vs)) H σ (env.set i (some (.sh (.lst xs))))/\bB Hs (upd Hs a (.lst vs)):=by
 obtain⟨a,vs,h1,h2,h3,h4,h5⟩:=r.ow i xs e;obtain⟨g,st⟩:=r.gr.into h2 h3 h4;refine⟨a,vs,h3,h2,r.Fe h1 g st (λ_ q=>by cases q;exact⟨_,rfl,.lst aA (h5.mono st)⟩) (λj y b u n ej o z q1 q2 _=>⟨q1,by rw[av (λw=>by subst w;exact r.ap i j _ y b n e ej rfl o h1 z)];exact q2⟩) λ_ q o=>(by cases q;cases o),st⟩
theorem SR.jM{B:Hp}{env:af}(i:Nat)(r:SR B H₀ Hs H σ env):∃ Of,SR B H₀ Of H σ (qN i env)/\bB Hs Of:=by
 unfold qN
 split
 .obtain⟨a,vs,_,_,h⟩:=r.KN (by assumption);exact⟨_,h⟩
 .exact⟨Hs,r,λ_ _ q=>q⟩
def vY(is:List Nat)(f:af->M Out):af->M Out:=λenv=>f (is.foldl (λe i=>qN i e) env)
theorem SR.j3{B H₀ H:Hp}{σ:St}:∀ {is:List Nat} {Hs:Hp} {env:af},SR B H₀ Hs H σ env->∃ Of,SR B H₀ Of H σ (is.foldl (λe i=>qN i e) env)/\bB Hs Of
 | [],Hs,_,r=>⟨Hs,r,λ_ _ q=>q⟩
 | i::is,_,_,r=>by
  obtain⟨Ov,r1,s1⟩:=r.jM i;obtain⟨Oo,r2,s2⟩:=SR.j3 (is:=is) r1;exact⟨Oo,r2,λc u q=>s2 c u (s1 c u q)⟩
section
variable{E:XK}{f:af->M PV}{st:Stmt}{sts rest:List Stmt}{u:af->M Bool}{g h:af->M Out}
theorem Ib(is:List Nat)(hs:PS X st (tS E g)):PS X st (tS E (vY is g)):=hs.imp λD σ H q=>by
 obtain⟨B,H₀,Hs,env,sr,q⟩:=q;obtain⟨Of,r,_⟩:=sr.j3 (is:=is);exact⟨B,H₀,Of,_,r,q⟩
theorem DB:kO X [] (tS E aq):=ya.imp λD σ H q=>by
 obtain⟨B,H₀,Hs,env,sr,q⟩:=q;exact q σ Hs H sr
theorem CH(h1:PS X st (tS E g))(h2:kO X rest (tS E h)):kO X (st::rest) (tS E (ao g h)):=by
 refine(vc h1 h2).imp λD σ H q=>?_;obtain⟨B,H₀,Hs,env,sr,q⟩:=q;refine⟨B,H₀,Hs,env,sr,(au.bind q).imp (λo ho=>?_) λe he=>he⟩;cases o with
 | nx Oc=>exact fun σ' Of H' PZ=>⟨B,H₀,Of,Oc,PZ,ho⟩
 | rt p=>exact ho
 | bk Oc=>exact ho
 | ct Oc=>exact ho
def aY(i:Nat)(f:af->M PV):af->M Out:=λenv=>(f env).bind λp=>M.ok (.nx (env.set i (some (.sh p))))
theorem Hz(hN:X.N.Nodup)(hi:X.N[i]?=some x)(hx:Loc X.env.scope x)(he:PE X e (tE (λ_=>E) f))(hs:autoParam (swapsWith e (some (.Name x pos')) pos.line X.env=pure false) aR._auto_1)(hf:autoParam (X.fn x=true\/X.env.scope.names.lookup x=some .local) aF._auto_1) :
  PS X (.Assign [.Name x pos'] e pos) (tS E (aY i f)) :=
 (Dq hN hi hx he hs hf).imp λD σ H q=>iY q λB H₀ Hs H1 env p v sr rp hp=>hp _ Hs H1 (sr.set rp)
def retS(f:af->M PV):af->M Out:=λenv=>(f env).bind λp=>M.ok (.rt p)
theorem Ij(he:PE X e (tE (λ_=>E) f)):PS X (.Return (some e) pos) (tS E (retS f)) :=
 (AO he).imp λD σ H q=>iY q λB H₀ Hs H1 env p v sr rp hp=>hp v Hs H1 sr.gr rp
def dy(f:af->M PV):af->M Out:=λenv=>(f env).bind λ_=>M.ok (.nx env)
theorem DS(he:PE X e (tE (λ_=>E) f))(hs:autoParam (swapsWith e none pos.line X.env=pure false) aR._auto_1):PS X (.Expr e pos) (tS E (dy f)) :=
 (pd he hs).imp λD σ H q=>iY q λB H₀ Hs H1 env p v sr rp hp=>hp σ Hs H1 sr
def i7(u:af->M Bool)(g h:af->M Out):af->M Out:=λenv=>(u env).bind λb=>if b=true then g env else h env
theorem Kv{a b:List Stmt}(hc:PT X c (tT (λ_=>E) u))(ha:kO X a (tS E g))(hb:kO X b (tS E h)):PS X (.If c a b pos) (tS E (i7 u g h)):=by
 refine(Ki hc ha hb).imp λD σ H q=>BJ q λB H₀ Hs H1 env p sr hp=>?_;cases p with
 | true=>exact⟨B,H₀,Hs,env,sr,hp⟩
 | false=>exact⟨B,H₀,Hs,env,sr,hp⟩
end
def ov(Hs H₀:Hp):Hp:=λa=>match Hs a with
 | some o=>some o
 | none=>H₀ a
theorem sX(h:Hs a=some o):ov Hs H₀ a=some o:=by unfold ov;rw[h]
theorem mJ(h:Hs a=none):ov Hs H₀ a=H₀ a:=by unfold ov;rw[h]
theorem ES(s:bB Hs H)(t:bB H₀ H):bB (ov Hs H₀) H:=λa o e=>by
 cases q:Hs a with
 | some o'=>rw[sX q] at e;cases e;exact s _ _ q
 | none=>rw[mJ q] at e;exact t _ _ e
theorem SR.rebase{B:Hp}{env:af}(r:SR B H₀ Hs H σ env):SR Hs (ov Hs H₀) Hs H σ env :=
 r.mv ⟨λ_ _ e=>e,ES r.gr.sub r.gr.al,r.gr.sub,λ_ _ e _ _=>e⟩ r.len (λ_ _ q=>q) λ_ _ e=>⟨e,rfl,λa u _ _ h1 h2 h3 _=>⟨h1,h2,by rw[mJ h2];exact h3⟩⟩
theorem bF.lP{B Oo H2:Hp}(g:bF B H₀ Hs H)(g2:bF Hs (ov Hs H₀) Oo H2):bF B H₀ Oo H2 where
 st:=λa o e=>g2.st a o (g.st a o e)
 al:=λa o e=>by
  cases q:Hs a with
  | some o' =>
   have h1:=g.sub a o' q;have h2:=g.al a o e;rw[h1] at h2;cases h2;exact g2.al a _ (sX q)
  | none=>exact g2.al a o (by rw[mJ q];exact e)
 sub:=g2.sub
 nw:=λa o e q t=>by
  have h1:=g.nw a o e q t;exact g2.nw a o h1 (by rw[mJ h1];exact q) t
theorem SR.lP{B H₀ Hs H Oo H2:Hp}{σ:St}{env:af}(g:bF B H₀ Hs H)(r:SR Hs (ov Hs H₀) Oo H2 σ env):SR B H₀ Oo H2 σ env :=
 r.mv (g.lP r.gr) r.len (λ_ _ q=>q) λ_ _ e=>⟨e,rfl,λa u _ _ h1 h2 h4 _=>⟨h1,h2,by
  cases q:Hs a with
  | some o=>rw[sX q] at h4;cases h4
  | none=>rw[mJ q] at h4;exact h4⟩⟩
theorem XW.rebase{E:XK}{B:Hp}(g:bF B H₀ Hs H){x:EX}(h:XW E B H₀ x):XW E Hs (ov Hs H₀) x:=λea Oo H2 r q=>h ea Oo H2 (g.lP r) q
def C0(k:af->M Out):Out->M Out
 | .nx env=>k env
 | .ct env=>k env
 | .bk env=>M.ok (.nx env)
 | .rt p=>M.ok (.rt p)
def gZ(set:PV->af->M af)(body:af->M Out):List PV->af->M Out
 | [],env=>M.ok (.nx env)
 | x::xs,env=>(set x env).bind λOc=>(body Oc).bind (C0 (gZ set body xs))
def AL(E:XK)(g:TG)(set:PV->af->M af):Prop:=∀ (B H₀ Hs H:Hp) (σ:St) (env:af) (p:PV) (v:V) (Q:St->Hp->Prop) (Z:EX->Prop),SR B H₀ Hs H σ env->Rep Hs p v->au (set p env) (λOc=>∀ σ',SR B H₀ Hs H σ' Oc->Q σ' H) Z->g v σ H Q
def cX(i:Nat)(p:PV)(env:af):M af:=M.ok (env.set i (some (.sh p)))
theorem bA{E:XK}:AL E (aH i) (cX i):=λB H₀ Hs H σ env p v Q Z sr r h=>h _ (sr.set r)
def b_(i j:Nat):PV->af->M af
 | .tup [p,q],env=>M.ok ((env.set i (some (.sh p))).set j (some (.sh q)))
 | _,_=>none
theorem cb{E:XK}{K:R5}:AL E (fN K 2 (bg (aH i) (bg (aH j) fP))) (b_ i j):=by
 intro B H₀ Hs H σ env p v Q Z sr r h;cases r with
 | @tup a xs vs ha hx =>
  match xs,hx with
  | [p,q],hx =>
   obtain⟨v,u,rfl,rp,rq⟩:=hx.two;exact⟨a,[v,u],rfl,gk.of (sr.gr.sub _ _ ha),rfl,v,[u],rfl,u,[],rfl,rfl,h _ ((sr.set rp).set rq)⟩
  | [],_=>exact h.elim
  | [_],_=>exact h.elim
  | _::_::_::_,_=>exact h.elim
 | _=>exact h.elim
section
variable{E:XK}{g:TG}{set:PV->af->M af}{body:af->M Out}{D:Ends}{B:Hp}
def Jv(E:XK)(set:PV->af->M af)(body:af->M Out)(D:Ends)(B H₀ Ov:Hp)(xs:List PV)(i:Nat)(σ:St)(H:Hp):Prop:=∃ Hs env,SR B H₀ Hs H σ env/\bB Ov Hs/\au (gZ set body (xs.drop i) env) (KS D B H₀) (XW E B H₀)
theorem Jv.done(j:Jv E set body D B H₀ Ov xs n σ H)(hn:xs.length<=n):D.nx σ H:=by
 obtain⟨Hs,env,sr,_,h⟩:=j;rw[VA hn] at h;exact h σ Hs H sr
theorem Jv.turn{H1 Hx:Hp}{x:PV}(tg:AL E g set)(hx:xs[i]?=some x){env:af}(sr:SR B H₀ Hs H σ env)(s1:bB Ov Hs)(h:au (gZ set body (xs.drop i) env) (KS D B H₀) (XW E B H₀)){Oo H2:Hp}(gr:bF Hs H Oo H2)(rv:Rep Oo x v) :
  g v σ H2 fun σ2 H3=>tS E body { D with nx:=Jv E set body D B H₀ Ov xs (i+1),ct:=Jv E set body D B H₀ Ov xs (i+1),bk:=D.nx } σ2 H3:=by
 have PH:i<xs.length:=(S5.mp hx).1;have hd:xs.drop i=x::xs.drop (i+1):=by
  rw[Uq PH];rw[R8 PH] at hx;rw[Sm hx]
 rw[hd] at h;have OX:=sr.grow gr;refine tg B H₀ Oo H2 σ env x v _ _ OX rv ((au.bind h).imp (λOc h' σ' PZ=>?_) λ_ z=>z);refine⟨Oo,ov Oo H₀,Oo,Oc,PZ.rebase,(au.bind h').imp (λo ho=>?_) λe he=>he.rebase PZ.gr⟩;cases o with
 | nx e2=>exact fun σ3 Qb H3 r=>⟨Qb,e2,r.lP PZ.gr,λa o z=>r.gr.st a o (gr.st a o (s1 a o z)),ho⟩
 | ct e2=>exact fun σ3 Qb H3 r=>⟨Qb,e2,r.lP PZ.gr,λa o z=>r.gr.st a o (gr.st a o (s1 a o z)),ho⟩
 | bk e2=>exact fun σ3 Qb H3 r=>ho σ3 Qb H3 (r.lP PZ.gr)
 | rt p=>exact λv3 Qb H3 r q=>ho v3 Qb H3 (PZ.gr.lP r) q
end
def i8(it:af->M (List PV))(set:PV->af->M af)(body:af->M Out):af->M Out:=λenv=>(it env).bind λxs=>gZ set body xs env
def itemsOf(f:af->M PV):af->M (List PV):=λenv=>(f env).bind λp=>match cB p with | some xs=>M.ok xs | none=>none
theorem sR{K:R5}(s:bB Hs H)(r:Rep Hs p v)(e:cB p=some xs):∃ b a vs,v=.ref a/\(∀ Of H',bB Hs Of->bB Of H'->uK K H' b a vs)/\aX Hs xs vs:=by
 cases r with
 | tup h r=>cases e;exact⟨false,_,_,rfl,λOf H' s1 s2=>gk.of (s2 _ _ (s1 _ _ h)),r⟩
 | lst h r=>cases e;exact⟨true,_,_,rfl,λOf H' s1 s2=>gS.of (s2 _ _ (s1 _ _ h)),r⟩
 | gc h r=>cases e;exact⟨true,_,_,rfl,λOf H' s1 s2=>.inl (.inr ⟨_,s2 _ _ (s1 _ _ h)⟩),r⟩
 | _=>cases e
section
variable{E:XK}{p:Pos}{f f2:af->M PV}{g:TG}{set:PV->af->M af}{body:af->M Out}{bd:List Stmt}
end
def LJ:PV->M (List PV)
 | .int n=>cA (-(2^62)<=n/\n<2^62) (M.ok ((S7 n.toNat).map λ(i:Nat)=>.int (0+(i:Int))))
 | _=>none
def Lz:PV->PV->M (List PV)
 | .int a,.int b=>cA (-(2^62)<=a/\a<2^62/\-(2^62)<=b/\b<2^62) (M.ok ((S7 (b-a).toNat).map λ(i:Nat)=>.int (a+(i:Int))))
 | _,_=>none
def uj:List PV->M (List PV)
 | [p]=>LJ p
 | _=>none
def wW:List PV->M (List PV)
 | [p,q]=>Lz p q
 | _=>none
variable{Z:EX->Prop}
theorem z9{ps:List PV}{k:List PV->M α}{Q:α->Prop}(h:au ((uj ps).bind k) Q Z):∃ n:Int,ps=[.int n]/\-(2^62)<=n/\n<2^62/\au (k ((S7 n.toNat).map λ(i:Nat)=>.int (0+(i:Int)))) Q Z:=by
 match ps with
 | []=>exact h.elim
 | _::_::_=>exact h.elim
 | [p] =>
  cases p with
  | int n =>
   obtain⟨hc,h⟩:=au.cA (au.bind h);exact⟨n,rfl,hc.1,hc.2,h⟩
  | _=>exact h.elim
theorem zF{ps:List PV}{k:List PV->M α}{Q:α->Prop}(h:au ((wW ps).bind k) Q Z):∃ a b:Int,ps=[.int a,.int b]/\(-(2^62)<=a/\a<2^62/\-(2^62)<=b/\b<2^62)/\au (k ((S7 (b-a).toNat).map λ(i:Nat)=>.int (a+(i:Int)))) Q Z:=by
 match ps with
 | []=>exact h.elim
 | [_]=>exact h.elim
 | _::_::_::_=>exact h.elim
 | [p,q] =>
  cases p with
  | int a=>cases q with
   | int b =>
    obtain⟨hc,h⟩:=au.cA (au.bind h);exact⟨a,b,rfl,hc,h⟩
   | _=>exact h.elim
  | _=>exact h.elim
def zip2:List PV->M (List PV)
 | [p,q]=>match cB p,cB q with
  | some xs,some ys=>M.ok (W2 (λa b=>.tup [a,b]) xs ys)
  | _,_=>none
 | _=>none
theorem zp{ps:List PV}{k:List PV->M α}{Q:α->Prop}(h:au ((zip2 ps).bind k) Q Z):∃ p q xs ys,ps=[p,q]/\cB p=some xs/\cB q=some ys/\au (k (W2 (λa b=>.tup [a,b]) xs ys)) Q Z:=by
 match ps with
 | []=>exact h.elim
 | [_]=>exact h.elim
 | _::_::_::_=>exact h.elim
 | [p,q] =>
  unfold zip2 at h;dsimp only at h;cases e1:cB p with
  | none=>rw[e1] at h;exact h.elim
  | some xs =>
   cases e2:cB q with
   | none=>rw[e1,e2] at h;exact h.elim
   | some ys=>rw[e1,e2] at h;exact⟨p,q,xs,ys,rfl,e1,e2,h⟩
theorem ze{f:Nat->PV}(h:i<n):((S7 n).map f)[i]?=some (f i):=by
 rw[Sx,List.getElem?_range h];rfl
section
variable{E:XK}{a b l l1 l2:Expr}{p tp:Pos}{fs:af->M (List PV)}{g:TG}{set:PV->af->M af}{body:af->M Out}{bd:List Stmt}
end
def KO(Q:VK):Hp->Hp->List PV->Prop:=λHs H ps=>∀ vs p Of H',bF Hs H Of H'->aX Of ps vs->H' p=none->Q (.ref p) (upd H' p (.lst vs))
def tO(E:St->XK)(f:af->M (List PV)):TE:=fun σ H Q=>tG E f (KO Q) σ H
variable{px:Pos}
section
variable{E:XK}{fs:af->M (List PV)}{f:af->M PV}
def tD(i:Nat)(f:af->M (List PV)):af->M Out:=λenv=>(f env).bind λps=>M.ok (.nx (env.set i (some (.ow ps))))
theorem E4(hN:X.N.Nodup)(hi:X.N[i]?=some x)(hx:Loc X.env.scope x)(he:PE X e (tO (λ_=>E) fs))(hs:autoParam (swapsWith e (some (.Name x pos')) pos.line X.env=pure false) aR._auto_1)(hf:autoParam (X.fn x=true\/X.env.scope.names.lookup x=some .local) aF._auto_1) :
  PS X (.Assign [.Name x pos'] e pos) (tS E (tD i fs)):=by
 refine(Dq hN hi hx he hs hf).imp λD σ H q=>?_;obtain⟨B,H₀,Hs,env,sr,q⟩:=q;refine⟨B,H₀,Hs,env,sr,(au.bind q).imp (λps hp vs p Of H' g r n=>?_) λe he=>he.grow sr.gr⟩;exact hp _ Of _ ((sr.grow g).own r n)
def n9(fs:af->M (List PV)):af->M (List PV):=λenv=>(fs env).bind λps=>if ps.length<=sizeLine then M.ok ps else none
theorem Ie{E:St->XK}(hr:PA X es (tL E fs)):PE X (.List es pos) (tO E (n9 fs)):=by
 refine(Bo hr).imp fun σ H Q q=>?_;obtain⟨B,H₀,Hs,env,sr,q⟩:=q;refine⟨B,H₀,Hs,env,sr,(au.bind q).imp (λps hp vs Of H' g r=>?_) λe he=>he⟩
 by_cases hz:ps.length<=sizeLine
 .rw[if_pos hz] at hp;exact⟨by rw[<- r.length];exact hz,λp n=>hp vs p Of H' g r n⟩
 .rw[if_neg hz] at hp;exact hp.elim
def B_(f:af->M PV):af->M (List PV):=itemsOf f
def tm(i:Nat)(f:af->M PV):af->M Out:=λenv=>match env[i]? with
 | some (some (.ow xs))=>(f env).bind λp=>if xs.length<sizeLine then M.ok (.nx (env.set i (some (.ow (xs++[p]))))) else none
 | _=>none
theorem SR.put{B:Hp}{env:af}{ys:List PV}{us:List V}(r:SR B H₀ Hs H σ env)(e:env[i]?=some (some (.ow xs)))(hi:σ[i]?=some (some (.ref a)))(h:aX Hs ys us):SR B H₀ Hs (upd H a (.lst us)) σ (env.set i (some (.ow ys))):=by
 obtain⟨a',vs,h1,h2,h3,h4,h5⟩:=r.ow i xs e;rw[hi] at h1;cases h1;exact r.Fe hi (r.gr.l8 h3 h4) (λ_ _ q=>q) (λ_ q=>by cases q;exact⟨_,rfl,a,us,rfl,aA,h3,h4,h⟩) (λj y b u n ej o z q1 q2 _=>⟨by rw[av (λw=>by subst w;exact r.ap i j _ y b n e ej rfl o hi z)];exact q1,q2⟩) λ_ _ _ k z n ek o=>r.ap i k _ z a n e ek rfl o hi
theorem Aa(hi:X.N[i]?=some x)(hv:BE X.env.scope x)(he:PE X e (tE (λ_=>E) f))(hd:autoParam ((x==("__debug__" : Str))=false) aD._auto_1)(Pn:autoParam ((x==("__classdict__" : Str))=false) aD._auto_1)
  (Pp:autoParam (attributeBase (.Name x px) "append" X.env (eval (.Name x px) X.env)=eval (.Name x px) X.env) aR._auto_1)
  (QR:autoParam (((backTo Om (starEach [e] X.env)).all (λx=>!x.1)&&(backToKw Om (keywordEach [] X.env)).all (λx=>x.1.isSome)
   && decide (([e]:List Expr).length+([]:List Keyword).length+(if ([]:List Keyword).isEmpty then 0 else 1)<30))=true) aR._auto_1)
  (Pq:autoParam ((apos.endLine==Om.line)=true) aR._auto_1) (O6:autoParam (starEach [e] X.env=(false,eval e X.env)::starEach [] X.env) aR._auto_1) (P0:autoParam ((backTo Om (starEach [] X.env)).any (·.1)=false) aR._auto_1)
  (hs:autoParam (swapsWith (.Call (.Attribute (.Name x px) "append" apos) [e] [] Om) none pos.line X.env=pure false) aR._auto_1) :
  PS X (.Expr (.Call (.Attribute (.Name x px) "append" apos) [e] [] Om) pos) (tS E (tm i f)):=by
 refine(pd (FO Vj PySem.F.slot_list_append PySem.F.type_list_append rR (lj hi hv hd Pn) (dj he jw O6) Pp QR Pq O6 P0) hs).imp λD σ H q=>?_;obtain⟨B,H₀,Hs,env,sr,q⟩:=q;unfold tm at q
 split at q
 .rename_i xs ex;obtain⟨a,vs,h1,h2,h3,h4,h5⟩:=sr.ow i xs ex;refine⟨.ref a,h1,.inl ⟨rfl,vs,gS.of h2⟩,B,H₀,Hs,env,sr,(au.bind q).imp (λp hp v Of H' g r=>?_) λe he=>he.grow sr.gr⟩
  by_cases hz:xs.length<sizeLine
  .rw[if_pos hz] at hp;have PZ:=sr.grow g;have r5:aX Of (xs++[p]) (vs++[v]):=(h5.mono g.st).snoc r;exact⟨a,vs,v,rfl,rfl,g.al _ _ h2,by rw[<- h5.length];exact hz,hp σ Of _ (PZ.put ex h1 r5)⟩
  .rw[if_neg hz] at hp;exact hp.elim
 .exact q.elim
end
def Hj:Out->M PV
 | .rt p=>M.ok p
 | .nx _=>M.ok .bG
 | _=>none
def lS(m:Nat)(ps:List PV):af:=ps.map (λp=>some (.sh p))++R7 (m-ps.length) none
def ar(m:Nat)(g:af->M Out)(ps:List PV):M PV:=(g (lS m ps)).bind Hj
theorem SR.start{Hs H:Hp}{N:List Str}{ps:List PV}{vs:List V}(s:bB Hs H)(r:aX Hs ps vs):SR Hs H Hs H (start N vs) (lS N.length ps):=by
 have key:∀ (i:Nat) (x:SV),(lS N.length ps)[i]?=some (some x)->∃ p v,x=.sh p/\(L2.start N vs)[i]?=some (some v)/\Rep Hs p v:=λi x e=>by
  unfold lS at e;unfold L2.start
  by_cases hi:i<ps.length
  .rw[S6 (by simpa using hi),Sx,R8 hi] at e;cases e;obtain⟨v,h1,h2⟩:=r.get (R8 hi);exact⟨_,v,rfl,by rw[S6 (by simpa using (r.length▸hi)),Sx,h1];rfl,h2⟩
  .rw[S2 (by simpa using hi),Vh] at e
   split at e <;> cases e
 exact⟨.refl s,by unfold L2.start lS;simp[r.length],λi x e=>by obtain⟨p,v,rfl,h⟩:=key i x e;exact⟨v,h⟩,λi j x y a _ e _ o=>by obtain⟨p,v,rfl,h⟩:=key i x e;cases o⟩
theorem Iq{K:R5}{dV kV doc pm Ox ct oc:Value}{g:af->M Out}(lk:K.lookup f=some ⟨oc,od,.func (Tg name qual params body scope dV kV doc pm an Ox ct),QJ⟩)(Pn:Ub K Ox qual=true)(S:bj N ps scope)
  (hb:∀ (A:Around) (outer:List Env) (s:Shared) (H:Hp) (E:XK),ck k (A.deeper (envOfC qual scope s.heap.objs.size f Ox))->kO ((lB (bI P w) P w K mg base N qual scope f Ox A outer s H E).out λ_=>E) body (tS E g)) :
  aL P w K mg base (bI P w) (k+1) f (Tg name qual params body scope dV kV doc pm an Ox ct) ps (cP ps.length (ar N.length g)):=by
 refine wC lk Pn S (λvs H Q E h=>h.1) λA outer s H vs Q E hr hs=>⟨_,hb A outer s H E hr,?_⟩
 obtain⟨_,Hs,PD,sm,r,h⟩:=hs;refine⟨Hs,H,Hs,_,SR.start sm r,(au.bind h).imp (λo ho=>?_) λe he=>he⟩;cases o with
 | rt p=>exact λv Of H' gr rv=>ho v Of H' gr rv
 | nx env=>exact fun σ Of H' sr=>ho .bG Of H' sr.gr .bG
 | bk env=>exact ho.elim
 | ct env=>exact ho.elim
section
variable{E:XK}{p:Pos}{fs:af->M (List PV)}
def iQ(C:Addr)(fs:af->M (List PV)):af->M Out:=λenv=>(fs env).bind λps=>cA (ps.length<=sizeLine) (some (.error (C,none)))
theorem zD(O:dU X λ_=>E)(Oj:X.calm=true)(hc:VO X.K C eX "ValueError.__new__" = true)(c:dG X.K C)(ht:UW X.K (.ref C)=some (.type "type"))(kp:SN X.K (.ref C)=true)(hg:Gl X x)(hm:X.mg x=some (.ref C))(ha:PA X (e::es) (tL (λ_=>E) fs))
  (Po:autoParam ((x==("__debug__" : Str))=false) aD._auto_1) (he:autoParam (starEach (e::es) X.env=(false,eval e X.env)::starEach es X.env) aR._auto_1) (Oy:autoParam ((backTo Om (starEach es X.env)).any (·.1)=false) aR._auto_1) :
  PS X (.Raise (some (.Call (.Name x p) (e::es) [] Om)) none pos) (tS E (iQ C fs)):=by
 refine(uX O Oj (DZ hc kp hg hm ha Po he Oy)).imp λD σ H q=>p7 q λB H₀ Hs H1 env PD v sr rp hp=>?_;obtain⟨hz,hp⟩:=au.cA hp;refine⟨by rw[<- rp.length];exact hz,λa n=>⟨a,C,none,rfl,aA,c,ht,?_⟩⟩;rw[xX];exact hp a (upd Hs a (gU C none a)) _ (sr.gr.trans (bF.new sr.gr.sub n)) (.pY aA)
def xi(K:R5)(C:Addr)(fl:Str):Sp:=λvs H Q _=>∃ a y,vs=[.ref a,y]/\H a=some (kM C none a)/\∀ d,H d=none->d≠a->Q .bG (upd (upd H d (.xd [(fl,y)])) a (kM C (some d) a))
def gK(C:Addr)(fl:Str)(fs:af->M (List PV)):af->M Out:=λenv=>(fs env).bind λps=>match ps with
 | [p]=>some (.error (C,some [(fl,p)]))
 | _=>none
theorem zR{fl:Str}(O:dU X λ_=>E)(Oj:X.calm=true)(hc:qr X.K C "ValueError.__new__" f=true)(hf:UL X.K (.ref f)=true)(c:dG X.K C)(ht:UW X.K (.ref C)=some (.type "type"))(kp:SN X.K (.ref C)=true)(F:aL X.prog X.w X.K X.mg X.base (bI X.prog X.w) k f fd ps (xi X.K C fl))(hr:ck (k+1) X.A)(hb:Binds X.K fd ps [])
  (hg:Gl X x) (hm:X.mg x=some (.ref C)) (ha:PA X [e] (tL (λ_=>E) fs))
  (Po:autoParam ((x==("__debug__" : Str))=false) aD._auto_1) (he:autoParam (starEach [e] X.env=(false,eval e X.env)::starEach [] X.env) aR._auto_1) (Oy:autoParam ((backTo Om (starEach [] X.env)).any (·.1)=false) aR._auto_1) :
  PS X (.Raise (some (.Call (.Name x p) [e] [] Om)) none pos) (tS E (gK C fl fs)):=by
 refine(uX O Oj (AA hc hf kp F hr hb hg hm ha Po he Oy)).imp λD σ H q=>p7 q λB H₀ Hs H1 env PD v sr rp hp=>?_
 match PD,rp,hp with
 | [],_,hp=>exact hp.elim
 | _::_::_,_,hp=>exact hp.elim
 | [y],rp,hp =>
  obtain⟨v,rfl,ry⟩:=rp.one;refine⟨by show 1<=sizeLine;decide,λa n=>⟨a,v,rfl,aA,λd hd hda=>⟨rfl,a,C,some d,rfl,aA,c,ht,?_⟩⟩⟩;rw[xX];have hd1:H1 d=none:=by rw[av hda] at hd;exact hd
  have g1:=bF.new (o:=.xd [(fl,v)]) sr.gr.sub hd1;have Q6:upd H1 d (.xd [(fl,v)]) a=none:=by rw[av (T7 hda)];exact n
  have g2:=bF.new (o:=gU C (some d) a) g1.sub Q6;have hH:upd (upd (upd H1 a (kM C none a)) d (.xd [(fl,v)])) a (gU C (some d) a)=upd (upd H1 d (.xd [(fl,v)])) a (gU C (some d) a):=by
   funext b
   by_cases z:b=a
   .subst z;rw[aA,aA]
   .rw[av z,av z]
    by_cases z2:b=d
    .subst z2;rw[aA,aA]
    .rw[av z2,av z2,av z]
  rw[hH];refine hp a (upd (upd Hs d (.xd [(fl,v)])) a (gU C (some d) a)) _ ((sr.gr.trans g1).trans g2) ?_;exact .oK aA (by rw[av hda];exact aA) (.cons ((ry.mono g1.st).mono g2.st) .nil)
theorem mH{K:R5}{dV kV doc pm Ox ct oc:Value}{n0 n1 fl:Str}{p0 p1 p2 p3:Pos}(lk:K.lookup f=some ⟨oc,od,.func (Tg name qual params [.Assign [.Attribute (.Name n0 p0) fl p1] (.Name n1 p2) p3] scope dV kV doc pm an Ox ct),QJ⟩)(Pn:Ub K Ox qual=true)(S:bj [n0,n1] [n0,n1] scope)
  (c:dG K C) (ho:((Uy K C).any λcd=>fu cd.mro)=true) (na:bf K C fl) (v0:BE scope n0) (v1:BE scope n1) (d0:(n0==("__debug__" : Str))=false) (d1:(n1==("__debug__" : Str))=false) (c0:(n0==("__classdict__" : Str))=false) (c1:(n1==("__classdict__" : Str))=false)
  (hs:∀ env,swapsWith (.Name n1 p2) (some (.Attribute (.Name n0 p0) fl p1)) p3.line env=pure false) :
  aL P w K mg base (bI P w) 1 f (Tg name qual params [.Assign [.Attribute (.Name n0 p0) fl p1] (.Name n1 p2) p3] scope dV kV doc pm an Ox ct) [n0,n1] (xi K C fl):=by
 refine wC (k:=0) lk Pn S (λvs H Q E h=>by obtain⟨a,y,rfl,_⟩:=h;rfl) λA outer s H vs Q E hr h=>?_;obtain⟨a,y,rfl,ha,hq⟩:=h;refine⟨_,xT (AI (lj (i:=0) rfl v0 d0 c0) (lj (i:=1) rfl v1 d1 c1) (hs _)),?_⟩;exact⟨y,rfl,.ref a,rfl,a,C,rfl,ha,c,ho,na,hq⟩
end
structure lC (J:It) (Ov:Hp) (xs:List PV):Prop where
 stop:∀ (i:Nat) (Hs H:Hp),bB Ov Hs->bB Hs H->xs.length<=i->J.stop i H
 go:∀ (i:Nat) (Hs H:Hp),bB Ov Hs->bB Hs H->i<xs.length->J.go i H
 wo:∀ (i:Nat) (Hs H:Hp) (x:V) (H2:Hp),bB Ov Hs->bB Hs H->i<xs.length->J.wo i H x H2->∃ p Oo,xs[i]?=some p/\bF Hs H Oo H2/\Rep Oo p x
def KI(R:It->Hp->Prop):Hp->Hp->List PV->Prop:=λHs H xs=>∀ J Of H',bF Hs H Of H'->lC J Of xs->R J H'
def Aq(E:St->XK)(wi:TI)(it:af->M (List PV)):Prop:=∀ (σ:St) (H:Hp) (R:It->Hp->Prop),tG E it (KI R) σ H->wi σ H R
theorem KI.g{R:It->Hp->Prop}:KG (KI R):=λHs H Of H' b k g J Oo H2 g2 o=>k J Oo H2 (g.trans g2) o
section
variable{K:R5}{f:af->M PV}{fs:af->M (List PV)}
theorem BX(hq:∀ Of H',bB Ov Of->bB Of H'->uK K H' b a vs)(hr:aX Ov xs vs):lC (Ni K b a) Ov xs where
 stop:=λi Hs H s1 s2 hi=>by
  have q:=hq Hs H s1 s2;cases b with
  | true=>exact⟨vs,q,by rw[<- hr.length];exact hi⟩
  | false=>exact⟨vs,q,by rw[<- hr.length];exact hi⟩
 go:=λi Hs H s1 s2 hi=>by
  have q:=hq Hs H s1 s2;obtain⟨v,e,_⟩:=hr.get (R8 hi);cases b with
  | true=>exact⟨vs,v,q,e⟩
  | false=>exact⟨vs,v,q,e⟩
 wo:=λi Hs H x H2 s1 s2 hi y=>by
  have q:=hq Hs H s1 s2;obtain⟨v,e,r⟩:=hr.get (R8 hi);have z:H2=H/\vs[i]?=some x:=by
   cases b with
   | true=>exact⟨y.1,y.2 vs q⟩
   | false=>exact⟨y.1,y.2 vs q⟩
  obtain⟨rfl,z⟩:=z;rw[e] at z;cases z;exact⟨xs[i],Hs,R8 hi,.refl s2,r.mono s1⟩
theorem cG:Aq E (Kj K (tE E f)) (itemsOf f):=by
 intro σ H R q;refine bD (K:=KI R) KI.g q λB H₀ Hs H1 env p v sr rp hp=>?_;cases e:cB p with
 | none=>rw[e] at hp;exact hp.elim
 | some xs =>
  rw[e] at hp;obtain⟨b,a,vs,rfl,hq,hr⟩:=sR (K:=K) sr.gr.sub rp e;exact⟨b,a,rfl,⟨vs,hq Hs H1 (λ_ _ z=>z) sr.gr.sub⟩,hp (Ni K b a) Hs H1 (.refl sr.gr.sub) (BX hq hr)⟩
def jQ(o:List PV->M (List PV))(fs:af->M (List PV)):af->M (List PV):=λenv=>(fs env).bind o
theorem vP{lo:Int}:lC (JR lo n) Ov ((S7 n).map λ(i:Nat)=>PV.int (lo+(i:Int))) where
 stop:=λi Hs H s1 s2 hi=>show n<=i by simpa using hi
 go:=λi Hs H s1 s2 hi=>show i<n by simpa using hi
 wo:=λi Hs H x H2 s1 s2 hi y=>by
  obtain⟨rfl,rfl⟩:=y;exact⟨_,Hs,ze (by simpa using hi),.refl s2,.int _⟩
theorem aP(x:M α):x.bind M.ok=x:=by
 cases x with
 | none=>rfl
 | some x=>cases x <;> rfl
theorem j7:Aq E (FJ (tL E fs)) (jQ uj fs):=by
 intro σ H R q;refine dH (K:=KI R) KI.g q λB H₀ Hs H1 env ps v sr rp hp=>?_;rw[<- aP (uj ps)] at hp;obtain⟨n,rfl,h1,h2,hp⟩:=z9 hp;obtain⟨w,rfl,Qf⟩:=rp.one;cases Qf;exact⟨n,rfl,h1,h2,hp _ Hs H1 (.refl sr.gr.sub) vP⟩
theorem vt:Aq E (FF (tL E fs)) (jQ wW fs):=by
 intro σ H R q;refine dH (K:=KI R) KI.g q λB H₀ Hs H1 env ps v sr rp hp=>?_;rw[<- aP (wW ps)] at hp;obtain⟨n,m,rfl,h1,hp⟩:=zF hp;obtain⟨w,u,rfl,Qf,ru⟩:=rp.two;cases Qf;cases ru;exact⟨n,m,rfl,h1,hp _ Hs H1 (.refl sr.gr.sub) vP⟩
theorem B1{ys:List PV}(h1:i<xs.length)(h2:i<ys.length):(W2 (λa b=>PV.tup [a,b]) xs ys)[i]?=some (.tup [xs[i],ys[i]]):=by
 rw[List.getElem?_zipWith,R8 h1,R8 h2]
theorem AE{b1 b2:Bool}{a1 a2:Addr}{ys:List PV}{us:List V}(Qa:∀ Of H',bB Ov Of->bB Of H'->uK K H' b1 a1 vs)(Rk:aX Ov xs vs)(P1:∀ Of H',bB Ov Of->bB Of H'->uK K H' b2 a2 us)(RS:aX Ov ys us) :
  lC (Mu K b1 b2 a1 a2) Ov (W2 (λa b=>PV.tup [a,b]) xs ys) where
 stop:=λi Hs H s1 s2 hi=>by
  rw[Wa,Rk.length,RS.length] at hi;exact⟨vs,us,Qa Hs H s1 s2,P1 Hs H s1 s2,by lia⟩
 go:=λi Hs H s1 s2 hi=>by
  rw[Wa] at hi;obtain⟨v,e,_⟩:=Rk.get (R8 (show i<xs.length by lia));obtain⟨u,e',_⟩:=RS.get (R8 (show i<ys.length by lia));exact⟨vs,us,v,u,Qa Hs H s1 s2,P1 Hs H s1 s2,e,e'⟩
 wo:=λi Hs H x H2 s1 s2 hi y=>by
  rw[Wa] at hi;have l1:i<xs.length:=by lia
  have l2:i<ys.length:=by lia
  obtain⟨v,e,r⟩:=Rk.get (R8 l1);obtain⟨u,e',r'⟩:=RS.get (R8 l2);obtain⟨pa,v',u',hn,rfl,rfl,y1,y2⟩:=y;have z1:=y1 vs (Qa Hs H s1 s2);have z2:=y2 us (P1 Hs H s1 s2);rw[e] at z1;cases z1;rw[e'] at z2;cases z2;have gr:=bF.new (o:=.tup [v,u]) s2 hn;exact⟨_,_,B1 l1 l2,gr,.tup aA (.cons ((r.mono s1).mono gr.st) (.cons ((r'.mono s1).mono gr.st) .nil))⟩
theorem dO:Aq E (Ku K (tL E fs)) (jQ zip2 fs):=by
 intro σ H R q;refine dH (K:=KI R) KI.g q λB H₀ Hs H1 env ps v sr rp hp=>?_;rw[<- aP (zip2 ps)] at hp;obtain⟨p,q,xs,ys,rfl,e1,e2,hp⟩:=zp hp;obtain⟨w,u,rfl,Qf,ru⟩:=rp.two;obtain⟨b1,a1,vs,rfl,Qa,Rk⟩:=sR (K:=K) sr.gr.sub Qf e1;obtain⟨b2,a2,us,rfl,P1,RS⟩:=sR (K:=K) sr.gr.sub ru e2;exact⟨b1,b2,a1,a2,rfl,⟨vs,Qa Hs H1 (λ_ _ z=>z) sr.gr.sub⟩,⟨us,P1 Hs H1 (λ_ _ z=>z) sr.gr.sub⟩,hp _ Hs H1 (.refl sr.gr.sub) (AE Qa Rk P1 RS)⟩
end
theorem cF{E:XK}{g:TG}{set:PV->af->M af}{body:af->M Out}{bd:List Stmt}{wi:TI}{it:af->M (List PV)}(O:dU X λ_=>E)(hc:X.calm=true)(hi:PI X tg iter wi)(hv:Aq (λ_=>E) wi it)(hg:PG X tg g)(QG:AL E g set)(hb:kO X bd (tS E body))(hs:autoParam (∀ x,foldedSetIterable iter X.env x=pure x) aI._auto_1) :
  PS X (.For tg iter bd [] pos) (tS E (i8 it set body)):=by
 refine(Gz O.own hc hi hg hb hs).imp λD σ H q=>hv σ H _ ?_;obtain⟨B,H₀,Hs,env,sr,q⟩:=q;refine⟨B,H₀,Hs,env,sr,(au.bind q).imp (λxs hp J Of H' gr ok=>?_) λe he=>he.grow sr.gr⟩;have PZ:=sr.grow gr;refine⟨λi m σ H=>m=xs.length-i/\i<=xs.length/\Jv E set body D B H₀ Of xs i σ H,⟨xs.length,by simp,TY _,Of,env,PZ,λ_ _ z=>z,hp⟩,?_⟩;rintro i m σ' H2 ⟨rfl,hi,Oo,env2,OX,s2,h2⟩
 by_cases PH:i<xs.length
 .refine .inr ⟨ok.go i Oo H2 s2 OX.gr.sub PH,Jv E set body D B H₀ Of xs (i+1),fun σ3 H3 j=>⟨xs.length-(i+1),by lia,rfl,PH,j⟩,λx H3 y=>?_⟩;obtain⟨p,Qb,ep,g3,r3⟩:=ok.wo i Oo H2 x H3 s2 OX.gr.sub PH y;exact Jv.turn (Hx:=H2) (H1:=H2) QG ep OX s2 h2 g3 r3
 .have e:i=xs.length:=by lia
  refine .inl ⟨ok.stop i Oo H2 s2 OX.gr.sub (by lia),?_⟩;exact Jv.done (E:=E) (set:=set) (body:=body) (xs:=xs) (B:=B) (H₀:=H₀) (Ov:=Of) (n:=i) ⟨Oo,env2,OX,s2,h2⟩ (by lia)
abbrev EF:St->XK:=λ_ _ _ _=>False
def qU(env:af):Prop:=∀ (i:Nat) (x:SV),env[i]?=some (some x)->∃ p,x=.sh p
theorem qU.no{env:af}(n:qU env){x:SV}(e:env[i]?=some (some x))(o:gX x=true):False:=by obtain⟨p,rfl⟩:=n i _ e;cases o
def Dx:M α->M α
 | some (.ok a)=>some (.ok a)
 | _=>none
theorem au.Dx{α:Type}{x:M α}{Q:α->Prop}{E:EX->Prop}(h:au (L2.Dx x) Q E):au x Q (λ_=>False):=by
 cases x with
 | none=>exact h
 | some x=>cases x with
  | ok a=>exact h
  | error e=>exact h
def lQ(n:Nat)(js:List Nat)(env:af):af:=R7 n none++js.map λj=>match env[j]? with
 | some (some (.sh p))=>some (.sh p)
 | _=>none
theorem rP{env:af}{x:SV}(h:(lQ n js env)[i]?=some (some x)):∃ j p,n<=i/\js[i-n]?=some j/\env[j]?=some (some (.sh p))/\x=.sh p:=by
 unfold lQ at h
 by_cases hi:i<n
 .rw[S6 (by simpa using hi),Vh] at h
  split at h <;> cases h
 .rw[S2 (by simpa using hi),Sx,VC] at h;cases hj:js[i-n]? with
  | none=>rw[hj] at h;cases h
  | some j =>
   rw[hj] at h;have h':(match env[j]? with | some (some (.sh p))=>some (SV.sh p) | _=>none)=some x:=Sm h
   split at h'
   .rename_i p e;cases h';exact⟨j,p,by lia,rfl,e,rfl⟩
   .cases h'
theorem lN{env:af}:qU (lQ n js env):=λi xs e=>by
 obtain⟨_,p,_,_,_,z⟩:=rP e;exact⟨p,z⟩
variable{D:Addr}
theorem SR.block{B:Hp}{env:af}(r:SR B H₀ Hs H σ env)(hD:H D=none):SR Hs H Hs (upd H D (.lst [])) (fm ts js σ) (lQ ts.length js env) where
 gr:=(bF.refl r.gr.sub).l8 (r.free hD).1 hD
 len:=by unfold fm lQ;simp
 at_:=λi x e=>by
  obtain⟨j,q,hn,hj,he,rfl⟩:=rP e;obtain⟨v,h1,h2⟩:=r.sh j q he;refine⟨v,?_,h2⟩;unfold fm;rw[S2 (by simpa using hn),Sx,R_,hj];show some (σ[j]?).join=_;rw[h1];rfl
 ap:=λi j x y a _ e _ o=>(lN.no e o).elim
theorem SR.Hf{B:Hp}{env:af}(r:SR B H₀ Hs H σ env)(n:qU env)(h1:Hs D=none)(h2:H₀ D=none):SR B H₀ Hs (upd H D o) σ env :=
 r.mv (r.gr.l8 h1 h2) r.len (λ_ _ q=>q) λ_ _ e=>⟨e,rfl,λ_ _ o=>(n.no e o).elim⟩
def c5(set:PV->af->M af)(t:Option (af->M Bool))(f:af->M PV):List PV->af->M (List PV)
 | [],_=>M.ok []
 | x::xs,env=>(set x env).bind λe=>match t with
  | none=>(f e).bind λy=>(c5 set t f xs e).bind λys=>M.ok (y::ys)
  | some t'=>(t' e).bind λb=>if b=true then (f e).bind λy=>(c5 set t f xs e).bind λys=>M.ok (y::ys) else c5 set t f xs e
def bV(it:af->M (List PV))(set:PV->af->M af)(t:Option (af->M Bool))(f:af->M PV)(n:Nat)(js:List Nat):af->M (List PV):=λenv=>(it env).bind λxs=>cA (xs.length<=sizeLine) (Dx (c5 set t f xs (lQ n js env)))
def p_(set:PV->af->M af):Prop:=∀ p env e,set p env=some (.ok e)->qU env->qU e
theorem sN{env:af}(n:qU env):qU (env.set i (some (.sh p))):=λj xs e=>by
 rw[Uc] at e
 by_cases z:i=j
 .rw[if_pos z] at e
  split at e
  .cases e;exact⟨p,rfl⟩
  .cases e
 .rw[if_neg z] at e;exact n j xs e
theorem bz:p_ (cX i):=λp env e h n=>by
 cases h;exact sN n
theorem bT:p_ (b_ i j):=λp env e h n=>by
 unfold b_ at h
 split at h
 .cases h;exact sN (sN n)
 .cases h
section
variable{set:PV->af->M af}{t:Option (af->M Bool)}{f:af->M PV}{Q:VK}{H1:Hp}
def Jc(set:PV->af->M af)(t:Option (af->M Bool))(f:af->M PV)(Q:VK)(Ov H1:Hp)(D:Addr)(xs:List PV)(i:Nat)(σ:St)(H:Hp):Prop:=∃ Hs env ys vs,SR Ov H1 Hs H σ env/\qU env/\H D=some (.lst vs)/\Hs D=none/\aX Hs ys vs/\ys.length<=i ∧
 au (c5 set t f (xs.drop i) env) (λzs=>KO Q Ov H1 (ys++zs)) (λ_=>False)
def rem(H:Hp)(D:Addr):Hp:=λa=>if a=D then none else H a
theorem qq:rem H D D=none:=by unfold rem;rw[if_pos rfl]
theorem e7(n:a≠D):rem H D a=H a:=by unfold rem;rw[if_neg n]
theorem DE(h:H D=some o):upd (rem H D) D o=H:=by
 funext a
 by_cases z:a=D
 .subst z;rw[aA,h]
 .rw[av z,e7 z]
theorem Jc.done(hD:H1 D=none)(j:Jc set t f Q Ov H1 D xs i σ H)(hi:xs.length<=i):Q (.ref D) H:=by
 obtain⟨Hs,env,ys,vs,sr,n,h1,h2,r,_,h⟩:=j;rw[VA hi] at h;have h':KO Q Ov H1 (ys++[]):=h;rw[SK] at h';have gr:bF Ov H1 Hs (rem H D):=by
  refine⟨sr.gr.st,λc u q=>?_,λc u q=>?_,sr.gr.nw⟩
  .rw[e7 (λz=>by rw[z,hD] at q;cases q)];exact sr.gr.al c u q
  .rw[e7 (λz=>by rw[z,h2] at q;cases q)];exact sr.gr.sub c u q
 have:=h' vs D Hs (rem H D) gr r qq;rw[DE h1] at this;exact this
theorem Jc.put{env:af}{ys:List PV}{y:PV}(hD:H1 D=none)(sr:SR Ov H1 Hs H σ env)(n:qU env)(h1:H D=some (.lst vs))(h2:Hs D=none)(r:aX Hs ys vs)(hy:ys.length<=i)(hi:i<sizeLine)(rv:Rep Hs y v)
  (h:au ((c5 set t f (xs.drop (i+1)) env).bind λzs=>M.ok (y::zs)) (λzs=>KO Q Ov H1 (ys++zs)) (λ_=>False)) :
  ∃ us,H D=some (.lst us)/\us.length<sizeLine/\Jc set t f Q Ov H1 D xs (i+1) σ (upd H D (.lst (us++[v]))):=by
 refine⟨vs,h1,by rw[<- r.length];lia,Hs,env,ys++[y],vs++[v],sr.Hf n h2 hD,n,aA,h2,r.snoc rv,by rw[Sw];show ys.length+1<=i+1;lia,(au.bind h).imp (λzs hz=>?_) λ_ z=>z⟩;have QV:KO Q Ov H1 (ys++(y::zs)):=hz;rw[Vv];exact QV
end
section
variable{cl:List (Str×Addr)}{wi:TI}{it:af->M (List PV)}{g:TG}{set:PV->af->M af}{f:af->M PV}{u:af->M Bool}{fs:List Str}
theorem rX{s₀:Shared}{ex:List Addr}:dU (qI X scope cl N C s₀ H₀ ex Oa) EF where
 pass:=λ_ _ _ _ _ _ _ h=>by
  obtain⟨_,_,_,_,_,_,_,_,_,_,_,_,_,z⟩:=h;exact z.elim
 new:=λ_ _ _ _ _ _ _ _ _ z=>z.elim
 own:=PassesOwn.never
theorem u9{Q:VK}(hv:Aq E wi it)(QG:∀ E,AL E g set)(so:p_ set)(q:tO E (bV it set none f ts.length js) σ H Q):wy wi g (tE EF f) ts js σ H Q:=by
 refine hv σ H _ ?_;obtain⟨B,H₀,Hs,env,sr,q⟩:=q;refine⟨B,H₀,Hs,env,sr,(au.bind q).imp (λxs hp J Ov H1 gr ok D hD=>?_) λe he=>he⟩;obtain⟨hz,hp⟩:=au.cA hp;have hp:=au.Dx hp;have Rr:=sr.grow gr;refine⟨λi m σ H=>m=xs.length-i/\i<=xs.length/\Jc set none f Q Ov H1 D xs i σ H,⟨xs.length,by simp,TY _,Ov,_,[],[],Rr.block hD,lN,aA,?_,.nil,Se _,hp.imp (λzs hz vs p Oo H2 g2 r n=>hz vs p Oo H2 (gr.trans g2) r n) λ_ z=>z⟩,?_⟩
 .cases z:Ov D with
  | none=>rfl
  | some o=>have:=gr.sub _ _ z;rw[hD] at this;cases this
 rintro i m σ' H2 ⟨rfl,hi,Oo,env2,ys,vs,OX,n2,d1,d2,r2,l2,h2⟩
 by_cases PH:i<xs.length
 .refine .inr ⟨ok.go i Oo H2 OX.gr.st OX.gr.sub PH,Jc set none f Q Ov H1 D xs (i+1),fun σ3 H3 j=>⟨xs.length-(i+1),by lia,rfl,PH,j⟩,λx H3 y=>?_⟩;obtain⟨p,Qb,ep,g3,r3⟩:=ok.wo i Oo H2 x H3 OX.gr.st OX.gr.sub PH y;have hd:xs.drop i=p::xs.drop (i+1):=by
   rw[Uq PH];rw[R8 PH] at ep;rw[Sm ep]
  rw[hd] at h2;have h3:=au.bind h2;have Qt:=OX.grow g3;refine QG (λ_ _ _=>False) Ov H1 Qb H3 σ' env2 p x _ (λ_=>False) Qt r3 ?_;cases hset:set p env2 with
  | none=>rw[hset] at h3;exact h3
  | some z=>cases z with
   | error e=>rw[hset] at h3;exact h3
   | ok e3 =>
    rw[hset] at h3;intro σ4 sr4;have n4:=so p env2 e3 hset n2;refine⟨Ov,H1,Qb,e3,sr4,(au.bind h3).imp (λy hy v RA H5 g5 r5=>?_) λ_ z=>z.elim⟩;exact Jc.put (set:=set) (t:=none) (f:=f) hD (sr4.grow g5) n4 (g5.al _ _ (g3.al _ _ d1)) (g5.nw _ _ (g3.nw _ _ d2 d1 (λ_=>nofun)) (g3.al _ _ d1) (λ_=>nofun)) ((r2.mono g3.st).mono g5.st) l2 (by lia) r5 hy
 .refine .inl ⟨ok.stop i Oo H2 OX.gr.st OX.gr.sub (by lia),?_⟩;exact Jc.done (set:=set) (t:=none) (f:=f) (xs:=xs) (Ov:=Ov) (H1:=H1) (i:=i) hD ⟨Oo,env2,ys,vs,OX,n2,d1,d2,r2,l2,h2⟩ (by lia)
theorem C2{Q:VK}(hv:Aq E wi it)(QG:∀ E,AL E g set)(so:p_ set)(q:tO E (bV it set (some u) f ts.length js) σ H Q):AK wi g (tT EF u) (tE EF f) ts js σ H Q:=by
 refine hv σ H _ ?_;obtain⟨B,H₀,Hs,env,sr,q⟩:=q;refine⟨B,H₀,Hs,env,sr,(au.bind q).imp (λxs hp J Ov H1 gr ok D hD=>?_) λe he=>he⟩;obtain⟨hz,hp⟩:=au.cA hp;have hp:=au.Dx hp;have Rr:=sr.grow gr;refine⟨λi m σ H=>m=xs.length-i/\i<=xs.length/\Jc set (some u) f Q Ov H1 D xs i σ H,⟨xs.length,by simp,TY _,Ov,_,[],[],Rr.block hD,lN,aA,?_,.nil,Se _,hp.imp (λzs hz vs p Oo H2 g2 r n=>hz vs p Oo H2 (gr.trans g2) r n) λ_ z=>z⟩,?_⟩
 .cases z:Ov D with
  | none=>rfl
  | some o=>have:=gr.sub _ _ z;rw[hD] at this;cases this
 rintro i m σ' H2 ⟨rfl,hi,Oo,env2,ys,vs,OX,n2,d1,d2,r2,l2,h2⟩
 by_cases PH:i<xs.length
 .refine .inr ⟨ok.go i Oo H2 OX.gr.st OX.gr.sub PH,Jc set (some u) f Q Ov H1 D xs (i+1),fun σ3 H3 j=>⟨xs.length-(i+1),by lia,rfl,PH,j⟩,λx H3 y=>?_⟩;obtain⟨p,Qb,ep,g3,r3⟩:=ok.wo i Oo H2 x H3 OX.gr.st OX.gr.sub PH y;have hd:xs.drop i=p::xs.drop (i+1):=by
   rw[Uq PH];rw[R8 PH] at ep;rw[Sm ep]
  rw[hd] at h2;have h3:=au.bind h2;have Qt:=OX.grow g3;refine QG (λ_ _ _=>False) Ov H1 Qb H3 σ' env2 p x _ (λ_=>False) Qt r3 ?_;cases hset:set p env2 with
  | none=>rw[hset] at h3;exact h3
  | some z=>cases z with
   | error e=>rw[hset] at h3;exact h3
   | ok e3 =>
    rw[hset] at h3;intro σ4 sr4;have n4:=so p env2 e3 hset n2;refine⟨Ov,H1,Qb,e3,sr4,(au.bind h3).imp (λb hb RA H5 g5=>?_) λ_ z=>z.elim⟩;have d5:=g5.al _ _ (g3.al _ _ d1);have e5:=g5.nw _ _ (g3.nw _ _ d2 d1 (λ_=>nofun)) (g3.al _ _ d1) (λ_=>nofun);cases b with
    | true =>
     refine⟨Ov,H1,RA,e3,sr4.grow g5,(au.bind hb).imp (λy hy v Hs6 H6 g6 r6=>?_) λ_ z=>z.elim⟩;exact Jc.put (set:=set) (t:=some u) (f:=f) hD ((sr4.grow g5).grow g6) n4 (g6.al _ _ d5) (g6.nw _ _ e5 d5 (λ_=>nofun)) (((r2.mono g3.st).mono g5.st).mono g6.st) l2 (by lia) r6 hy
    | false=>exact⟨RA,e3,ys,vs,sr4.grow g5,n4,d5,e5,(r2.mono g3.st).mono g5.st,by lia,hb⟩
 .refine .inl ⟨ok.stop i Oo H2 OX.gr.st OX.gr.sub (by lia),?_⟩;exact Jc.done (set:=set) (t:=some u) (f:=f) (xs:=xs) (Ov:=Ov) (H1:=H1) (i:=i) hD ⟨Oo,env2,ys,vs,OX,n2,d1,d2,r2,l2,h2⟩ (by lia)
theorem bq(Oj:X.calm=true)
  (OO:closureFor scope X.env=pure cl) (hk:scope.kind=.function) (nc:fO scope.names=true) (lo:g9 scope.names=true) (fh:ik cl scope.names=true) (ag:eh X cl) (fr:iW X scope cl fs js)
  (hi:PI X tg iter wi) (hv:Aq E wi it) (hg:∀ C s₀ H₀ ex Oa,PG (qI X scope cl (ts++fs) C s₀ H₀ ex Oa) tg g) (QG:∀ E,AL E g set) (so:p_ set) (he:∀ C s₀ H₀ ex Oa,PE (qI X scope cl (ts++fs) C s₀ H₀ ex Oa) elt (tE EF f))
  (hs:autoParam (∀ x,foldedSetIterable iter X.env x=pure x) aI._auto_1):PE X (.ListComp elt [⟨tg,iter,[],0⟩] scope pos) (tO E (bV it set none f ts.length js)):=by
 exact(De Oj OO hk nc lo fh ag fr hi hg he hs).imp fun σ H Q q=>u9 hv QG so q
def cq(fo:af->M (List PV)):af->M PV:=λenv=>(fo env).bind λps=>M.ok (.lst ps)
theorem cD{fo:af->M (List PV)}(he:PE X e (tO E fo)):PE X e (tE E (cq fo)):=he.imp fun σ H Q q=>by
 obtain⟨B,H₀,Hs,env,sr,q⟩:=q;refine⟨B,H₀,Hs,env,sr,(au.bind q).imp (λps hp vs p Of H' g r n=>?_) λe he=>he⟩;have gn:=bF.new (o:=.lst vs) g.sub n;exact hp _ _ _ (g.trans gn) (.lst aA (r.mono gn.st))
end
def uw(f:Str)(v:PV):List (Str×PV)->List (Str×PV)
 | []=>[(f,v)]
 | (g,x)::r=>if g=f then (g,v)::r else (g,x)::uw f v r
theorem e8.put{H:Hp}{f:Str}{p:PV}{v:V}(h:Rep H p v):∀ {fs:List (Str×PV)} {vs:List (Str×V)},e8 H fs vs->e8 H (uw f p fs) (jI f v vs)
 | _,_,.nil=>.cons h .nil
 | (g,x)::r,_,.cons hx hr=>by
  unfold uw jI
  by_cases z:g=f
  .rw[if_pos z,if_pos z];exact .cons h hr
  .rw[if_neg z,if_neg z];exact .cons hx (hr.put h)
theorem e8.length{H:Hp}:∀ {fs:List (Str×PV)} {vs:List (Str×V)},e8 H fs vs->fs.length=vs.length
 | _,_,.nil=>rfl
 | _,_,.cons _ r=>by simp[r.length]
theorem SR.Lf{B:Hp}{env:af}{dx:Addr}{fs gs:List (Str×PV)}{us:List (Str×V)}(r:SR B H₀ Hs H σ env)(e:env[i]?=some (some (.bd a C fs)))(h:e8 Hs gs us):SR B H₀ Hs (upd H a (.ins C dx us)) σ (env.set i (some (.bd a C gs))):=by
 obtain⟨dx0,vs,h1,h2,h3,h4,h5⟩:=r.bd i a C fs e;exact r.Fe h1 (r.gr.l8 h3 h4) (λ_ _ q=>q) (λ_ q=>by cases q;exact⟨_,rfl,dx,us,rfl,aA,h3,h4,h⟩) (λj y b u n ej o z q1 q2 _=>⟨by rw[av (λw=>by subst w;exact r.ap i j _ y b n e ej rfl o h1 z)];exact q1,q2⟩) λ_ _ _ k z n ek o=>r.ap i k _ z a n e ek rfl o h1
def Bh(i:Nat)(C:Addr)(f:Str)(p:PV)(env:af):M Out:=match env[i]? with
 | some (some (.bd a C' fs))=>cA (C'=C/\fs.length<1000) (M.ok (.nx (env.set i (some (.bd a C (uw f p fs))))))
 | _=>none
def gJ(i:Nat)(C:Addr)(fl:Str)(f:af->M PV):af->M Out:=λenv=>(f env).bind λp=>Bh i C fl p env
section
variable{E:XK}{f:af->M PV}{fl:Str}
theorem eR(hi:X.N[i]?=some x)(hv:BE X.env.scope x)(c:iK X.K C)(na:bf X.K C fl)(he:PE X e (tE (λ_=>E) f))(hd:autoParam ((x==("__debug__" : Str))=false) aD._auto_1)(Pn:autoParam ((x==("__classdict__" : Str))=false) aD._auto_1)
  (hs:autoParam (swapsWith e (some (.Attribute (.Name x px) fl pos')) pos.line X.env=pure false) aR._auto_1):PS X (.Assign [.Attribute (.Name x px) fl pos'] e pos) (tS E (gJ i C fl f)):=by
 refine(IW (lj hi hv hd Pn) he hs).imp λD σ H q=>iY q λB H₀ Hs H1 env p v sr rp hp=>?_;unfold Bh at hp
 split at hp
 .rename_i a C' fs ex;obtain⟨⟨rfl,hz⟩,hp⟩:=au.cA hp;obtain⟨dx,vs,h1,h2,h3,h4,h5⟩:=sr.bd i a _ fs ex;exact⟨.ref a,h1,a,_,dx,vs,rfl,h2,c,na,by rw[<- h5.length];exact hz,hp σ Hs _ (sr.Lf ex (h5.put rp))⟩
 .exact hp.elim
end
def vU(m:Nat)(a C:Addr)(ps:List PV):af:=some (.bd a C [])::lS (m-1) ps
def A4(a C:Addr)(env:af):M (List (Str×PV)):=match (env[0]?:Option (Option SV)) with
 | some (some (.bd b D fs))=>cA (b=a/\D=C) (M.ok fs)
 | _=>none
def outI(a C:Addr):Out->M (List (Str×PV))
 | .nx env=>A4 a C env
 | _=>none
def oV(m:Nat)(g:af->M Out)(C a:Addr)(ps:List PV):M (List (Str×PV)):=(g (vU m a C ps)).bind (outI a C)
def Ig(s:Addr->M α):M α:=open Classical in if h:∃ r,∀ a,s a=r then h.choose else none
theorem sZ{s:Addr->M α}{r:M α}(h:∀ a,s a=r):Ig s=r:=by
 have hx:∃ r,∀ a,s a=r:=⟨r,h⟩
 unfold Ig;rw[dif_pos hx,<- hx.choose_spec 0,h 0]
theorem au.Ig{α:Type}{s:Addr->M α}{Q:α->Prop}{E:EX->Prop}(h:au (L2.Ig s) Q E)(a:Addr):au (s a) Q E:=by
 unfold L2.Ig at h
 split at h
 .rename_i hx;rw[hx.choose_spec a];exact h
 .exact h.elim
def Ap(n:Nat)(C:Addr)(sem:Addr->List PV->M (List (Str×PV))):Sp:=λvs H Q E=>vs.length=n/\∃ a dx us Hs H1 ps,vs=.ref a::us/\H1 a=none/\H1 dx=none/\dx≠a/\H=upd (upd H1 dx (.own a)) a (.ins C dx [])/\bB Hs H1/\aX Hs ps us ∧
 au (sem a ps) (λfs=>∀ Ru ws Of H',bF Hs H1 Of H'->H' a=some (.ins C Ru ws)->Of a=none->e8 Of fs ws->Q .bG H') (XW E Hs H1)
theorem SR.GC{dx:Addr}{ps:List PV}(s:bB Hs H₀)(hN:0<N.length)(ha:H₀ a=none)(r:aX Hs ps vs)(hH:H=upd H₀ a (.ins C dx [])):SR Hs H₀ Hs H (L2.start N (.ref a::vs)) (vU N.length a C ps):=by
 have hs:Hs a=none:=by
  cases q:Hs a with
  | none=>rfl
  | some o=>have:=s _ _ q;rw[ha] at this;cases this
 have ne:∀ c u,H₀ c=some u->c≠a:=λc u e z=>by rw[z,ha] at e;cases e
 have s0:=SR.start (N:=N.tail) s r;have e1:L2.start N (.ref a::vs)=some (.ref a)::L2.start N.tail vs:=by
  unfold L2.start;simp only[Su,WN,T3,Yu];rw[Nat.sub_sub,Ye]
 have e2:vU N.length a C ps=some (.bd a C [])::lS N.tail.length ps:=by unfold vU;rw[Yu]
 have al:bB H₀ H:=λc u q=>by rw[hH,av (ne c u q)];exact q
 rw[e1,e2];have no:∀ (j:Nat) (x:SV),(lS N.tail.length ps)[j]?=some (some x)->gX x=true->False:=λj x e o=>by
  obtain⟨v,h1,h2⟩:=s0.at_ j x e;obtain⟨b,u,_,q1,_,q2,_⟩:=h2.l8 o;rw[q2] at q1;cases q1
 refine⟨⟨λ_ _ e=>e,al,λc u q=>al c u (s c u q),λc u q _ _=>q⟩,by simp[s0.len],λj x ej=>?_,λj k x y b nj e1 e2 o1 o2=>?_⟩
 .cases j with
  | zero=>cases ej;exact⟨_,rfl,dx,[],rfl,by rw[hH];exact aA,hs,ha,.nil⟩
  | succ j =>
   have ej:(lS N.tail.length ps)[j]?=some (some x):=by simpa using ej
   obtain⟨v,h1,h2⟩:=s0.at_ j x ej;exact⟨v,by simpa using h1,h2.mono (λ_ _ q=>q) λ_ _ o=>(no j x ej o).elim⟩
 .cases j with
  | zero=>cases k with
   | zero=>exact absurd rfl nj
   | succ k=>exact(no k y (by simpa using e2) o2).elim
  | succ j=>exact(no j x (by simpa using e1) o1).elim
theorem ET{K:R5}{dV kV doc pm Ox ct oc:Value}{g:af->M Out}(lk:K.lookup f=some ⟨oc,od,.func (Tg name qual params body scope dV kV doc pm an Ox ct),QJ⟩)(Pn:Ub K Ox qual=true)(S:bj N ps scope)(hN:0<N.length)
  (hb:∀ (A:Around) (outer:List Env) (s:Shared) (H:Hp) (E:XK),ck k (A.deeper (envOfC qual scope s.heap.objs.size f Ox))->kO ((lB (bI P w) P w K mg base N qual scope f Ox A outer s H E).out λ_=>E) body (tS E g)) :
  aL P w K mg base (bI P w) (k+1) f (Tg name qual params body scope dV kV doc pm an Ox ct) ps (Ap ps.length C (oV N.length g C)):=by
 refine wC lk Pn S (λvs H Q E h=>h.1) λA outer s H vs Q E hr hs=>⟨_,hb A outer s H E hr,?_⟩
 obtain⟨_,a,dx,us,Hs,H1,PD,rfl,ha,hdx,Qz,hH,sm,r,h⟩:=hs;have ne:∀ c u,H1 c=some u->c≠dx:=λc u e z=>by rw[z,hdx] at e;cases e
 have s0:bB H1 (upd H1 dx (.own a)):=λc u q=>by rw[av (ne c u q)];exact q
 have g0:bF Hs H1 Hs (upd H1 dx (.own a)):=⟨λ_ _ e=>e,s0,λc u q=>s0 c u (sm c u q),λ_ _ e _ _=>e⟩
 refine⟨Hs,_,Hs,_,SR.GC (dx:=dx) g0.sub hN (by rw[av (T7 Qz)];exact ha) r hH,(au.bind h).imp (λo ho=>?_) λe he=>he.grow g0⟩;cases o with
 | rt p=>exact ho.elim
 | bk env=>exact ho.elim
 | ct env=>exact ho.elim
 | nx env =>
  intro σ Of H' sr;have Qp:au (A4 a C env) _ _:=ho;unfold A4 at Qp
  split at Qp
  .rename_i b D fs ex;obtain⟨⟨rfl,rfl⟩,hp⟩:=au.cA Qp;obtain⟨Ru,ws,h1,h2,h3,h4,h5⟩:=sr.bd 0 _ _ fs ex;exact hp Ru ws Of H' (g0.trans sr.gr) h2 h3 h5
  .exact Qp.elim
def cj(C:Addr)(sem:Addr->List PV->M (List (Str×PV)))(P9:List PV)(ps:List PV):M PV:=(Ig λa=>sem a (ps++P9)).bind λfs=>M.ok (.obj C fs)
section
variable{ns:List Str}{sem:Addr->List PV->M (List (Str×PV))}{p:Pos}{fs:af->M (List PV)}
theorem EJ(Mk:Mk X.K C f)(F:aL X.prog X.w X.K X.mg X.base (bI X.prog X.w) k f fd ns (Ap n C sem))(hr:ck (k+1) X.A)(hg:Gl X x)(hm:X.mg x=some (.ref C))(hb:Binds X.K fd ns ds)(hd:Vals Pb ds)(hdp:∀ H,aX H P9 Pb)(O:dU X E)
  (hl:∀ a ps,sem a (ps++P9)≠none->ps.length+P9.length+1=n)
  (ha:PA X (e::es) (tL E fs)) (Po:autoParam ((x==("__debug__" : Str))=false) aD._auto_1) (he:autoParam (starEach (e::es) X.env=(false,eval e X.env)::starEach es X.env) aR._auto_1) (Oy:autoParam ((backTo pos (starEach es X.env)).any (·.1)=false) aR._auto_1) :
  PE X (.Call (.Name x p) (e::es) [] pos) (tE E (ai (cj C sem P9) fs)):=by
 refine(CV Mk F hr hg hm hb hd O ha Po he Oy).imp fun σ H Q q=>dH (K:=gW Q) gW.g q λB H₀ Hs H1 env PD v sr rp hp=>?_;intro a dx ha hdx Qz;have r2:aX Hs (PD++P9) (v++Pb):=rp.append (hdp Hs);have Q9:=(au.bind hp).Ig a;have hn:sem a (PD++P9)≠none:=λz=>by
  rw[z] at Q9;exact Q9
 refine⟨?_,a,dx,v++Pb,Hs,H1,PD++P9,rfl,ha,hdx,Qz,rfl,sr.gr.sub,r2,Q9.imp (λfl hfl Ru ws Of H' g hw Q7 Qf=>⟨rfl,?_⟩) λe he=>he⟩
 .show (v++Pb).length+1=n;rw[<- r2.length,Sw];exact hl a PD hn
 .have ne:∀ c u,Of c=some u->c≠a:=λc u q z=>by rw[z,Q7] at q;cases q
  have O6:bB Of (upd Of a (.ins C Ru ws)):=λc u q=>by rw[av (ne c u q)];exact q
  refine hfl (.ref a) (upd Of a (.ins C Ru ws)) H' ⟨λc u q=>O6 c u (g.st c u q),g.al,λc u q=>?_,λc u q1 q2 q3=>?_⟩ (.obj aA (Qf.mono O6))
  .by_cases z:c=a
   .subst z;rw[aA] at q;cases q;exact hw
   .rw[av z] at q;exact g.sub c u q
  .have z:c≠a:=λz=>by rw[z,ha] at q2;cases q2
   rw[av z];exact g.nw c u q1 q2 q3
end
section
variable{a b:Expr}{f g h:af->M PV}
theorem nW{m:Nat}(h:n.log2<m):n<2^m:=by
 by_cases z:n=0
 .subst z;exact Nat.two_pow_pos m
 .exact(YD z).mp h
theorem aX.rep{H:Hp}{xs:List PV}{vs:List V}(r:aX H xs vs):∀ k:Nat,aX H (R7 k xs).flatten (R7 k vs).flatten
 | 0=>.nil
 | k+1=>by rw[SW,SW,TV,TV];exact r.append (r.rep k)
def bC:PV->PV->M PV
 | .int i,.int j=>cA (i.natAbs.log2<67108864/\j.natAbs.log2<67108864) (M.ok (.int (i*j)))
 | .tup xs,.int k=>cA (xs.isEmpty=false/\-(2^63)<=k/\k<2^63/\xs.length*k.toNat<=sizeLine) (M.ok (.tup (R7 k.toNat xs).flatten))
 | .lst xs,.int k=>cA (-(2^63)<=k/\k<2^63/\xs.length*k.toNat<=sizeLine) (M.ok (.lst (R7 k.toNat xs).flatten))
 | _,_=>none
def F4(K:R5):R2:=λx y H Q=>(rI (λi j=>IntMulOk i j) λi j=>.int (i*j)) x y H Q\/FE K x y H Q\/J8 x y H Q
theorem DR:gA X (binaryOp .Mult) (F4 X.K):=gA.or EZ (gA.or E9 BV)
theorem GZ{K:R5}:ll E (F4 K) bC:=by
 intro σ Hs H p q v u Q s rp rq h;cases rp with
 | int i=>cases rq with
  | int j =>
   obtain⟨hz,h⟩:=au.cA h;exact .inl ⟨i,j,rfl,rfl,BA (nW hz.1) (nW hz.2) (Se _),dh.flat h s (.int _)⟩
  | _=>exact h.elim
 | @tup a xs vs ha hx=>cases rq with
  | int k =>
   obtain⟨⟨h0,h1,h2,h3⟩,h⟩:=au.cA h;have n1:vs≠[]:=λz=>by
    have:=hx.length;rw[z] at this;cases xs with
    | nil=>cases h0
    | cons _ _=>cases this
   refine .inr (.inl ⟨a,k,vs,rfl,rfl,gk.of (s _ _ ha),n1,h1,h2,by rw[<- hx.length];exact h3,λz=>?_,λz=>dh.tup h s (hx.rep _)⟩);subst z;rw[show (1:Int).toNat=1 from rfl,SW,List.replicate_zero,TV,List.flatten_nil,SK] at h;exact dh.flat h s (.tup ha hx)
  | _=>exact h.elim
 | @lst a xs vs ha hx=>cases rq with
  | int k =>
   obtain⟨⟨h1,h2,h3⟩,h⟩:=au.cA h;exact .inr (.inr ⟨a,k,vs,rfl,rfl,s _ _ ha,h1,h2,by rw[<- hx.length];exact h3,dh.lst h s (hx.rep _)⟩)
  | _=>exact h.elim
 | _=>exact h.elim
theorem Fn:ll E (rI Cm λi j=>.int (i.fdiv j)) (xH (λ_ j=>decide (j≠0/\j.natAbs.log2<9000)) λi j=>i.fdiv j):=xB λi j z=>(of_decide_eq_true z:j≠0/\j.natAbs.log2<9000)
theorem Hl:ll E (rI (λ_ j=>j≠0) λi j=>.int (i.fmod j)) (xH (λ_ j=>decide (j≠0)) λi j=>i.fmod j):=xB λi j z=>of_decide_eq_true z
theorem HJ:ll E (rI Gn λi j=>.int (i^j.toNat)) (xH (λi j=>decide (0<=j/\j<=1000000/\i.natAbs<2^64)) λi j=>i^j.toNat):=xB λi j z=>(of_decide_eq_true z:0<=j/\j<=1000000/\i.natAbs<2^64)
def J3:PV->M PV
 | .int i=>M.ok (.int (-i))
 | _=>none
def kN(f:af->M PV):af->M PV:=λenv=>(f env).bind J3
theorem HB(ha:PE X a (tE E f)):PE X (.UnaryOp .USub a pos) (tE E (kN f)) :=
 (KZ GA ha).imp fun σ H Q q=>JS q λHs H1 p v s rp h=>by
  cases rp with
  | int i=>exact⟨i,rfl,dh.flat h s (.int _)⟩
  | _=>exact h.elim
def rS:PV->Bool
 | .bG=>true
 | _=>false
theorem uW(r:Rep H p v):decide (v=.bG)=rS p:=by
 cases r <;> rfl
def Dj:PV->PV->M PV
 | p,.bG=>M.ok (.bl (rS p))
 | _,_=>none
def o5:PV->PV->M PV
 | p,.bG=>M.ok (.bl (!rS p))
 | _,_=>none
theorem BL:ll E (λx y H Q=>y=.bG/\Q (.bl (decide (x=.bG))) H) Dj:=by
 intro σ Hs H p q v u Q s rp rq h;cases rq with
 | bG =>
  have h':au (M.ok (PV.bl (rS p))) (dh Hs H Q) (XW (E σ) Hs H):=by cases p <;> exact h
  exact⟨rfl,by rw[uW rp];exact dh.flat h' s (.bl _)⟩
 | _=>cases p <;> exact h.elim
theorem yS:ll E (λx y H Q=>y=.bG/\Q (.bl (!decide (x=.bG))) H) o5:=by
 intro σ Hs H p q v u Q s rp rq h;cases rq with
 | bG =>
  have h':au (M.ok (PV.bl (!rS p))) (dh Hs H Q) (XW (E σ) Hs H):=by cases p <;> exact h
  exact⟨rfl,by rw[uW rp];exact dh.flat h' s (.bl _)⟩
 | _=>cases p <;> exact h.elim
def lD(o o':PV->PV->M PV)(f g h:af->M PV):af->M PV:=λenv=>(f env).bind λp=>(g env).bind λq=>(o p q).bind λz=>(wR z).bind λk=>if k=true then (h env).bind λr=>o' q r else M.ok (.bl false)
theorem BP{r r':R2}{o o':PV->PV->M PV}(hv:ll E r o)(RU:ll E r' o'){Q:VK}(q:tE E (lD o o' f g h) σ H Q):Au r r' (tE E f) (tE E g) (tE E h) σ H Q:=by
 refine bD (K:=gW Q) gW.g q λB H₀ Hs H1 env p v sr rp hp=>?_;refine⟨B,H₀,Hs,env,sr,(au.bind hp).imp (λq hq u Oo H2 g2 ru=>?_) λe he=>he⟩;have OX:=sr.grow g2;refine hv σ Oo H2 p q v u _ OX.gr.sub (rp.mono g2.st) ru ((au.bind hq).imp (λz hz w Qb H3 g3 Qf=>?_) λe he=>he.grow g2);obtain⟨k,ek,hk⟩:=au.K2 (au.bind hz);subst ek;cases Qf;refine⟨k,rfl,?_⟩;have Qt:=OX.grow g3;cases k with
 | false=>exact hk _ _ _ (g2.trans g3) (.bl _)
 | true =>
  have RM:au ((h env).bind λr=>o' q r) (gW Q Hs H1) (XW (E σ) Hs H1):=hk;refine⟨B,H₀,Qb,env,Qt,(au.bind RM).imp (λr hr w Hs4 H4 g4 rw4=>?_) λe he=>he.grow (g2.trans g3)⟩;exact RU σ Hs4 H4 q r u w Q (Qt.grow g4).gr.sub ((ru.mono g3.st).mono g4.st) rw4 (hr.imp (λz hz w' RA H5 g5 r5=>hz w' RA H5 ((g2.trans g3).trans (g4.trans g5)) r5) λe he=>he.grow ((g2.trans g3).trans g4))
theorem uP{Ro:CmpOp}{r r':R2}{o o':PV->PV->M PV}(ho:gA X (compareOp op) r)(hv:ll E r o)(Qp:gA X (compareOp Ro) r')(RU:ll E r' o')(ha:PE X a (tE E f))(hb:PE X b (tE E g))(hc:PE X c (tE E h))
  (hm:autoParam (lastMarks [op,Ro] [b,c]=false) aU._auto_1):PE X (.Compare a [op,Ro] [b,c] pos) (tE E (lD o o' f g h)) :=
 (Cr ho Qp ha hb hc hm).imp fun σ H Q q=>BP hv RU q
def cY(u:af->M Bool)(b:af->M Out):Nat->af->M Out
 | 0,_=>none
 | n+1,env=>(u env).bind λt=>if t=true then (b env).bind λo=>match o with
   | .nx Oc=>cY u b n Oc
   | .ct Oc=>cY u b n Oc
   | .bk Oc=>M.ok (.nx Oc)
   | .rt p=>M.ok (.rt p)
  else M.ok (.nx env)
theorem yW{E:XK}{u:af->M Bool}{g:af->M Out}(n:af->Nat)(O:dU X λ_=>E)(hc:PT X c (tT (λ_=>E) u))(hb:kO X body (tS E g)):PS X (.While c body [] pos) (tS E λenv=>cY u g (n env) env):=by
 refine(C6 O.own hc hb).imp λD σ H q=>?_;obtain⟨B,H₀,Hs,env,sr,q⟩:=q;refine⟨λm σ H=>∃ Hs env,SR B H₀ Hs H σ env/\au (cY u g m env) (KS D B H₀) (XW E B H₀),⟨n env,Hs,env,sr,q⟩,?_⟩;rintro m σ1 H1 ⟨Ov,env1,Rr,q1⟩;cases m with
 | zero=>exact q1.elim
 | succ m =>
  refine⟨B,H₀,Ov,env1,Rr,(au.bind q1).imp (λt ht Oo H2 g2=>?_) λe he=>he.grow Rr.gr⟩;have OX:=Rr.grow g2;cases t with
  | false=>exact ht σ1 Oo H2 OX
  | true =>
   refine⟨fun σ' H'=>∃ Of Oc,SR B H₀ Of H' σ' Oc/\au (cY u g m Oc) (KS D B H₀) (XW E B H₀),fun σ' H' z=>⟨m,T4 m,z⟩,B,H₀,Oo,env1,OX,(au.bind ht).imp (λo ho=>?_) λe he=>he⟩;cases o with
   | nx Oc=>exact fun σ' Of H' PZ=>⟨Of,Oc,PZ,ho⟩
   | ct Oc=>exact fun σ' Of H' PZ=>⟨Of,Oc,PZ,ho⟩
   | bk Oc=>exact ho
   | rt p=>exact ho
theorem jr{u:af->M Bool}{g:af->M Out}:∀ (n k:Nat) (env:af),cY u g n env≠none->cY u g (n+k) env=cY u g n env
 | 0,_,_,h=>(h rfl).elim
 | n+1,k,env,h=>by
  rw[show n+1+k=(n+k)+1 by lia];unfold cY at h ⊢;cases hu:u env with
  | none=>rfl
  | some z =>
   cases z with
   | error e=>rfl
   | ok t =>
    rw[hu] at h;cases t with
    | false=>rfl
    | true =>
     show M.bind (g env) _=M.bind (g env) _;have h':M.bind (g env) (λo=>match o with
      | .nx Oc=>cY u g n Oc
      | .ct Oc=>cY u g n Oc
      | .bk Oc=>M.ok (.nx Oc)
      | .rt p=>M.ok (.rt p))≠none:=h
     cases hg:g env with
     | none=>rfl
     | some z =>
      cases z with
      | error e=>rfl
      | ok o =>
       rw[hg] at h';cases o with
       | nx Oc=>exact jr n k Oc h'
       | ct Oc=>exact jr n k Oc h'
       | bk Oc=>rfl
       | rt p=>rfl
def jW(u:af->M Bool)(b:af->M Out)(env:af):M Out:=open Classical in cY u b (if h:∃ n,cY u b n env≠none then h.choose else 0) env
theorem Ac{u:af->M Bool}{b:af->M Out}{env:af}(h:cY u b n env≠none):jW u b env=cY u b n env:=by
 have hx:∃ n,cY u b n env≠none:=⟨n,h⟩
 unfold jW;rw[dif_pos hx];have h1:=hx.choose_spec;rw[<- jr _ n env h1,<- jr n hx.choose env h,Ye]
theorem p5{E:XK}{u:af->M Bool}{g:af->M Out}(O:dU X λ_=>E)(hc:PT X c (tT (λ_=>E) u))(hb:kO X body (tS E g)):PS X (.While c body [] pos) (tS E (jW u g)) :=
 yW (λenv=>open Classical in if h:∃ n,cY u g n env≠none then h.choose else 0) O hc hb
end
def Fu:PV->Option String
 | .bG=>some "NoneType"
 | .bl _=>some "bool"
 | .int _=>some "int"
 | .str _=>some "str"
 | .lst _=>some "list"
 | .gc _=>some "list"
 | .tup _=>some "tuple"
 | .emp=>some "dict"
 | _=>none
def nu(a t:String):Bool:=a==t||(a == "bool" && t == "int")
theorem oQ(K:R5):Sb K (.type "NoneType") (.type "int")=some false:=by with_unfolding_all kernel_rfl
theorem vV(K:R5):Sb K (.type "bool") (.type "int")=some true:=by with_unfolding_all kernel_rfl
def tys:List String:=["int", "bool", "str", "list", "tuple"]
theorem KD(K:R5){a t:String}(ha:Fu p=some a)(ht:t∈tys):Sb K (.type a) (.type t)=some (nu a t):=by
 have ht2:t = "int" \/ t = "bool" \/ t = "str" \/ t = "list" \/ t = "tuple" := by simpa [tys] using ht
 cases p <;> cases ha <;> rcases ht2 with rfl | rfl | rfl | rfl | rfl <;> first
  | exact oQ K
  | exact kt_NoneType_bool K
  | exact kt_NoneType_str K
  | exact kt_NoneType_list K
  | exact kt_NoneType_tuple K
  | exact vV K
  | exact kt_bool_bool K
  | exact kt_bool_str K
  | exact kt_bool_list K
  | exact kt_bool_tuple K
  | exact kt_int_int K
  | exact kt_int_bool K
  | exact kt_int_str K
  | exact kt_int_list K
  | exact kt_int_tuple K
  | exact kt_str_int K
  | exact kt_str_bool K
  | exact kt_str_str K
  | exact kt_str_list K
  | exact kt_str_tuple K
  | exact kt_list_int K
  | exact kt_list_bool K
  | exact kt_list_str K
  | exact kt_list_list K
  | exact kt_list_tuple K
  | exact kt_tuple_int K
  | exact kt_tuple_bool K
  | exact kt_tuple_str K
  | exact kt_tuple_list K
  | exact kt_tuple_tuple K
  | exact kt_dict_int K
  | exact kt_dict_bool K
  | exact kt_dict_str K
  | exact kt_dict_list K
  | exact kt_dict_tuple K
theorem xQ{K:R5}{a:String}(s:bB Hs H)(r:Rep Hs p v)(ha:Fu p=some a):jK K H v (.type a):=by
 cases r with
 | bG=>cases ha;exact .bG
 | bl b=>cases ha;exact .bl b
 | int i=>cases ha;exact .int i
 | str x=>cases ha;exact .str x
 | tup h _=>cases ha;exact .tup (s _ _ h)
 | lst h _=>cases ha;exact .lst (s _ _ h)
 | gc h _=>cases ha;exact .jM (s _ _ h)
 | emp h=>cases ha;exact .dK (s _ _ h)
 | _=>cases ha
theorem yQ(K:R5){p:PV}{a:String}(ha:Fu p=some a):∀ {Ts:List String},(∀ t∈Ts,t∈tys)->Wm K (.type a) (Ts.map TU)=some (Ts.any λt=>nu a t)
 | [],_=>rfl
 | t::r,h=>by
  have h1:=KD K ha (h t Sq);have h2:=yQ K ha (Ts:=r) λt q=>h t (Sl _ q);simp only[Su,Wm,h1,List.any_cons];cases nu a t with
  | true=>rfl
  | false=>exact h2
structure mO (K:R5) (C:Addr):Prop where
 cls:iK K C
 ha:SG K (.ref C) "__class__" = some (some (.builtin "object.__class__"))
 hn:Vq K (.builtin "object.__class__") "__get__" = some (some (.builtin "getset_descriptor.__get__"))
 IZ:VZ K (.builtin "object.__class__")=some true
 hm:Wz K C (.type "object")=some true
def xJ(b:String->Bool)(ob oe:Addr->Option Bool):PV->M PV
 | .obj C _=>ed ((ob C).map .bl)
 | .exc C _=>ed ((oe C).map .bl)
 | p=>ed ((Fu p).map λa=>.bl (b a))
section
variable{p pt:Pos}{f:af->M PV}{T:String}{ob oe:Addr->Option Bool}
theorem wG{fo:Option (List (Str×PV))}(s:bB Hs H)(r:Rep Hs (.exc C fo) v):∃ a Ra,v=.ref a/\ExcAt H a C Ra:=by
 cases r with
 | @pY a _ h=>exact⟨a,none,rfl,s _ _ h⟩
 | @oK a _ d _ vs h h2 _=>exact⟨a,some vs,rfl,d,s _ _ h,s _ _ h2⟩
def se(b:String->Bool)(ob oe:Addr->Option Bool)(f:af->M PV):af->M PV:=λenv=>(f env).bind (xJ b ob oe)
theorem qo{b:String->Bool}{p:PV}{Q:PV->Prop}{F:EX->Prop}(h:au (xJ b ob oe p) Q F):(∃ a,Fu p=some a/\Q (.bl (b a)))\/(∃ C fs k,p=.obj C fs/\ob C=some k/\Q (.bl k))\/∃ C fo k,p=.exc C fo/\oe C=some k/\Q (.bl k):=by
 cases p with
 | obj C fs =>
  obtain⟨z,e,q⟩:=au.opt h;obtain⟨k,e2,rfl⟩:=Sn.mp e;exact .inr (.inl ⟨C,fs,k,rfl,e2,q⟩)
 | exc C fo =>
  obtain⟨z,e,q⟩:=au.opt h;obtain⟨k,e2,rfl⟩:=Sn.mp e;exact .inr (.inr ⟨C,fo,k,rfl,e2,q⟩)
 | bG=>exact .inl ⟨_,rfl,h⟩
 | bl _=>exact .inl ⟨_,rfl,h⟩
 | int _=>exact .inl ⟨_,rfl,h⟩
 | str _=>exact .inl ⟨_,rfl,h⟩
 | tup _=>exact .inl ⟨_,rfl,h⟩
 | lst _=>exact .inl ⟨_,rfl,h⟩
 | gc _=>exact .inl ⟨_,rfl,h⟩
 | emp=>exact .inl ⟨_,rfl,h⟩
 | wL _=>exact h.elim
 | fn _=>exact h.elim
theorem wZ{K:R5}{fs:List (Str×PV)}(s:bB Hs H)(r:Rep Hs (.obj C fs) v)(c:mO K C):jK K H v (.ref C):=by
 cases r with
 | obj h _=>exact .ins (s _ _ h) c.cls c.ha c.hn c.IZ c.hm
theorem m8(hg:Gl X "isinstance")(hm:X.mg "isinstance" = none)(hT:PE X (.Name x pt) (tC (.ty T)))(ht:T∈tys)(Q8:∀ C b,ob C=some b->mO X.K C/\Sb X.K (.ref C) (.type T)=some b)(Qq:∀ C b,oe C=some b->dG X.K C/\Sb X.K (.ref C) (.type T)=some b)(he:PE X e (tE E f))
  (h1:autoParam (starEach [e,.Name x pt] X.env=(false,eval e X.env)::starEach [.Name x pt] X.env) aR._auto_1) (h2:autoParam (starEach [.Name x pt] X.env=(false,eval (.Name x pt) X.env)::starEach [] X.env) aR._auto_1) (Oy:autoParam ((backTo pos (starEach [.Name x pt] X.env)).any (·.1)=false) aR._auto_1) :
  PE X (.Call (.Name "isinstance" p) [e,.Name x pt] [] pos) (tE E (se (λa=>nu a T) ob oe f)):=by
 refine(kb (dc.or wc qa) hg hm tR (dj he (dj hT jw h2) h1) (by decide) (by decide) h1 Oy).imp fun σ H Q q=>bD (K:=gW Q) gW.g q λB H₀ Hs H1 env p v sr rp hp=>?_;rcases qo hp with ⟨a,ha,q⟩ | ⟨C,fs,k,rfl,e,q⟩ | ⟨C,fo,k,rfl,e,q⟩
 .exact .inl ⟨v,T,_,_,rfl,xQ sr.gr.sub rp ha,KD X.K ha ht,dh.flat q sr.gr.sub (.bl _)⟩
 .exact .inl ⟨v,T,_,_,rfl,wZ sr.gr.sub rp (Q8 C k e).1,(Q8 C k e).2,dh.flat q sr.gr.sub (.bl _)⟩
 .obtain⟨a,Ra,rfl,hx⟩:=wG sr.gr.sub rp;exact .inr ⟨a,C,Ra,k,(Qq C k e).1,hx,.inl ⟨T,rfl,(Qq C k e).2⟩,dh.flat q sr.gr.sub (.bl _)⟩
theorem IT(hg:Gl X "isinstance")(hm:X.mg "isinstance" = none)(hT:PE X (.Name x pt) (tC (.ref D)))(hk:∀ p a,Fu p=some a->Sb X.K (.type a) (.ref D)=some false)(Q8:∀ C b,ob C=some b->mO X.K C/\Sb X.K (.ref C) (.ref D)=some b)(Qq:∀ C b,oe C=some b->dG X.K C/\Sb X.K (.ref C) (.ref D)=some b)(he:PE X e (tE E f))
  (h1:autoParam (starEach [e,.Name x pt] X.env=(false,eval e X.env)::starEach [.Name x pt] X.env) aR._auto_1) (h2:autoParam (starEach [.Name x pt] X.env=(false,eval (.Name x pt) X.env)::starEach [] X.env) aR._auto_1) (Oy:autoParam ((backTo pos (starEach [.Name x pt] X.env)).any (·.1)=false) aR._auto_1) :
  PE X (.Call (.Name "isinstance" p) [e,.Name x pt] [] pos) (tE E (se (λ_=>false) ob oe f)):=by
 refine(kb (dc.or A5 qa) hg hm tR (dj he (dj hT jw h2) h1) (by decide) (by decide) h1 Oy).imp fun σ H Q q=>bD (K:=gW Q) gW.g q λB H₀ Hs H1 env p v sr rp hp=>?_;rcases qo hp with ⟨a,ha,q⟩ | ⟨C,fs,k,rfl,e,q⟩ | ⟨C,fo,k,rfl,e,q⟩
 .exact .inl ⟨v,D,_,_,rfl,xQ sr.gr.sub rp ha,hk p a ha,dh.flat q sr.gr.sub (.bl _)⟩
 .exact .inl ⟨v,D,_,_,rfl,wZ sr.gr.sub rp (Q8 C k e).1,(Q8 C k e).2,dh.flat q sr.gr.sub (.bl _)⟩
 .obtain⟨a,Ra,rfl,hx⟩:=wG sr.gr.sub rp;exact .inr ⟨a,C,Ra,k,(Qq C k e).1,hx,.inr ⟨D,rfl,(Qq C k e).2⟩,dh.flat q sr.gr.sub (.bl _)⟩
theorem DI{e2:Expr}{t2:TE}{Ts:List String}(hg:Gl X "isinstance")(hm:X.mg "isinstance" = none)(hT:PE X e2 t2)(ht2:∀ σ H R,(∀ p,H p=none->R (.ref p) (upd H p (.tup (Ts.map V.ty))))->t2 σ H R)(ht:∀ t∈Ts,t∈tys)(Q8:∀ C b,ob C=some b->mO X.K C/\Wm X.K (.ref C) (Ts.map TU)=some b)(he:PE X e (tE E f))
  (h1:autoParam (starEach [e,e2] X.env=(false,eval e X.env)::starEach [e2] X.env) aR._auto_1) (h2:autoParam (starEach [e2] X.env=(false,eval e2 X.env)::starEach [] X.env) aR._auto_1) (Oy:autoParam ((backTo pos (starEach [e2] X.env)).any (·.1)=false) aR._auto_1) :
  PE X (.Call (.Name "isinstance" p) [e,e2] [] pos) (tE E (se (λa=>Ts.any λt=>nu a t) ob (λ_=>none) f)):=by
 refine(kb z0 hg hm tR (dj he (dj hT jw h2) h1) (by decide) (by decide) h1 Oy).imp fun σ H Q q=>bD (K:=gW Q) gW.g q λB H₀ Hs H1 env p v sr rp hp=>?_;refine ht2 σ H1 _ λtp hn=>?_;have g:=bF.new (o:=.tup (Ts.map V.ty)) sr.gr.sub hn;rcases qo hp with ⟨a,ha,q⟩ | ⟨C,fs,k,rfl,e,q⟩ | ⟨C,fo,k,rfl,e,q⟩
 .exact⟨v,tp,Ts,_,_,rfl,aA,xQ g.sub (rp.mono g.st) ha,yQ X.K ha ht,q _ _ _ g (.bl _)⟩
 .exact⟨v,tp,Ts,_,_,rfl,aA,wZ g.sub (rp.mono g.st) (Q8 C k e).1,(Q8 C k e).2,q _ _ _ g (.bl _)⟩
 .cases e
end
section
open PySem.SeqAt (shaped noMix noMixAll)
mutual
def dat:PV->Option PyData
 | .bG=>some .none
 | .bl b=>some (.bool b)
 | .int i=>some (.int i)
 | .str x=>some (.str x)
 | .tup xs=>(j8 xs).map .tuple
 | .lst xs=>(j8 xs).map .list
 | .gc xs=>(j8 xs).map .list
 | .obj _ _=>none
 | .exc _ _=>none
 | .emp=>none
 | .wL _=>none
 | .fn _=>none
def j8:List PV->Option (List PyData)
 | []=>some []
 | p::r=>(dat p).bind λd=>(j8 r).map (d::·)
end
mutual
theorem Rep.reads{Hs:Hp}(I:Inv X Oa σ H s)(sm:bB Hs H):∀ {p:PV} {v:V} {u:Value} {d:PyData},Rep Hs p v->RelV v u->dat p=some d->∃ as,Reads s.heap u d as
 | _,_,u,d,.bG,r,e=>by
  cases e;cases (show u=SM from r);exact⟨_,.none⟩
 | _,_,u,d,.bl b,r,e=>by
  cases e;cases (show u=Te b from r);exact⟨_,.bool b⟩
 | _,_,u,d,.int i,r,e=>by
  cases e;obtain⟨t,rfl⟩:=(show ∃ t,u=WH i t from r);exact⟨_,.int i t⟩
 | _,_,u,d,.str i,r,e=>by
  cases e;obtain⟨t,rfl⟩:=(show ∃ t,u=WI i t from r);exact⟨_,.str i t⟩
 | _,_,u,d,.tup (a:=a) ha hx,r,e=>by
  obtain⟨ds,e2,rfl⟩:=Sn.mp (show (j8 _).map PyData.tuple=some d from e);cases (show u=Sd a from r);obtain⟨Og,r1,⟨o,ho,hc,n,hd⟩,_⟩:=I.tuple (gk.of (sm _ _ ha));obtain⟨as,ra⟩:=aX.reads I sm hx r1 e2;exact⟨_,.tuple ho hc hd (by simpa using ra)⟩
 | _,_,u,d,.lst (a:=a) ha hx,r,e=>by
  obtain⟨ds,e2,rfl⟩:=Sn.mp (show (j8 _).map Za=some d from e);cases (show u=Sd a from r);obtain⟨Og,r1,⟨o,n,ho,hc,_,hd⟩,_⟩:=I.list (gS.of (sm _ _ ha));obtain⟨as,ra⟩:=aX.reads I sm hx r1 e2;exact⟨_,.list ho hc hd (by simpa using ra)⟩
 | _,_,u,d,.gc (a:=a) (o:=ob) ha hx,r,e=>by
  obtain⟨ds,e2,rfl⟩:=Sn.mp (show (j8 _).map Za=some d from e);cases (show u=Sd a from r);obtain⟨Og,r1,⟨o,n,ho,hc,_,hd⟩,_⟩:=I.list (.inl (.inr ⟨ob,sm _ _ ha⟩));obtain⟨as,ra⟩:=aX.reads I sm hx r1 e2;exact⟨_,.list ho hc hd (by simpa using ra)⟩
 | _,_,u,d,.obj _ _,r,e=>by cases e
 | _,_,u,d,.pY _,r,e=>by cases e
 | _,_,u,d,.oK _ _ _,r,e=>by cases e
 | _,_,u,d,.emp _,r,e=>by cases e
 | _,_,u,d,.wL _ _,r,e=>by cases e
 | _,_,u,d,.fn _,r,e=>by cases e
theorem aX.reads{Hs:Hp}(I:Inv X Oa σ H s)(sm:bB Hs H):∀ {p:List PV} {v:List V} {u:List Value} {d:List PyData},aX Hs p v->Vals v u->j8 p=some d->∃ as,ReadsAll s.heap u d as
 | _,_,_,_,.nil,.nil,e=>by cases e;exact⟨_,.nil⟩
 | _,_,_,d,.cons (p:=p) (ps:=ps) h hr,.cons r rr,e=>by
  obtain⟨d1,e1,e2⟩:=UH.mp (show (dat p).bind (λd=>(j8 ps).map (d::·))=some d from e);obtain⟨ds,e3,rfl⟩:=Sn.mp e2;obtain⟨as,ra⟩:=Rep.reads I sm h r e1;obtain⟨bs,rb⟩:=aX.reads I sm hr rr e3;exact⟨_,.cons ra rb⟩
end
def Bf(d e:PyData):M Bool:=cA (shaped d=true/\shaped e=true/\noMix d e=true) (M.ok (same d e))
def mh(o:Bool->PV)(p q:PV):M PV:=match dat p,dat q with
 | some d,some e=>(Bf d e).bind λb=>M.ok (o b)
 | _,_=>none
def jN:PV->PV->M PV:=mh λb=>.bl b
def nG:PV->PV->M PV:=mh λb=>.bl (!b)
def AU(o:Bool->Bool):R2:=λx y H Q=>∃ Hs p q d e,bB Hs H/\Rep Hs p x/\Rep Hs q y/\dat p=some d/\dat q=some e/\shaped d=true/\shaped e=true/\noMix d e=true/\Q (.bl (o (same d e))) H
theorem CZ(hu:X.A.units+64<cLine):gA X (compareOp .Eq) (AU id):=by
 intro Oa s σ H x y v u Q I rx ry h;obtain⟨Hs,p,q,d,e,sm,rp,rq,hd,he,h1,h2,h3,hq⟩:=h;obtain⟨as,ra⟩:=Rep.reads I sm rp rx hd;obtain⟨bs,rb⟩:=Rep.reads I sm rq ry he;exact eq_dataH_same ra rb h1 h2 hu h3 (iH I hq rfl)
theorem Cs(hu:X.A.units+64<cLine):gA X (compareOp .NotEq) (AU not):=by
 intro Oa s σ H x y v u Q I rx ry h;obtain⟨Hs,p,q,d,e,sm,rp,rq,hd,he,h1,h2,h3,hq⟩:=h;obtain⟨as,ra⟩:=Rep.reads I sm rp rx hd;obtain⟨bs,rb⟩:=Rep.reads I sm rq ry he;exact ne_dataH_same ra rb h1 h2 hu h3 (iH I hq rfl)
theorem CN{o:Bool->Bool}:ll E (AU o) (mh λb=>.bl (o b)):=by
 intro σ Hs H p q v u Q s rp rq h;unfold mh at h
 split at h
 .rename_i d e hd he;have h':=au.bind h;obtain⟨⟨h1,h2,h3⟩,h⟩:=au.cA h';exact⟨Hs,p,q,d,e,s,rp,rq,hd,he,h1,h2,h3,dh.flat h s (.bl _)⟩
 .exact h.elim
theorem FQ:ll E (AU id) jN:=CN
theorem F0:ll E (AU not) nG:=CN
def mE(xs:List PV)(lo hi:Option Int):List PV:=(xs.drop (HT.du xs.length 0 lo)).take (HT.du xs.length xs.length hi-HT.du xs.length 0 lo)
theorem aX.cut(r:aX H xs vs)(lo hi:Option Int):aX H (mE xs lo hi) (wj vs lo hi):=by
 unfold mE wj;rw[r.length];exact(r.drop _).take _
abbrev JW(Q:Option Int->Hp->Prop):Hp->Hp->Option Int->Prop:=λHs H k=>∀ Of H',bF Hs H Of H'->Q k H'
def K1(E:St->XK)(g:af->M (Option Int)):TO:=fun σ H Q=>tG E g (JW Q) σ H
theorem PO.imp{e:Option Expr}{t t':TO}(h:PO X e t)(i:∀ σ H Q,t' σ H Q->t σ H Q):PO X e t':=λOa s σ H Q I q=>h Oa s σ H Q I (i σ H Q q)
def zQ:PV->M (Option Int)
 | .int i=>M.ok (some i)
 | _=>none
def ux:af->M (Option Int):=λ_=>M.ok none
def dP(f:af->M PV):af->M (Option Int):=λenv=>(f env).bind zQ
section
variable{lo hi:Option Expr}{p2:Pos}{f:af->M PV}{gl gh:af->M (Option Int)}
theorem JW.g{Q:Option Int->Hp->Prop}:KG (JW Q):=λHs H Of H' b k g Oo H2 g2=>k Oo H2 (g.trans g2)
theorem mq:PO X none (K1 E ux):=Fj.imp fun σ H Q q=>by
 obtain⟨B,H₀,Hs,env,sr,q⟩:=q;exact q Hs H (.refl sr.gr.sub)
theorem gg(he:PE X e (tE E f)):PO X (some e) (K1 E (dP f)):=(DU he).imp fun σ H Q q=>bD (K:=JW Q) JW.g q λB H₀ Hs H1 env p v sr rp hp=>by
 cases rp with
 | int i=>exact⟨i,rfl,hp Hs H1 (.refl sr.gr.sub)⟩
 | _=>exact hp.elim
end
def hR(xs:List PV):List PV:=xs.mapIdx λi x=>.tup [.int (i:Nat),x]
section
variable{K:R5}{fs:af->M (List PV)}
theorem r_(hq:∀ Of H',bB Ov Of->bB Of H'->gS K H' a vs)(hr:aX Ov xs vs):lC (II K a) Ov (hR xs) where
 stop:=λi Hs H s1 s2 hi=>by
  unfold hR at hi;rw[Ul,hr.length] at hi;exact⟨vs,hq Hs H s1 s2,hi⟩
 go:=λi Hs H s1 s2 hi=>by
  unfold hR at hi;rw[Ul] at hi;obtain⟨v,e,_⟩:=hr.get (R8 hi);exact⟨vs,v,hq Hs H s1 s2,e⟩
 wo:=λi Hs H x H2 s1 s2 hi y=>by
  unfold hR at hi;rw[Ul] at hi;obtain⟨v,e,r⟩:=hr.get (R8 hi);obtain⟨pa,v',hn,rfl,rfl,y1⟩:=y;have z1:=y1 vs (hq Hs H s1 s2);rw[e] at z1;cases z1;have gr:=bF.new (o:=.tup [.int (i:Nat),v]) s2 hn;refine⟨.tup [.int (i:Nat),xs[i]],_,?_,gr,.tup aA (.cons (.int _) (.cons ((r.mono s1).mono gr.st) .nil))⟩;unfold hR;rw[Xk,R8 hi];rfl
end
end
def Dz(lo st:Int)(n:Nat):It:=⟨λi _=>i<n,λi H x H'=>H'=H/\x=.int (lo+(i:Nat)*st),λi _=>n<=i⟩
theorem uJ{K:R5}(it:Addr)(lo st:Int)(n:Nat):Turn P w K tg (Dz lo st n) [it] it (λi h=>IsRangeIter h it (lo+(i:Nat)*st) ((n:Int)-(i:Nat)) st) where
 mem:=by simp
 obj:=λi h st b hb=>by
  have e:b=it:=by simpa using hb
  subst e;exact⟨_,st,λv z=>by
   have z':Data.fields _=Data.cell v:=z;cases z'⟩
 keep:=λi h h' st k=>k it (by simp) _ st
 item:=by
  intro X hP hw hK hc i Oa s σ H E I hf QF hg;subst hP hw hK;obtain⟨f0,f1,f2,f3,f4,f5⟩:=hf it (by simp);have W:=Y9 (prog:=X.prog) (w:=X.w) (I.ok.hd hc) it lo st n;refine W.item i s _ _ hg QF λv h' tk hv R1 kk=>?_;obtain⟨t,rfl⟩:=hv;have I1:Inv X Oa σ H { s with heap:=h',toks:=tk }:=I.turned (λb o hb e=>kk b o (by simpa using hb) e) f0 f1 f3 f4 f5;exact⟨_,rfl,yn (s:={ s with heap:=h',toks:=tk }) (n := "range_iterator") R1 rfl rfl (by decide) ⟨.int (lo+(i:Nat)*st),H,I1,⟨t,rfl⟩,⟨rfl,rfl⟩,R1,λb hb=>(hf b hb).1⟩⟩
 done:=by
  intro X hP hw hK hc i Oa s σ H E I hf QF hg;subst hP hw hK;obtain⟨f0,f1,f2,f3,f4,f5⟩:=hf it (by simp);exact WU (I.ok.hd hc) QF (by have:n<=i:=hg;lia) λh' eb=>⟨rfl,I.turned (t':=s.toks) (λb o hb e=>eb b o hb e) f0 f1 f3 f4 f5⟩
 self:=λ_ _ _ _ _ st h=>WV st h
theorem tM(a b c:Int):0<=Sy a b c:=by
 unfold Sy
 split
 .split
  .have:=V3 (a:=b-a-1) (b:=c) (by lia) (by lia);lia
  .lia
 .split
  .have:=V3 (a:=a-b-1) (b:=-c) (by lia) (by lia);lia
  .lia
theorem Ab{R:It->Hp->Prop}{E:Value->Shared->Prop}{lo hi st:Int}{t u v:Tok}{tk:Nat}(I:Inv X Oa σ H s)(hsm:Xu lo hi st=true)
  (q:R (Dz lo st (Sy lo hi st).toNat) H):wpAny (model X.prog X.w) X.A (pyIter (.ref s.heap.objs.size)) (M4 X Oa σ tg R) E { s with heap:=s.heap.push { cls:=.type "range", data:=.fields #[.int lo t,.int hi u,.int st v] },toks:=tk }:=by
 refine Xz (Y_ ..) hsm ?_;have I1:Inv X Oa σ H { s with heap:=s.heap.push { cls:=.type "range", data:=.fields #[.int lo t,.int hi u,.int st v] },toks:=tk }:=I.kept λb o e=>R6 _ e;refine⟨(s.heap.push { cls:=.type "range", data:=.fields #[.int lo t,.int hi u,.int st v] }).objs.size,[(s.heap.push { cls:=.type "range", data:=.fields #[.int lo t,.int hi u,.int st v] }).objs.size],_,_,H,rfl,
  I1.kept (t':=tk) λb o e=>R6 _ e,uJ _ lo st (Sy lo hi st).toNat,?_,λb hb=>?_,q⟩
 .have e1:lo+((0:Nat):Int)*st=lo:=by simp
  have e2:(((Sy lo hi st).toNat:Nat):Int)-((0:Nat):Int)=Sy lo hi st:=by have:=tM lo hi st;lia
  show IsRangeIter _ _ (lo+((0:Nat):Int)*st) ((((Sy lo hi st).toNat:Nat):Int)-((0:Nat):Int)) st;rw[e1,e2];exact Sg _ rfl
 .have e:b=(s.heap.push { cls:=.type "range", data:=.fields #[.int lo t,.int hi u,.int st v] }).objs.size:=by simpa using hb
  subst e;exact I1.vI (Se _) (I1.bJ.fresh (Se _))
def C3(i j k:Int):Bool:=decide (k≠0)&&decide (k.natAbs<1073741824)&&Xu i j k
def F8(ta:TA):TI:=fun σ H R=>ta σ H λvs H1=>∃ i j k:Int,vs=[.int i,.int j,.int k]/\C3 i j k=true/\R (Dz i k (Sy i j k).toNat) H1
theorem rT{a b:Expr}{ta:TA}{p:Pos}(hg:Gl X "range")(hm:X.mg "range" = none)(ha:PA X [a,b,c] ta)(hs:autoParam (starEach [a,b,c] X.env=[(false,eval a X.env),(false,eval b X.env),(false,eval c X.env)]) aR._auto_1)(P8:autoParam (starEach [b,c] X.env=[(false,eval b X.env),(false,eval c X.env)]) aR._auto_1) :
  PI X tg (.Call (.Name "range" p) [a,b,c] [] pos) (F8 ta):=by
 intro Oa s σ H R I h;refine Call_ (j9 I hg hm YR (Tf (cU (ha pos Oa s σ H _ I h) λus s1 ⟨vs,H1,I1,r1,q1⟩=>?_) (by rw[hs,P8]) (by rw[P8];rfl)));obtain⟨i,j,k,e,hc,q⟩:=q1;subst e;cases r1 with
 | cons r rr =>
  cases rr with
  | cons r' rr =>
   cases rr with
   | cons r'' rr =>
    cases rr;obtain⟨t,rfl⟩:=r;obtain⟨t',rfl⟩:=r';obtain⟨t'',rfl⟩:=r'';unfold C3 at hc;rw[SX,SX] at hc;exact call_range_3 (of_decide_eq_true hc.1.1) (Ab I1 hc.2 q) (.inl (PyProof.noPylong_small (of_decide_eq_true hc.1.2)))
def BU:List PV->M (List PV)
 | [.int i,.int j,.int k]=>cA (C3 i j k=true) (M.ok ((S7 (Sy i j k).toNat).map λ(n:Nat)=>.int (i+n*k)))
 | _=>none
section
variable{K:R5}{fs:af->M (List PV)}
theorem zI{lo st:Int}:lC (Dz lo st n) Ov ((S7 n).map λ(i:Nat)=>PV.int (lo+(i:Int)*st)) where
 stop:=λi Hs H s1 s2 hi=>show n<=i by simpa using hi
 go:=λi Hs H s1 s2 hi=>show i<n by simpa using hi
 wo:=λi Hs H x H2 s1 s2 hi y=>by
  obtain⟨rfl,rfl⟩:=y;have Q2:i<n:=by simpa using hi
  exact⟨.int (lo+(i:Int)*st),Hs,by simp[Q2],.refl s2,.int _⟩
theorem z6{ps:List PV}{Q:List PV->Prop}{F:EX->Prop}(h:au (BU ps) Q F):∃ i j k,ps=[.int i,.int j,.int k]/\C3 i j k=true/\Q ((S7 (Sy i j k).toNat).map λ(n:Nat)=>.int (i+n*k)):=by
 unfold BU at h
 split at h
 .obtain⟨hc,h⟩:=au.cA h;exact⟨_,_,_,rfl,hc,h⟩
 .exact h.elim
theorem aX.three{q r:PV}(h:aX H [p,q,r] vs):∃ v u w,vs=[v,u,w]/\Rep H p v/\Rep H q u/\Rep H r w:=by
 cases h with
 | cons h r=>obtain⟨u,w,rfl,h2,h3⟩:=r.two;exact⟨_,_,_,rfl,h,h2,h3⟩
theorem vd:Aq E (F8 (tL E fs)) (jQ BU fs):=by
 intro σ H R q;refine dH (K:=KI R) KI.g q λB H₀ Hs H1 env ps v sr rp hp=>?_;obtain⟨i,j,k,rfl,hc,hp⟩:=z6 hp;obtain⟨w,u,z,rfl,Qf,ru,rz⟩:=rp.three;cases Qf;cases ru;cases rz;exact⟨i,j,k,rfl,hc,hp _ Hs H1 (.refl sr.gr.sub) zI⟩
end
section
variable{K:R5}{fs:af->M (List PV)}
end
def yP(i j k:Nat):PV->af->M af
 | .tup [p,q,r],env=>M.ok (((env.set i (some (.sh p))).set j (some (.sh q))).set k (some (.sh r)))
 | _,_=>none
theorem yJ{E:XK}{K:R5}:AL E (fN K 3 (bg (aH i) (bg (aH j) (bg (aH k) fP)))) (yP i j k):=by
 intro B H₀ Hs H σ env p v Q Z sr r h;cases r with
 | @tup a xs vs ha hx =>
  match xs,hx with
  | [p,q,r],hx =>
   obtain⟨v,u,w,rfl,rp,rq,rr⟩:=hx.three;exact⟨a,[v,u,w],rfl,gk.of (sr.gr.sub _ _ ha),rfl,v,[u,w],rfl,u,[w],rfl,w,[],rfl,rfl,h _ (((sr.set rp).set rq).set rr)⟩
  | [],_=>exact h.elim
  | [_],_=>exact h.elim
  | [_,_],_=>exact h.elim
  | _::_::_::_::_,_=>exact h.elim
 | _=>exact h.elim
def GJ(set:PV->af->M af)(f:af->M PV):af->M Out:=λenv=>(f env).bind λp=>(set p env).bind λOc=>M.ok (.nx Oc)
section
variable{E:XK}{fs:af->M (List PV)}{f h:af->M PV}
theorem GD{g:TG}{set:PV->af->M af}(hg:PG X tg g)(QG:AL E g set)(he:PE X e (tE (λ_=>E) f))(hs:autoParam (swapsWithSole [tg] e pos.line X.env=pure false) aR._auto_1)(hw:autoParam (swappedStores [tg] e X.env=pure none) aR._auto_1)
  (h1:autoParam ((assignEach [tg] X.env).map (·.2)=[assign tg X.env]) aR._auto_1):PS X (.Assign [tg] e pos) (tS E (GJ set f)):=by
 refine(Ce he hg hs hw h1).imp λD σ H q=>iY q λB H₀ Hs H1 env p v sr rp hp=>?_;exact QG B H₀ Hs H1 σ env p v _ _ sr rp ((au.bind hp).imp (λOc he' σ' PZ=>he' σ' Hs H1 PZ) λ_ z=>z)
def ownAt(i:Nat)(env:af):M (List PV):=match env[i]? with
 | some (some (.ow xs))=>M.ok xs
 | _=>none
theorem au.own{env:af}{Q:List PV->Prop}{F:EX->Prop}(h:au (ownAt i env) Q F):∃ xs,env[i]?=some (some (.ow xs))/\Q xs:=by
 unfold ownAt at h
 split at h
 .exact⟨_,by assumption,h⟩
 .exact h.elim
def JK(i:Nat)(xs:List PV)(p:PV)(env:af):PV->M Out
 | .int n=>match Eh xs.length n with
  | some j=>M.ok (.nx (env.set i (some (.ow (xs.set j p)))))
  | none=>none
 | _=>none
def MG(i:Nat)(g f:af->M PV):af->M Out:=λenv=>(f env).bind λp=>(ownAt i env).bind λxs=>(g env).bind (JK i xs p env)
theorem FX{ie:Expr}(hi:X.N[i]?=some x)(hv:BE X.env.scope x)(hk:PE X ie (tE (λ_=>E) h))(he:PE X e (tE (λ_=>E) f))(hd:autoParam ((x==("__debug__" : Str))=false) aD._auto_1)(Pn:autoParam ((x==("__classdict__" : Str))=false) aD._auto_1)
  (ha:autoParam (∀ v,assign (.Subscript (.Name x px) ie pos') X.env v=(do
   let ov <- holding [v] (eval (.Name x px) X.env)
   let iv <- holding [v,ov] (eval ie X.env)
   standAt pos'
   holding [v,ov,iv] (setItem ov iv v)
   release [v,ov,iv] [])) aI._auto_1)
  (hs:autoParam (swapsWithSole [.Subscript (.Name x px) ie pos'] e pos.line X.env=pure false) aR._auto_1) (hw:autoParam (swappedStores [.Subscript (.Name x px) ie pos'] e X.env=pure none) aR._auto_1)
  (h1:autoParam ((assignEach [.Subscript (.Name x px) ie pos'] X.env).map (·.2)=[assign (.Subscript (.Name x px) ie pos') X.env]) aR._auto_1):PS X (.Assign [.Subscript (.Name x px) ie pos'] e pos) (tS E (MG i h f)):=by
 refine(Ce he (Gq (lj hi hv hd Pn) hk set_list ha) hs hw h1).imp λD σ H q=>iY q λB H₀ Hs H1 env p v sr rp hp=>?_;obtain⟨xs,ex,hp⟩:=au.own (au.bind hp);obtain⟨a,vs,h1,h2,h3,h4,h5⟩:=sr.ow i xs ex;refine⟨.ref a,h1,B,H₀,Hs,env,sr,(au.bind hp).imp (λk hk w Oo H2 g2 rk=>?_) λe he=>he.grow sr.gr⟩;have OX:=sr.grow g2;cases rk with
 | int n =>
  have RM:au (match Eh xs.length n with | some j=>M.ok (Out.nx (env.set i (some (.ow (xs.set j p))))) | none=>none) (KS D B H₀) (XW E B H₀):=hk
  split at RM
  .rename_i j ej;exact⟨a,vs,n,j,rfl,rfl,g2.al _ _ h2,by rw[<- h5.length];exact ej,RM σ Oo _ (OX.put ex h1 ((h5.mono g2.st).set (rp.mono g2.st) j))⟩
  .exact RM.elim
 | _=>exact hk.elim
end
theorem KO.gr{Q:VK}:KG (KO Q):=λHs H Of H' b k g vs p Oo H2 g2 r n=>k vs p Oo H2 (g.trans g2) r n
section
variable{sem:List PV->M (List PV)}{p:Pos}{o:Expr}{fs:af->M (List PV)}{g:af->M PV}
end
mutual
def vE:PV->Bool
 | .bG=>true
 | .bl _=>true
 | .int _=>true
 | .str _=>true
 | .tup xs=>tF xs
 | _=>false
def tF:List PV->Bool
 | []=>true
 | p::r=>vE p&&tF r
end
mutual
theorem Rep.away{Hs:Hp}{a:Addr}{ws:List V}(ha:Hs a=some (.lst ws)):∀ {p:PV} {v:V},Rep Hs p v->vE p=true->Rep (rem Hs a) p v
 | _,_,.bG,_=>.bG
 | _,_,.bl b,_=>.bl b
 | _,_,.int b,_=>.int b
 | _,_,.str b,_=>.str b
 | _,_,.tup (a:=c) h r,n=>by
  have nc:c≠a:=λz=>by subst z;rw[ha] at h;cases h
  exact .tup (by unfold rem;rw[if_neg nc];exact h) (r.away ha n)
 | _,_,.lst _ _,n=>by cases n
 | _,_,.gc _ _,n=>by cases n
 | _,_,.obj _ _,n=>by cases n
 | _,_,.pY _,n=>by cases n
 | _,_,.oK _ _ _,n=>by cases n
 | _,_,.emp _,n=>by cases n
 | _,_,.wL _ _,n=>by cases n
 | _,_,.fn _,n=>by cases n
theorem aX.away{Hs:Hp}{a:Addr}{ws:List V}(ha:Hs a=some (.lst ws)):∀ {p:List PV} {v:List V},aX Hs p v->tF p=true->aX (rem Hs a) p v
 | _,_,.nil,_=>.nil
 | _,_,.cons h r,n=>by
  have n':=Tt.mp (show (vE _&&tF _)=true from n);exact .cons (h.away ha n'.1) (r.away ha n'.2)
end
def DN:M PV->M PV
 | some (.ok p)=>cA (vE p=true) (M.ok p)
 | _=>none
theorem au.DN{r:M PV}{Q:PV->Prop}{E:EX->Prop}(h:au (L2.DN r) Q E):au r (λp=>vE p=true/\Q p) (λ_=>False):=by
 cases r with
 | none=>exact h
 | some r=>cases r with
  | error e=>exact h
  | ok p =>
   obtain⟨n,h⟩:=au.cA h;exact⟨n,h⟩
theorem bF.back{Of H':Hp}{ws:List V}(h1:Hs a=none)(hH:H a=some (.lst ws))(s:bB Hs H)(g:bF (upd Hs a (.lst ws)) H Of H'):bF Hs H (rem Of a) H'/\Of a=some (.lst ws):=by
 have e:Of a=some (.lst ws):=g.st _ _ aA;refine⟨⟨λc u q=>?_,g.al,λc u q=>?_,λc u q1 q2 q3=>?_⟩,e⟩
 .have nc:c≠a:=λz=>by subst z;rw[h1] at q;cases q
  unfold rem;rw[if_neg nc];exact g.st c u (by rw[av nc];exact q)
 .unfold rem at q
  split at q
  .cases q
  .exact g.sub c u q
 .unfold rem
  by_cases nc:c=a
  .rw[if_pos nc]
  .rw[if_neg nc];exact g.nw c u (by rw[av nc];exact q1) q2 q3
theorem SR.lend{B:Hp}{env:af}(r:SR B H₀ Hs H σ env)(e:env[i]?=some (some (.ow xs))):∃ a vs,Hs a=none/\H a=some (.lst vs)/\SR B H₀ (upd Hs a (.lst vs)) H σ (qN i env):=by
 obtain⟨a,vs,h1,h2,h3,_⟩:=r.KN e;unfold qN;rw[e];exact⟨a,vs,h1,h2,h3⟩
def AV(i:Nat)(f:af->M PV):af->M PV:=λenv=>(ownAt i env).bind λ_=>DN (f (qN i env))
section
variable{f:af->M PV}{u:af->M Bool}
theorem yO(i:Nat)(he:PE X e (tE E f)):PE X e (tE E (AV i f)):=he.imp fun σ H Q q=>by
 obtain⟨B,H₀,Hs,env,sr,q⟩:=q;obtain⟨xs,ex,q⟩:=au.own (au.bind q);obtain⟨a,vs,h3,h2,OX⟩:=sr.lend ex;refine⟨B,H₀,_,_,OX,(au.DN q).imp (λp hp v Of H' g r=>?_) λ_ z=>z.elim⟩;obtain⟨g2,ea⟩:=bF.back h3 h2 sr.gr.sub g;exact hp.2 v _ _ g2 (r.away ea hp.1)
end
def bW:PV->PV->M PV:=xH (λ_ j=>decide (j≠0/\j.natAbs.log2<9000)) λi j=>i.fdiv j
def bS:PV->PV->M PV:=xH (λ_ j=>decide (j≠0)) λi j=>i.fmod j
def AR:PV->PV->M PV:=xH (λi j=>decide (0<=j/\j<=1000000/\i.natAbs<2^64)) λi j=>i^j.toNat
def Fi:PV->PV->M PV:=CD λi j=>decide (i<j)
def Ew:PV->PV->M PV:=CD λi j=>decide (i<=j)
def Fw:PV->PV->M PV:=CD λi j=>decide (j<i)
def Jf:PV->PV->M PV:=CD λi j=>decide (j<=i)
theorem Ba:ll E (rI Cm λi j=>.int (i.fdiv j)) bW:=Fn
theorem Ef:ll E (rI (λ_ j=>j≠0) λi j=>.int (i.fmod j)) bS:=Hl
theorem DA:ll E (rI Gn λi j=>.int (i^j.toNat)) AR:=HJ
theorem w6:ll E (yi λi j=>.bl (decide (i<j))) Fi:=t4
theorem pD:ll E (yi λi j=>.bl (decide (i<=j))) Ew:=t4
theorem B2:ll E (yi λi j=>.bl (decide (j<i))) Fw:=t4
theorem B6:ll E (yi λi j=>.bl (decide (j<=i))) Jf:=t4
def aZ(n:Nat)(s:List PV->M PV):List PV->M PV:=λps=>cA (ps.length=n) (s ps)
theorem j1{s:List PV->M PV}{ps:List PV}(h:aZ n s ps≠none):ps.length=n:=by
 unfold aZ cA at h
 split at h
 .assumption
 .exact(h rfl).elim
variable{dv:Value}
section
variable{K:R5}
theorem Bk{s:List PV->M PV}(F:aL P w K mg base (bI P w) k f fd ps (cP n s)):aL P w K mg base (bI P w) k f fd ps (cP n (aZ n s)) where
 len:=λvs H Q E h=>by
  obtain⟨h0,Hs,qs,sm,r,h⟩:=h;exact F.len vs H Q E ⟨h0,Hs,qs,sm,r,(au.cA h).2⟩
 run:=λA outer s H args us vs Q E hr e hb rv h=>by
  obtain⟨h0,Hs,qs,sm,r,h⟩:=h;exact F.run A outer s H args us vs Q E hr e hb rv ⟨h0,Hs,qs,sm,r,(au.cA h).2⟩
structure cm (P:Program) (w:World) (K:R5) (mg:Str->Option Value) (base:Heap) (n:Nat) (x:Str) (m:Nat) (sem:List PV->M PV):Prop where
 ex:∃ (f:Addr) (fd:FuncData) (ps:List Str),mg x=some (.ref f)/\SN K (.ref f)=true/\ps.length=m/\Binds K fd ps []/\aL P w K mg base (bI P w) n f fd ps (cP m (aZ m sem))
theorem aV.NU{st:Stmt}{g:af->M Out}(F:aV K x qual st dv f fd)(S:bj N ps (aE st))
  (hb:∀ (Ox:Value) (A:Around) (outer:List Env) (s:Shared) (H:Hp) (E:XK),ck k (A.deeper (envOfC qual (aE st) s.heap.objs.size f Ox))->dU ((lB (bI P w) P w K mg base N qual (aE st) f Ox A outer s H E).out λ_=>E) (λ_=>E)->kO ((lB (bI P w) P w K mg base N qual (aE st) f Ox A outer s H E).out λ_=>E) (dC st) (tS E g)) :
  aL P w K mg base (bI P w) (k+1) f fd ps (cP ps.length (aZ ps.length (ar N.length g))):=by
 obtain⟨oc,od,kV,doc,pm,an,Ox,ct,QJ,rfl,lk,Pn⟩:=F.ex;exact Bk (Iq lk Pn S λA outer s H E hr=>hb Ox A outer s H E hr (Br rfl rfl))
end
section
variable{m:Nat}{sem:List PV->M PV}{fs:af->M (List PV)}{p:Pos}
theorem cm.call(F:cm X.prog X.w X.K X.mg X.base n x m sem)(hr:ck k X.A)(hn:n<=k)(hg:Gl X x)(O:dU X E)(ha:PA X (e::es) (tL E fs))(Po:autoParam ((x==("__debug__" : Str))=false) aD._auto_1)(he:autoParam (starEach (e::es) X.env=(false,eval e X.env)::starEach es X.env) aR._auto_1)(Oy:autoParam ((backTo pos (starEach es X.env)).any (·.1)=false) aR._auto_1) :
  PE X (.Call (.Name x p) (e::es) [] pos) (tE E (ai (aZ m sem) fs)):=by
 obtain⟨f,fd,ps,h1,h2,h3,h4,h5⟩:=F.ex;have:=E5 (p:=p) (P9:=[]) h5 (hr.mono hn) hg h1 h2 h4 .nil (λ_=>.nil) O (λPD hp=>by rw[SK] at hp;exact j1 hp) ha Po he Oy;refine this.imp fun σ H Q q=>?_;have e:(λps=>aZ m sem (ps++[]))=aZ m sem:=by funext ps;rw[SK]
 rw[e];exact q
structure fR (P:Program) (w:World) (K:R5) (mg:Str->Option Value) (base:Heap) (C:Addr) (n:Nat) (x:Str) (m:Nat) (sem:List PV->M PV):Prop where
 ex:∃ (f:Addr) (fd:FuncData) (ps:List Str),iK K C/\Meth K C x f/\Binds K fd ps []/\aL P w K mg base (bI P w) n f fd ps (cP m (aZ m sem))
theorem fR.call{o:Expr}{g:af->M PV}(F:fR X.prog X.w X.K X.mg X.base C n x m sem)(hr:ck k X.A)(hn:n<=k)(O:dU X E)(ho:PE X o (tE E g))(ha:PA X (e::es) (tL E fs))
  (O6:autoParam (starEach (e::es) X.env=(false,eval e X.env)::starEach es X.env) aR._auto_1) (Oy:autoParam ((backTo pos (starEach es X.env)).any (·.1)=false) aR._auto_1)
  (ht:autoParam (eval (.Call (.Attribute o x apos) (e::es) [] pos) X.env=(do
   let ov <- eval o X.env
   standAt apos.atName
   let (f,first) <- holding [ov] (getMethod ov x pl)
   callWith pos f first (backTo pos (starEach (e::es) X.env)) (backToKw pos (keywordEach [] X.env)))) aR._auto_1) :
  PE X (.Call (.Attribute o x apos) (e::es) [] pos) (tE E (bP C x (aZ m sem) g fs)):=by
 obtain⟨f,fd,ps,h1,h2,h3,h4⟩:=F.ex;exact D1 ho h1 h2 h4 (hr.mono hn) h3 O (λPD hp=>j1 hp) ha O6 Oy ht
theorem fR.AQ{o:Expr}{g:af->M PV}(F:fR X.prog X.w X.K X.mg X.base C n x m sem)(hr:ck k X.A)(hn:n<=k)(O:dU X E)(ho:PE X o (tE E g))
  (ht:autoParam (eval (.Call (.Attribute o x apos) [] [] pos) X.env=(do
   let ov <- eval o X.env
   standAt apos.atName
   let (f,first) <- holding [ov] (getMethod ov x pl)
   callWith pos f first (backTo pos (starEach [] X.env)) (backToKw pos (keywordEach [] X.env)))) aR._auto_1) :
  PE X (.Call (.Attribute o x apos) [] [] pos) (tE E (bP C x (aZ m sem) g aj)):=by
 obtain⟨f,fd,ps,h1,h2,h3,h4⟩:=F.ex;exact B8 ho h1 h2 h4 (hr.mono hn) h3 O (λPD hp=>j1 hp) ht
end
structure qP (P:Program) (w:World) (K:R5) (mg:Str->Option Value) (base:Heap) (C:Addr) (n:Nat) (x:Str) (m:Nat) (P9:List PV) (sem:Addr->List PV->M (List (Str×PV))):Prop where
 ex:∃ (f:Addr) (fd:FuncData) (ps:List Str) (ds:List Value) (Pb:List V),mg x=some (.ref C)/\Mk K C f/\Binds K fd ps ds/\Vals Pb ds/\(∀ H,aX H P9 Pb)/\aL P w K mg base (bI P w) n f fd ps (Ap m C sem)
def lr(m:Nat)(sem:Addr->List PV->M (List (Str×PV))):Addr->List PV->M (List (Str×PV)):=λa ps=>cA (ps.length+1=m) (sem a ps)
theorem zv{K:R5}{s:Addr->List PV->M (List (Str×PV))}(F:aL P w K mg base (bI P w) k f fd ps (Ap n C s)):aL P w K mg base (bI P w) k f fd ps (Ap n C (lr n s)) where
 len:=λvs H Q E h=>by
  obtain⟨h0,a,dx,us,Hs,H1,qs,e1,e2,e3,e4,e5,sm,r,h⟩:=h;exact F.len vs H Q E ⟨h0,a,dx,us,Hs,H1,qs,e1,e2,e3,e4,e5,sm,r,(au.cA h).2⟩
 run:=λA outer s H args us vs Q E hr e hb rv h=>by
  obtain⟨h0,a,dx,us',Hs,H1,qs,e1,e2,e3,e4,e5,sm,r,h⟩:=h;exact F.run A outer s H args us vs Q E hr e hb rv ⟨h0,a,dx,us',Hs,H1,qs,e1,e2,e3,e4,e5,sm,r,(au.cA h).2⟩
theorem aV.I0{K:R5}{st:Stmt}{g:af->M Out}(F:aV K x qual st dv f fd)(S:bj N ps (aE st))(hN:0<N.length)
  (hb:∀ (Ox:Value) (A:Around) (outer:List Env) (s:Shared) (H:Hp) (E:XK),ck k (A.deeper (envOfC qual (aE st) s.heap.objs.size f Ox))->dU ((lB (bI P w) P w K mg base N qual (aE st) f Ox A outer s H E).out λ_=>E) (λ_=>E)->kO ((lB (bI P w) P w K mg base N qual (aE st) f Ox A outer s H E).out λ_=>E) (dC st) (tS E g)) :
  aL P w K mg base (bI P w) (k+1) f fd ps (Ap ps.length C (lr ps.length (oV N.length g C))):=by
 obtain⟨oc,od,kV,doc,pm,an,Ox,ct,QJ,rfl,lk,Pn⟩:=F.ex;exact zv <| ET lk Pn S hN λA outer s H E hr=>hb Ox A outer s H E hr (Br rfl rfl)
section
variable{m:Nat}{fs:af->M (List PV)}{p:Pos}
theorem qP.make{sem:Addr->List PV->M (List (Str×PV))}(F:qP X.prog X.w X.K X.mg X.base C n x m P9 (lr m sem))(hr:ck k X.A)(hn:n+1<=k)(hg:Gl X x)(O:dU X E)(ha:PA X (e::es) (tL E fs))(Po:autoParam ((x==("__debug__" : Str))=false) aD._auto_1)(he:autoParam (starEach (e::es) X.env=(false,eval e X.env)::starEach es X.env) aR._auto_1)(Oy:autoParam ((backTo pos (starEach es X.env)).any (·.1)=false) aR._auto_1) :
  PE X (.Call (.Name x p) (e::es) [] pos) (tE E (ai (cj C (lr m sem) P9) fs)):=by
 obtain⟨f,fd,ps,ds,Pb,h1,h2,h4,h5,h6,h7⟩:=F.ex;refine EJ (p:=p) h2 h7 (hr.mono hn) hg h1 h4 h5 h6 O (λa PD hp=>?_) ha Po he Oy;unfold lr cA at hp
 split at hp
 .rename_i h;rwa [Sw] at h
 .exact(hp rfl).elim
theorem D4{f:af->M PV}(hg:Gl X "list")(hm:X.mg "list" = none)(he:PE X e (tE E f))(h1:autoParam (starEach [e] X.env=(false,eval e X.env)::starEach [] X.env) aR._auto_1)(Oy:autoParam ((backTo pos (starEach [] X.env)).any (·.1)=false) aR._auto_1) :
  PE X (.Call (.Name "list" p) [e] [] pos) (tO E (B_ f)):=by
 refine(rL lW hg hm pq (dj he jw h1) (by decide) (by decide) h1 Oy).imp fun σ H Q q=>bD (K:=KO Q) KO.gr q λB H₀ Hs H1 env p v sr rp hp=>?_;cases hs:cB p with
 | none=>rw[hs] at hp;exact hp.elim
 | some xs =>
  rw[hs] at hp;obtain⟨a,us,rfl,hq,hx⟩:=wB (K:=X.K) sr.gr.sub rp hs;exact⟨a,us,rfl,hq,λl n=>hp us l Hs H1 (.refl sr.gr.sub) hx n⟩
end
def oF:Addr->Option Bool:=λ_=>none
theorem nA{P:Addr->Bool->Prop}:∀ C b,oF C=some b->P C b:=λ_ _ h=>by cases h
theorem vr(i:Nat)(hN:autoParam (X.N[i]?=some x) aR._auto_1)(hv:BE X.env.scope x:=by first | exact .inl rfl | exact .inr (.inl rfl) | exact .inr (.inr rfl))(hd:autoParam ((x==("__debug__" : Str))=false) aD._auto_1)(Pn:autoParam ((x==("__classdict__" : Str))=false) aD._auto_1):PE X (.Name x pos) (tE E (ae i)):=HF hN hv hd Pn
theorem FV{env:Env}(h:(match e with | .Starred ..=>true | _=>false)=false):starEach (e::es) env=(false,eval e env)::starEach es env:=by
 cases e <;> first | rfl | cases h
def kD:List Expr->Option (List Int)
 | []=>some []
 | .Constant (.int i) _ _::r=>(kD r).map (i::·)
 | _=>none
theorem xV:∀ {es:List Expr} {ns:List Int},kD es=some ns->PA X es (tL E λ_=>M.ok (ns.map PV.int))
 | [],_,h=>by cases h;exact A3
 | e::r,ns,h=>by
  obtain⟨i,j,p,rfl,h⟩:∃ i j p,e=.Constant (.int i) j p/\(kD r).map (i::·)=some ns:=by
   cases e <;> first
    | (cases h;done)
    | (rename_i c j p;cases c <;> first | (cases h;done) | exact⟨_,_,_,rfl,h⟩)
  obtain⟨ms,h1,rfl⟩:=Sn.mp h;exact yN Bb (xV h1) (FV rfl)
theorem pe(ns:List Int)(h:autoParam (kD es=some ns) aR._auto_1)(hz:autoParam (ns.length<=1000) aD._auto_1):PE X (.List es pos) (tE E λ_=>M.ok (.lst (ns.map PV.int))):=by
 refine(Cv (E:=E) (xV h)).imp fun σ H Q q=>?_;have e:(ef λ_=>M.ok (ns.map PV.int))=λ_=>M.ok (.lst (ns.map PV.int)):=by
  funext env
  show cA _ _=_;unfold cA;rw[if_pos (by rw[R_];exact SE hz (by decide))]
 rw[e];exact q
def Jq:PV->PV->M (List PV)
 | .lst xs,.int k=>cA (-(2^63)<=k/\k<2^63/\xs.length*k.toNat<=sizeLine) (M.ok (R7 k.toNat xs).flatten)
 | _,_=>none
def Jy(f g:af->M PV):af->M (List PV):=λenv=>(f env).bind λp=>(g env).bind λq=>Jq p q
section
variable{a b:Expr}{f g:af->M PV}
theorem HY(ha:PE X a (tE E f))(hb:PE X b (tE E g)):PE X (.BinOp a .Mult b pos) (tO E (Jy f g)):=by
 refine(F1 BV ha hb).imp fun σ H Q q=>bD (K:=KO Q) KO.gr q λB H₀ Hs H1 env p v sr rp hp=>?_;refine⟨B,H₀,Hs,env,sr,(au.bind hp).imp (λq hq u Of H' g' ru=>?_) λe he=>he⟩;have PZ:=sr.grow g';have rp':=rp.mono g'.st;cases rp' with
 | @lst l xs vs ha hx=>cases ru with
  | int k =>
   obtain⟨⟨h1,h2,h3⟩,h⟩:=au.cA hq;exact⟨l,k,vs,rfl,rfl,PZ.gr.sub _ _ ha,h1,h2,by rw[<- hx.length];exact h3,λp n=>h _ p Of H' g' (hx.rep _) n⟩
  | _=>exact hq.elim
 | _=>exact hq.elim
end
structure zL (K:R5) (mg:Str->Option Value) (C:Addr) (x:Str):Prop where
 hc:VO K C eX "ValueError.__new__" = true
 c:dG K C
 ht:UW K (.ref C)=some (.type "type")
 kp:SN K (.ref C)=true
 m:mg x=some (.ref C)
structure oP (P:Program) (w:World) (K:R5) (mg:Str->Option Value) (base:Heap) (C:Addr) (x fl:Str):Prop where
 ex:∃ (f:Addr) (fd:FuncData) (ps:List Str),qr K C "ValueError.__new__" f=true/\UL K (.ref f)=true/\aL P w K mg base (bI P w) 1 f fd ps (xi K C fl)/\Binds K fd ps []
 c:dG K C
 ht:UW K (.ref C)=some (.type "type")
 kp:SN K (.ref C)=true
 m:mg x=some (.ref C)
section
variable{E:XK}{p:Pos}{fl:Str}{fs:af->M (List PV)}
theorem zL.raise(F:zL X.K X.mg C x)(O:dU X λ_=>E)(Oj:X.calm=true)(hg:Gl X x)(ha:PA X (e::es) (tL (λ_=>E) fs))
  (Po:autoParam ((x==("__debug__" : Str))=false) aD._auto_1) (he:autoParam (starEach (e::es) X.env=(false,eval e X.env)::starEach es X.env) aR._auto_1) (Oy:autoParam ((backTo Om (starEach es X.env)).any (·.1)=false) aR._auto_1) :
  PS X (.Raise (some (.Call (.Name x p) (e::es) [] Om)) none pos) (tS E (iQ C fs)):=zD O Oj F.hc F.c F.ht F.kp hg F.m ha Po he Oy
theorem oP.raise(F:oP X.prog X.w X.K X.mg X.base C x fl)(hr:ck k X.A)(hn:2<=k)(O:dU X λ_=>E)(Oj:X.calm=true)(hg:Gl X x)(ha:PA X [e] (tL (λ_=>E) fs))
  (Po:autoParam ((x==("__debug__" : Str))=false) aD._auto_1) (he:autoParam (starEach [e] X.env=(false,eval e X.env)::starEach [] X.env) aR._auto_1) (Oy:autoParam ((backTo Om (starEach [] X.env)).any (·.1)=false) aR._auto_1) :
  PS X (.Raise (some (.Call (.Name x p) [e] [] Om)) none pos) (tS E (gK C fl fs)):=by
 obtain⟨f,fd,ps,h1,h2,h3,h4⟩:=F.ex;exact zR O Oj h1 h2 F.c F.ht F.kp h3 (hr.mono hn) h4 hg F.m ha Po he Oy
end
def Ks(i j:Nat)(env:af):List PV->M Out
 | [p,q]=>M.ok (.nx ((env.set i (some (.sh p))).set j (some (.sh q))))
 | _=>none
def Ia(i j:Nat)(fs:af->M (List PV)):af->M Out:=λenv=>(fs env).bind (Ks i j env)
theorem Gj{E:XK}{a b:Expr}{fs:af->M (List PV)}{py pt:Pos}{kt:Nat}{Rp:Pos}(hc:X.calm=true)(hN:X.N.Nodup)(hi:X.N[i]?=some x)(hj:X.N[j]?=some y)(hij:i≠j)
  (hx:X.env.scope.names.lookup x=some .local) (hy:X.env.scope.names.lookup y=some .local) (ha:PA X [a,b] (tL (λ_=>E) fs))
  (hw:swappedStores [.Tuple [.Name x px,.Name y py] kt pt] (.Tuple [a,b] k2 Rp) X.env=pure (some [x,y]))
  (hs:autoParam (swapsWithSole [.Tuple [.Name x px,.Name y py] kt pt] (.Tuple [a,b] k2 Rp) pos.line X.env=pure false) aR._auto_1) :
  PS X (.Assign [.Tuple [.Name x px,.Name y py] kt pt] (.Tuple [a,b] k2 Rp) pos) (tS E (Ia i j fs)):=by
 refine(IF hc hN hi hj hij hx hy ha hw hs).imp λD σ H q=>p7 q λB H₀ Hs H1 env ps v sr rp hp=>?_
 match ps,rp,hp with
 | [],_,hp=>exact hp.elim
 | [_],_,hp=>exact hp.elim
 | _::_::_::_,_,hp=>exact hp.elim
 | [p,q],rp,hp =>
  obtain⟨v,u,rfl,r1,r2⟩:=rp.two;exact⟨v,u,rfl,hp _ Hs H1 ((sr.set r1).set r2)⟩
section
variable{cl:List (Str×Addr)}{wi:TI}{it:af->M (List PV)}{g:TG}{set:PV->af->M af}{f:af->M PV}{fs:List Str}
variable{E:XK}{py PU:Pos}
theorem mG(Oj:X.calm=true)
  (OO:closureFor scope X.env=pure cl) (hk:scope.kind=.function) (nc:fO scope.names=true) (lo:g9 scope.names=true) (fh:ik cl scope.names=true) (ag:eh X cl) (fr:iW X scope cl fs js)
  (hi:PI X tg iter wi) (hv:Aq (λ_=>E) wi it) (hg:∀ C s₀ H₀ ex Oa,PG (qI X scope cl (ts++fs) C s₀ H₀ ex Oa) tg g) (QG:∀ E,AL E g set) (so:p_ set) (he:∀ C s₀ H₀ ex Oa,PE (qI X scope cl (ts++fs) C s₀ H₀ ex Oa) elt (tE EF f))
  (hN:X.N.Nodup) (Rh:X.N[i]?=some y) (hy:Loc X.env.scope y)
  (hs:autoParam (∀ x,foldedSetIterable iter X.env x=pure x) aI._auto_1) (Q7:autoParam (swapsWith (.ListComp elt [⟨tg,iter,[],0⟩] scope pos) (some (.Name y py)) PU.line X.env=pure true) aR._auto_1)
  (hf:autoParam (X.fn y=true\/X.env.scope.names.lookup y=some .local) aF._auto_1) :
  PS X (.Assign [.Name y py] (.ListComp elt [⟨tg,iter,[],0⟩] scope pos) PU) (tS E (aY i (cq (bV it set none f ts.length js)))):=by
 refine(E6 hN Rh hy Oj OO hk nc lo fh ag fr hi hg he hs Q7 hf).imp λD σ H q=>?_;refine u9 hv QG so ?_;obtain⟨B,H₀,Hs,env,sr,q⟩:=q;refine⟨B,H₀,Hs,env,sr,(au.bind (au.bind q)).imp (λps hp vs p Of H' g r n=>?_) λe he=>he.grow sr.gr⟩;have gn:=bF.new (o:=.lst vs) g.sub n;exact hp _ _ _ ((sr.grow (g.trans gn)).set (.lst aA (r.mono gn.st)))
end
section
variable{a:Expr}{ta:TA}{p:Pos}
end
section
variable{fs:af->M (List PV)}{a:Expr}{p p2 pos2:Pos}
end
section
open AutoSeq1 (wpAny_loadPart')
theorem zJ(l:Addr)(items:Array Value)(n:Nat)(wL:Option Addr)(sl:Array (Option Value)) :
  Meets (Builtin.«enumerate.__new__» ⟨[.type "enumerate", .ref l],[]⟩) (λ_ R s=>s.heap.get? l=some { cls:=.type "tuple", dict:=wL,data:=.seq items n,slots:=sl } ∧
   R (.ok (.ret (.ref (s.heap.push { cls:=.type "tuple_iterator", data:=.fields #[.ref l,.int 0 0] }).objs.size)))
    { s with heap:=(s.heap.push { cls:=.type "tuple_iterator", data:=.fields #[.ref l,.int 0 0] }).push { cls:=.type "enumerate", data:=.fields #[.none,.bool false,.ref s.heap.objs.size,rawInt 0,.none,.none] } }) :=
 .of_wp λprog w A R s h=>by
  obtain⟨hp,g,d,tk,os⟩:=s;obtain⟨hl,h⟩:=h;have hsub:=sub_enumerate;have hL:Heap.IsTuple (YC ⟨hp,g,d,tk,os⟩) l items:=⟨_,hl,rfl,n,rfl⟩
  wp_walk using V4 hl
  refine wpAny_stack_any λst=>R9 ?_
  split
  .rename_i c _ _ _ _ _;cases (c==TU "enumerate")
   .wp_walk using V4 hl,UN hL
    exact⟨_,rfl,h⟩
   .wp_walk using V4 hl,UN hL
    exact⟨_,rfl,h⟩
  .wp_walk using V4 hl,UN hL
   exact⟨_,rfl,h⟩
section
variable{E:Value->Shared->Prop}
theorem wH(hL:s.heap.IsTuple l items)
  (h:∀ h',IsEnum h' (s.heap.objs.size+1) s.heap.objs.size 0 .none->h'.IsTupleIter s.heap.objs.size l 0->h'.objs.size=s.heap.objs.size+2 ->
   (∀ b o,s.heap.get? b=some o->h'.get? b=some o)->Q (.ref (s.heap.objs.size+1)) { s with heap:=h' }) :
  wpAny (model prog w) A (call (.type "enumerate") [.ref l]) Q E s:=by
 obtain⟨⟨c,wL,dt,sl⟩,hl,hc,n,hd⟩:=hL
 replace hc:c=.type "tuple" := hc
 replace hd:dt=.seq items n:=hd
 subst hc hd;refine callType_new F.called_enumerate (by decide) (F.typeCall_enumerate_1 _) (F.newCall_enumerate_1 _) (λobj=>F.args_object_init_2 obj _) F.entry_enumerate_new
  (zJ l items n wL sl) ⟨hl,?_⟩
 have hz:(s.heap.push { cls:=.type "tuple_iterator", data:=.fields #[.ref l,.int 0 0] }).objs.size=s.heap.objs.size+1:=Tc ..;show _/\_;rw[hz];have he:IsEnum ((s.heap.push { cls:=.type "tuple_iterator", data:=.fields #[.ref l,.int 0 0] }).push
   { cls:=.type "enumerate", data:=.fields #[.none,.bool false,.ref s.heap.objs.size,rawInt 0,.none,.none] }) (s.heap.objs.size+1) s.heap.objs.size 0 .none:=by
  have:=Sg (s.heap.push { cls:=.type "tuple_iterator", data:=.fields #[.ref l,.int 0 0] })
   (o:={ cls:=.type "enumerate", data:=.fields #[.none,.bool false,.ref s.heap.objs.size,rawInt 0,.none,.none] }) rfl
  rw[hz] at this;exact this
 refine⟨⟨_,he,rfl⟩,h _ he ⟨_,R6 _ (Sg _ rfl),rfl,rfl⟩ (by rw[Tc,hz]) λb o x=>R6 _ (R6 _ x)⟩
end
theorem HZ(hh:A.handled=none)(it t:Addr)(items:Array Value) :
  Draws prog w A it [it,t] items.size (λi v=>items[i]?=some v) (λi h=>h.IsTupleIter it t i/\h.IsTuple t items) where
 live:=λ_ _ st=>let ⟨⟨o,ho,_⟩,_⟩:=st;⟨o,ho⟩
 frame:=λ_ _ _ st hk=>by
  obtain⟨⟨o,ho,r⟩,⟨o2,QE,r2⟩⟩:=st;exact⟨⟨o,hk it (by simp) o ho,r⟩,⟨o2,hk t (by simp) o2 QE,r2⟩⟩
 item:=λi s Q E hi st hQ=>by
  obtain⟨st,tt⟩:=st;refine iC st tt (x:=items[i]) (by simp[hi]) λh' Rf Q_=>?_;refine hQ _ h' s.toks (by simp[hi]) ⟨Rf,?_⟩ Q_;obtain⟨o,ho,c1,_⟩:=st;obtain⟨o2,QE,c2,r2⟩:=tt;refine⟨o2,(Q_.2 t λz=>?_).trans QE,c2,r2⟩;rw[z,ho] at QE;cases QE;rw[c1] at c2;exact absurd c2 (by decide)
 done:=λs Q E st hE=>eS hh st.1 st.2 (by simp) hE
def HL (K : R5) (a : Addr) : It :=
  ⟨λi H => ∃ xs x, gk K H a xs /\ xs[i]? = some x,
   λi H y H' => ∃ p x, H p = none /\ y = .ref p /\ H' = upd H p (.tup [.int i, x]) /\ ∀ xs, gk K H a xs -> xs[i]? = some x,
   λi H => ∃ xs, gk K H a xs /\ xs.length <= i⟩
theorem xr{K:R5}{tp:Pos}(a e it:Addr)(Qz:e≠it):Turn P w K (.Tuple elts x1 tp) (HL K a) [e,it] e (λi h=>(∃ old,IsEnum h e it i old)/\h.IsTupleIter it a i) where
 mem:=by simp
 obj:=λi h st b hb=>by
  obtain⟨⟨old,he⟩,⟨o,e1,c,d⟩⟩:=st;rcases Ss.mp hb with z | z
  .subst z;exact⟨_,he,λv z=>by cases z⟩
  .have z':b=it:=by simpa using z
   subst z';exact⟨o,e1,λv z=>by rw[d] at z;cases z⟩
 keep:=λi h h' st k=>by
  obtain⟨⟨old,he⟩,⟨o,ho,r⟩⟩:=st;exact⟨⟨old,k e (by simp) _ he⟩,⟨o,k it (by simp) o ho,r⟩⟩
 item:=by
  intro X hP hw hK hc i Oa s σ H E I hf st hg;subst hP hw hK;obtain⟨xs,x,hq,hx⟩:=hg;obtain⟨Og,rv,p,hz⟩:=I.tuple hq;obtain⟨u,hu,ru⟩:=rv.get hx;obtain⟨⟨old,he⟩,hit⟩:=st;have QP:e<s.heap.objs.size:=Sa he;have Rc:it<s.heap.objs.size:=by obtain⟨_,z,_⟩:=hit;exact Sa z
  have hea:e ∉ [it,a]:=λz=>by
   rcases Ss.mp z with z | z
   .exact Qz z
   .obtain⟨o,ho,c,_⟩:=p;rw[<- Tq.mp z,he] at ho;cases ho;exact absurd (show TU "enumerate" = TU "tuple" from c) (by decide)
  have Q2:i<Og.toArray.size:=by
   have:=(S5.mp hu).1;simpa using this
  refine wpAny_pyNext_enum_itemD (HZ (A:=X.A.in1) (I.ok.hd hc) it a Og.toArray) he ⟨hit,p⟩ Q2 Qz hea λu' h' tk hu' ho O6 hT Qc hk=>⟨_,rfl,?_⟩
  have eu:u'=u:=by
   rw[List.getElem?_toArray,hu] at hu';exact(Sm hu').symm
  subst eu;refine Wj (s:={ s with heap:=h',toks:=tk+1 }) ho λh2 he2 P8=>?_;have QW:∀ b o,b ∉ [e,it]->s.heap.get? b=some o->h2.get? b=some o:=λb o hb q=>by
   have n1:b≠e:=λz=>hb (by simp[z]);have n2:b≠it:=λz=>hb (by simp[z]);exact(P8.2 b n1).trans (hk b o n1 n2 q)
  have Q3:h2.get? s.heap.objs.size=some { cls:=.type "tuple", data:=.seq #[.int i tk,u'] }:=(P8.2 _ (UK QP)).trans hT;have I2:Inv X Oa σ (upd H s.heap.objs.size (.tup [.int i,x])) { s with heap:=h2,toks:=tk+1 } :=
   I.nF (ch:=[e,it]) QW hf (Se _) (λb hb=>by
    rcases Ss.mp hb with z | z
    .subst z;exact⟨_,he⟩
    .have z':b=it:=by simpa using z
     subst z';obtain⟨o,z,_⟩:=hit;exact⟨o,z⟩)
    ⟨by show 2<=sizeLine;decide,[.int i tk,u'],.cons ⟨_,rfl⟩ (.cons ru .nil),⟨_,Q3,rfl,_,rfl⟩⟩
  have P_:H s.heap.objs.size=none:=I.bJ.fresh (Se _);obtain⟨oi,hoi,ri⟩:=O6.1;refine⟨.ref s.heap.objs.size,_,I2,rfl,⟨_,x,P_,rfl,rfl,λys hy=>by rw[I.m_ hy hq];exact hx⟩,⟨⟨u',by simpa using he2⟩,⟨oi,(P8.2 it (T7 Qz)).trans hoi,ri⟩⟩,λb hb=>?_⟩;have nb:b≠s.heap.objs.size:=by
   rcases Ss.mp hb with z | z
   .rw[z];exact So QP
   .have z':b=it:=by simpa using z
    rw[z'];exact So Rc
  rw[av nb];exact(hf b hb).1
 done:=by
  intro X hP hw hK hc i Oa s σ H E I hf st hg;subst hP hw hK;obtain⟨xs,hq,hx⟩:=hg;obtain⟨Og,rv,p,hz⟩:=I.tuple hq;have hl:=rv.length;obtain⟨⟨old,he⟩,hit⟩:=st;obtain⟨f0,f1,f2,f3,f4,f5⟩:=hf it (by simp);have hT:s.TypeIs (.ref e) "enumerate" := ⟨_,he,rfl⟩
  unfold pyNext;refine R4 (VM (Ti (name:=Si "__next__") hT F.slot_enumerate_next
   (Uh F.slot_enumerate_next hT F.entry_enumerate_next ?_ (F.args_enumerate_next_1 _))))
  show wpAny _ _ (field (.ref e) 2 >>= _) _ _ _;refine R4 (SH he rfl (x:=.ref it) rfl ?_);refine R4 (eS (I.ok.hd hc) hit p (by simp;lia) λh' x he' hx'=>?_);obtain⟨o,ho,Q5⟩:=hx';refine R4 (wpAny_isInstance (T := "StopIteration") (b:=true) ⟨o,ho,Q5⟩ isSubtype_stop ?_);exact R9 ⟨rfl,I.turned (t':=s.toks) (λb o hb e=>he' b o hb e) f0 f1 f3 f4 f5⟩
 self:=λ_ _ _ _ _ st h=>by
  obtain⟨⟨old,he⟩,_⟩:=st;exact Vx he h
def J0(K:R5)(tl:TA):TI:=fun σ H R=>tl σ H λvs H1=>∃ a,vs=[.ref a]/\(((∃ xs,gS K H1 a xs)/\R (II K a) H1)\/((∃ xs,gk K H1 a xs)/\R (HL K a) H1))
theorem jX{tp:Pos}{l:Expr}{p:Pos}(hg:Gl X "enumerate")(hm:X.mg "enumerate" = none)(hl:PA X [l] tl)(hs:autoParam (starEach [l] X.env=[(false,eval l X.env)]) aR._auto_1) :
  PI X (.Tuple elts x1 tp) (.Call (.Name "enumerate" p) [l] [] pos) (J0 X.K tl):=by
 intro Oa s σ H R I h;refine Call_ (j9 I hg hm PyProof.Rows.boot_enumerate (Tf (cU (hl pos Oa s σ H _ I h) λus s1 ⟨vs,H1,I1,r1,q1⟩=>?_) hs rfl));obtain⟨a,e,q⟩:=q1;subst e;cases r1 with
 | cons r rr =>
  cases rr;cases (show _=Sd a from r);have fp:∀ b∈[s1.heap.objs.size+1,s1.heap.objs.size],ni X Oa H1 b:=λb hb=>by
   rcases Ss.mp hb with z | z
   .subst z;exact I1.vI (VS _) (I1.bJ.fresh (VS _))
   .have z':b=s1.heap.objs.size:=by simpa using z
    subst z';exact I1.vI (Se _) (I1.bJ.fresh (Se _))
  rcases q with ⟨⟨xs,hq⟩,q⟩ | ⟨⟨xs,hq⟩,q⟩
  .obtain⟨Og,rv,pl,hz⟩:=I1.list hq;refine call_enumerate_list pl.isList λh' he hit Qc hk=>?_;refine Vx (s:={ s1 with heap:=h' }) he ?_;exact⟨s1.heap.objs.size+1,[s1.heap.objs.size+1,s1.heap.objs.size],_,_,H1,rfl,I1.kept (t':=s1.toks) hk,zW a _ _ (Yv _),⟨⟨_,he⟩,hit⟩,fp,q⟩
  .obtain⟨Og,rv,pl,hz⟩:=I1.tuple hq;refine wH pl λh' he hit Qc hk=>?_;refine Vx (s:={ s1 with heap:=h' }) he ?_;exact⟨s1.heap.objs.size+1,[s1.heap.objs.size+1,s1.heap.objs.size],_,_,H1,rfl,I1.kept (t':=s1.toks) hk,xr a _ _ (Yv _),⟨⟨_,he⟩,hit⟩,fp,q⟩
def Lv(p:PV):M (List PV):=match cB p with
 | some xs=>M.ok (hR xs)
 | none=>none
def zA:List PV->M (List PV)
 | [p]=>Lv p
 | _=>none
section
variable{K:R5}{fs:af->M (List PV)}
theorem BC(hq:∀ Of H',bB Ov Of->bB Of H'->gk K H' a vs)(hr:aX Ov xs vs):lC (HL K a) Ov (hR xs) where
 stop:=λi Hs H s1 s2 hi=>by
  unfold hR at hi;rw[Ul,hr.length] at hi;exact⟨vs,hq Hs H s1 s2,hi⟩
 go:=λi Hs H s1 s2 hi=>by
  unfold hR at hi;rw[Ul] at hi;obtain⟨v,e,_⟩:=hr.get (R8 hi);exact⟨vs,v,hq Hs H s1 s2,e⟩
 wo:=λi Hs H x H2 s1 s2 hi y=>by
  unfold hR at hi;rw[Ul] at hi;obtain⟨v,e,r⟩:=hr.get (R8 hi);obtain⟨pa,v',hn,rfl,rfl,y1⟩:=y;have z1:=y1 vs (hq Hs H s1 s2);rw[e] at z1;cases z1;have gr:=bF.new (o:=.tup [.int (i:Nat),v]) s2 hn;refine⟨.tup [.int (i:Nat),xs[i]],_,?_,gr,.tup aA (.cons (.int _) (.cons ((r.mono s1).mono gr.st) .nil))⟩;unfold hR;rw[Xk,R8 hi];rfl
theorem iw:Aq E (J0 K (tL E fs)) (jQ zA fs):=by
 intro σ H R q;refine dH (K:=KI R) KI.g q λB H₀ Hs H1 env ps v sr rp hp=>?_
 match ps,rp,hp with
 | [],_,hp=>exact hp.elim
 | _::_::_,_,hp=>exact hp.elim
 | [p],rp,hp =>
  obtain⟨w,rfl,Qf⟩:=rp.one;cases Qf with
  | lst ha hx=>exact⟨_,rfl,.inl ⟨⟨_,gS.of (sr.gr.sub _ _ ha)⟩,hp _ Hs H1 (.refl sr.gr.sub) (r_ (λOf H' s1 s2=>gS.of (s2 _ _ (s1 _ _ ha))) hx)⟩⟩
  | gc ha hx=>exact⟨_,rfl,.inl ⟨⟨_,.inl (.inr ⟨_,sr.gr.sub _ _ ha⟩)⟩,hp _ Hs H1 (.refl sr.gr.sub) (r_ (λOf H' s1 s2=>.inl (.inr ⟨_,s2 _ _ (s1 _ _ ha)⟩)) hx)⟩⟩
  | tup ha hx=>exact⟨_,rfl,.inr ⟨⟨_,gk.of (sr.gr.sub _ _ ha)⟩,hp _ Hs H1 (.refl sr.gr.sub) (BC (λOf H' s1 s2=>gk.of (s2 _ _ (s1 _ _ ha))) hx)⟩⟩
  | _=>exact hp.elim
end
end
def LN(E:St->XK)(f:af->M Out):TS:=λD σ H=>∃ B H₀ Hs env,SR B H₀ Hs H σ env/\au (f env) (KS D B H₀) (XW (E σ) Hs H)
theorem yZ{f:af->M PV}{g:af->PV->M Out}{D:Ends}{R:VK}(h:LN E (λenv=>(f env).bind (g env)) D σ H)
  (k:∀ B H₀ Hs H1 env p v,SR B H₀ Hs H1 σ env->Rep Hs p v->au (g env p) (KS D B H₀) (λ_=>True)->R v H1):tE E f σ H R:=by
 obtain⟨B,H₀,Hs,env,sr,h⟩:=h;refine⟨B,H₀,Hs,env,sr,(au.bind h).imp (λp hp v Of H' g r=>?_) λe he=>he⟩;exact k B H₀ Of H' env p v (sr.grow g) r (hp.imp (λ_ z=>z) λ_ _=>trivial)
section
variable{f:af->M PV}
theorem x_(he:PE X e (tE E f))(hs:autoParam (swapsWith e none pos.line X.env=pure false) aR._auto_1):kO X [.Expr e pos] (LN E (dy f)):=by
 intro Oa s σ H D I q;exact vc (pd he hs) ya Oa s σ H D I (yZ q λB H₀ Hs H1 env p v sr rp hp=>hp σ Hs H1 sr)
end
theorem SR.unset{B:Hp}{env:af}(r:SR B H₀ Hs H σ env):SR B H₀ Hs H (σ.set i none) (env.set i none) :=
 r.chg r.gr (λ_ _ q=>q) (λ_ e=>nomatch e) (λ_ _ _ _ _ _ _ _ h1 h2 _=>⟨h1,h2⟩) λ_ e=>nomatch e
section
variable{f:af->M PV}
end
abbrev Cx.qj(X:Cx)(pn:List (Addr×Obj)):Cx:={ X with pn:=pn }
abbrev Cx.hand(X:Cx)(ea:Addr):Cx:={ X with A:=X.A.mark (some (.ref ea)),calm:=false,xe:=λ_ _=>False }
section
variable{Qn:List (Addr×Obj)}{ea:Addr}
theorem Cx.Ok.qj(ok:X.Ok)(pn:List (Addr×Obj)):(X.qj pn).Ok:=⟨ok.mod,ok.kind,ok.glob,ok.blt,ok.above,ok.inj,ok.has,ok.F7,ok.hd,ok.frames,ok.Gu,ok.Je,ok.bs,ok.Ao,ok.uk,ok.u0,ok.kK,ok.Dg⟩
theorem Cx.Ok.pN{pn:List (Addr×Obj)}(ok:(X.qj pn).Ok):X.Ok:=⟨ok.mod,ok.kind,ok.glob,ok.blt,ok.above,ok.inj,ok.has,ok.F7,ok.hd,ok.frames,ok.Gu,ok.Je,ok.bs,ok.Ao,ok.uk,ok.u0,ok.kK,ok.Dg⟩
theorem Cx.Ok.hand(ok:X.Ok)(ea:Addr):(X.hand ea).Ok:=⟨ok.mod,ok.kind,ok.glob,ok.blt,ok.above,ok.inj,ok.has,ok.F7,(λz=>nomatch z),ok.frames,ok.Gu,ok.Je,ok.bs,ok.Ao,ok.uk,ok.u0,ok.kK,ok.Dg⟩
theorem Inv.qj(I:Inv X Oa σ H s):Inv (X.qj (X.pn++Oa)) [] σ H s:=⟨I.ok.qj _,I.os,I.bare,I.base,I.loc,I.cell,I.free,I.eQ,(λp hp=>I.pin p (by rw[SK] at hp;exact hp)),I.bJ,I.len⟩
theorem Inv.pN(I:Inv (X.qj (X.pn++Oa)) Qn σ H s):Inv X Oa σ H s:=⟨I.ok.pN,I.os,I.bare,I.base,I.loc,I.cell,I.free,I.eQ,(λp hp=>I.pin p (VQ _ hp)),I.bJ,I.len⟩
theorem Inv.hand(I:Inv X Oa σ H s)(ea:Addr):Inv (X.hand ea) Oa σ H s:=⟨I.ok.hand ea,I.os,I.bare,I.base,I.loc,I.cell,I.free,I.eQ,I.pin,I.bJ,I.len⟩
theorem Inv.iR(I:Inv (X.hand ea) Oa σ H s)(ok:X.Ok):Inv X Oa σ H s:=⟨ok,I.os,I.bare,I.base,I.loc,I.cell,I.free,I.eQ,I.pin,I.bJ,I.len⟩
theorem Inv.AB(I:Inv X Oa σ (mY Hc ea T C dd fl) s)(h1:Hc ea=some (gU C dd ea))(h2:Hc T=none)(h3:T≠ea):Inv X Oa σ Hc s:=by
 have no:∀ b,mY Hc ea T C dd fl b=none->Hc b=none:=λb e=>by
  by_cases z:b=ea
  .rw[z,qk] at e;cases e
  .by_cases z2:b=T
   .rw[z2];exact h2
   .rw[jA z z2] at e;exact e
 have so:∀ b o,mY Hc ea T C dd fl b=some o->(∀ φ,o≠.ext φ)->Hc b=some o:=λb o e n=>by
  by_cases z:b=ea
  .rw[z,qk] at e;cases e;exact absurd rfl (n _)
  .by_cases z2:b=T
   .rw[z2,qv h3] at e;cases e;exact absurd rfl (n _)
   .rw[jA z z2] at e;exact e
 refine⟨I.ok,I.os,I.bare,⟨I.base.keep,I.base.slot,λb o e n hx=>no b (I.base.free b o e n hx),I.base.there,λb xs e=>so b _ (I.base.oz b xs e) (λ_ z=>nomatch z),λb o u e=>so b _ (I.base.j3 b o u e) (λ_ z=>nomatch z),λb ps e=>?_⟩,I.loc,I.cell,no _ I.free,λx c e=>no _ (I.eQ x c e),λp hp=>?_,λb o e=>?_,I.len⟩
 .obtain⟨more,q⟩:=I.base.oJ b ps e;exact⟨more,so b _ q λ_ z=>nomatch z⟩
 .obtain⟨e,n,r⟩:=I.pin p hp;exact⟨e,no _ n,r⟩
 .by_cases z:b=ea
  .subst z;rw[h1] at e;cases e;obtain⟨vs,_,_,hx,_⟩:=I.zZ h3;exact D7 hx
  .by_cases z2:b=T
   .rw[z2,h2] at e;cases e
   .refine(I.bJ b o (by rw[jA z z2];exact e)).lg (λ_ _ _ q=>q) (λc q=>so c _ q λ_ z=>nomatch z) λc xs q=>so c _ q λ_ z=>nomatch z
theorem Inv.gone{E:Value->Shared->Prop}{n:Str}{Q:Unit->Shared->Prop}(I:Inv X Oa σ H s)(hN:X.N.Nodup)(hi:X.N[i]?=some n)(hx:X.env.scope.names.lookup n=some .local)
  (h:∀ s',Inv X Oa (σ.set i none) H s'->Q () s'):wpAny (model X.prog X.w) A (do bindName X.env n .none;unbindBehindTheSuite X.env n pos) Q E s:=by
 obtain⟨m,hn,hl⟩:=id I.loc;have AF:=I.AF;refine wpAny_nameGoes_keeps hx hn (by rw[I.ok.kind];rfl) λh' v RO hs=>?_;obtain⟨oL,_,_,hoL,_⟩:=id hn;have tracked:nI X.prog X.w H h':=λb ob e=>by
  refine(I.bJ b ob e).lg (λc w' hc q=>(hs.2 c ?_).trans q) (λ_ q=>q) λ_ _ q=>q;rintro rfl;rcases hc with z | hc
  .rw[<- z,I.free] at e;cases e
  .rw[I.free] at hc;cases hc
 refine h _ ⟨I.ok,I.os,I.bare,⟨λb o e n hb hx=>?_,λb o e n hb hx=>?_,I.base.free,λb o e hx=>?_,I.base.oz,I.base.j3,I.base.oJ⟩,⟨_,RO,λj y v' e1 e2 e3=>?_⟩,λy c e=>?_,I.free,I.eQ,λp hp=>?_,tracked,by simpa using I.len⟩
 .exact(hs.2 b (So (Sh (Sa e) I.ok.above))).trans (I.base.keep b o e n hb hx)
 .obtain⟨sl,e1⟩:=I.base.slot b o e n hb hx;exact⟨sl,(hs.2 b (So (Sh (Sa e) I.ok.above))).trans e1⟩
 .obtain⟨o',e1⟩:=I.base.there b o e hx;exact⟨o',(hs.2 b (So (Sh (Sa e) I.ok.above))).trans e1⟩
 .have hj:i≠j:=λz=>by
   subst z;rw[Uc,if_pos rfl] at e2
   split at e2 <;> cases e2
  rw[VR hj] at e2;obtain⟨u',r',q⟩:=hl j y v' e1 e2 e3;refine⟨u',r',?_⟩;rcases q with ⟨k,e⟩ | ⟨k,c,e,z⟩
  .refine .inl ⟨k,?_⟩;have:y≠n:=λe=>hj (pU hN hi (e▸e1));simp[this,e]
  .exact .inr ⟨k,c,e,z.sameBut hs (AF y c e)⟩
 .obtain⟨w',z⟩:=I.cell y c e;exact⟨w',z.sameBut hs (AF y c e)⟩
 .obtain⟨e,n,ne,nf,d⟩:=I.pin p hp;exact⟨(hs.2 p.1 ne).trans e,n,ne,nf,d⟩
end
abbrev Hd:=(Addr->Option Bool)×Option Nat×(af->M Out)
def BB(i:Nat):Out->Out
 | .nx e=>.nx (e.set i none)
 | .bk e=>.bk (e.set i none)
 | .ct e=>.ct (e.set i none)
 | .rt p=>.rt p
def t_(o:Option Nat)(h:af->M Out)(x:EX)(env:af):M Out:=match o with
 | none=>Dx (h env)
 | some i=>(Dx (h (env.set i (some (.sh (.exc x.1 x.2)))))).bind λout=>M.ok (BB i out)
def vL(b:Option Bool)(x y:M Out):M Out:=match b with
 | some true=>x
 | some false=>y
 | none=>none
def g8:List Hd->EX->af->M Out
 | [],_,_=>none
 | (t,o,h)::r,x,env=>vL (t x.1) (t_ o h x env) (g8 r x env)
def qA(r:M Out)(k:EX->M Out):M Out:=match r with
 | some (.error x)=>k x
 | r=>r
def uH(f:af->M Out)(hs:List Hd):af->M Out:=λenv=>qA (f env) λx=>g8 hs x env
inductive Fx (X:Cx) (E:XK):List ExceptHandler->List Hd->Prop where
 | nil:Fx X E [] []
 | Fv {x:Str} {np pos:Pos} {b₀:Stmt} {P7:List Stmt} {rest:List ExceptHandler} {t:Addr->Option Bool} {h:af->M Out} {hs:List Hd} {D:Addr} (hg:Gl X x) (hm:X.mg x=some (.ref D)) (hd:(x==("__debug__" : Str))=false)
   (ht:∀ C b,t C=some b->UI X.K (.ref C) (.ref D)=some b) (hb:∀ ea,kO (X.hand ea) (b₀::P7) (tS E h)) (r:Fx X E rest hs):Fx X E (.ExceptHandler (some (.Name x np)) none (b₀::P7) pos::rest) ((t,none,h)::hs)
 | CW {x n:Str} {i:Nat} {np pos:Pos} {b₀:Stmt} {P7:List Stmt} {rest:List ExceptHandler} {t:Addr->Option Bool} {h:af->M Out} {hs:List Hd} {D:Addr} (hg:Gl X x) (hm:X.mg x=some (.ref D)) (hd:(x==("__debug__" : Str))=false)
   (hN:X.N.Nodup) (hi:X.N[i]?=some n) (hx:X.env.scope.names.lookup n=some .local)
   (ht:∀ C b,t C=some b->UI X.K (.ref C) (.ref D)=some b) (hb:∀ ea,kO (X.hand ea) (b₀::P7) (tS E h)) (r:Fx X E rest hs):Fx X E (.ExceptHandler (some (.Name x np)) (some n) (b₀::P7) pos::rest) ((t,some i,h)::hs)
variable{hd:List Hd}{hls:List ExceptHandler}
section
variable{B:Hp}{ea:Addr}{E:XK}{env:af}{fo:Option (List (Str×PV))}{D:Ends}{F:Value->Shared->Prop}
theorem SP.iR{D:Ends}{f:Flow}{s':Shared}(h:SP (X.hand ea) Oa D f s')(ok:X.Ok):SP X Oa D f s':=by
 cases f with
 | next=>obtain⟨σ',H',I,q⟩:=h;exact⟨σ',H',I.iR ok,q⟩
 | brk=>obtain⟨σ',H',I,q⟩:=h;exact⟨σ',H',I.iR ok,q⟩
 | cont=>obtain⟨σ',H',I,q⟩:=h;exact⟨σ',H',I.iR ok,q⟩
 | ret u=>obtain⟨v,σ',H',I,r,q⟩:=h;exact⟨v,σ',H',I.iR ok,r,q⟩
theorem au.err{r:M α}{Q:α->Prop}(h:au r Q (λ_=>False)):au r Q E':=h.imp (λ_ z=>z) λ_ z=>z.elim
def Ends.gone(D:Ends)(i:Nat):Ends:=⟨fun σ H=>D.nx (σ.set i none) H,D.rt,fun σ H=>D.bk (σ.set i none) H,fun σ H=>D.ct (σ.set i none) H⟩
theorem KS.gone{i:Nat}{o:Out}(h:KS D B H₀ (BB i o)):KS (D.gone i) B H₀ o:=by
 cases o with
 | nx e=>exact fun σ Hs H sr=>h _ Hs H sr.unset
 | bk e=>exact fun σ Hs H sr=>h _ Hs H sr.unset
 | ct e=>exact fun σ Hs H sr=>h _ Hs H sr.unset
 | rt p=>exact h
theorem AM{M:Model}{o:Obj}(hx:s.heap.get? ea=some o):Va M s.heap (typeOf (.ref ea)) o.cls:=by
 intro A Q E s' k q;exact BD (k _ _ hx) q
theorem Fx.run(hh:Fx X E hls hd):∀ {s:Shared},Inv X Oa σ (mY Hc ea T C dd .none) s->Hc ea=some (gU C dd ea)->Hc T=none->T≠ea->SR B H₀ Hs Hc σ env->Rep Hs (.exc C fo) (.ref ea) ->
  au (g8 hd (C,fo) env) (KS D B H₀) Z->wpAny (model X.prog X.w) X.A (handleBy (.ref ea) X.env hls) (SP X Oa D) F s:=by
 induction hh with
 | nil=>intro s I h1 h2 h3 sr rp q;exact q.elim
 | @Fv x np pos b₀ P7 rest t h hs Dc hg hm hd ht hb r ih =>
  intro s I h1 h2 h3 sr rp q;obtain⟨vs,oT,ts,hx,_⟩:=I.zZ h3;refine Xv (Xd (jt (I.hand ea) hg hm ?_ hd)) (λq=>nomatch q);have LT:=AM (M:=model X.prog X.w) hx;cases e:t C with
  | none=>simp only[g8,e,vL] at q;exact q.elim
  | some b =>
   refine(YK I.hU LT (ht C b e)).here ?_;cases b with
   | false =>
    simp only[g8,e,vL] at q;exact ih I h1 h2 h3 sr rp q
   | true =>
    simp only[g8,e,vL,t_] at q;refine codeAny_handlers_suite ((I.hand ea).pI (fr:=none) h3 λh' I2=>?_);refine Tj (hb ea Oa _ σ Hc D (I2.AB h1 h2 h3) ⟨B,H₀,Hs,env,sr,(au.Dx q).err⟩) (λf s' z=>z.iR I.ok) λ_ _ z=>z.elim
 | @CW x n i np pos b₀ P7 rest t h hs Dc hg hm hd hN hi hxn ht hb r ih =>
  intro s I h1 h2 h3 sr rp q;obtain⟨vs,oT,ts,hx,_⟩:=I.zZ h3;refine Xv (Xd (jt (I.hand ea) hg hm ?_ hd)) (λq=>nomatch q);have LT:=AM (M:=model X.prog X.w) hx;cases e:t C with
  | none=>simp only[g8,e,vL] at q;exact q.elim
  | some b =>
   refine(YK I.hU LT (ht C b e)).here ?_;cases b with
   | false =>
    simp only[g8,e,vL] at q;exact ih I h1 h2 h3 sr rp q
   | true =>
    simp only[g8,e,vL,t_] at q;refine codeAny_handlers_suite_as ((I.hand ea).pI (fr:=none) h3 λh' I2=>?_);refine jU (X:=X.hand ea) (v:=.ref ea) (i:=i) (I2.AB h1 h2 h3) hN hi (.inl hxn) rfl (λs3 I3=>?_) (.inr hxn);refine Tj (hb ea Oa _ _ Hc (D.gone i) I3 ⟨B,H₀,Hs,_,sr.set rp,(au.Dx (E:=Z) ?_).err⟩) (λf s' z=>?_) λ_ _ z=>z.elim
    .exact(au.bind q).imp (λo z=>KS.gone z) λ_ z=>z
    .cases f with
     | next=>obtain⟨σ',H',I4,d⟩:=z;exact(I4.iR I.ok).gone hN hi hxn λs5 I5=>⟨_,H',I5,d⟩
     | brk=>obtain⟨σ',H',I4,d⟩:=z;exact(I4.iR I.ok).gone hN hi hxn λs5 I5=>⟨_,H',I5,d⟩
     | cont=>obtain⟨σ',H',I4,d⟩:=z;exact(I4.iR I.ok).gone hN hi hxn λs5 I5=>⟨_,H',I5,d⟩
     | ret u=>obtain⟨v,σ',H',I4,rv,d⟩:=z;exact(I4.iR I.ok).gone hN hi hxn λs5 I5=>⟨v,_,H',I5,rv,d⟩
theorem CA{h₀:ExceptHandler}{f:af->M Out}(O6:X.stack=X.env::X.outer)(hf:X.env.frame=some X.env.locals)
  (hb:∀ (pn:List (Addr×Obj)) (E2:St->XK),dU ((X.qj pn).out E2) E2->kO ((X.qj pn).out E2) body (LN E2 f)) (hh:Fx X E (h₀::hls) hd):PS X (.Try body (h₀::hls) [] [] pos) (tS E (uH f hd)):=by
 intro Oa s σ H D I q;obtain⟨B,H₀,Hs,env,sr,q⟩:=q;refine wpAny_Try_except ?_
 let E2:St->XK:=fun σ v _ Hc=>∃ Hs C fo ea,v=.ref ea/\SR B H₀ Hs Hc σ env/\Rep Hs (.exc C fo) (.ref ea)/\au (g8 hd (C,fo) env) (KS D B H₀) (XW E B H₀)
 have q1:au (f env) (KS D B H₀) (XW (E2 σ) Hs H):=by
  unfold uH at q;cases e:f env with
  | none=>rw[e] at q;exact q
  | some r =>
   rw[e] at q;cases r with
   | ok o=>exact q
   | error x=>exact λea Of H' g rp=>⟨Of,x.1,x.2,ea,rfl,sr.grow g,rp,q⟩
 refine Tj (hb (X.pn++Oa) E2 (Br O6 hf) [] s σ H D (I.qj.qz _) ⟨B,H₀,Hs,env,sr,q1⟩) (λfl s1 hq=>?_) (λe s1 z=>?_)
 .cases fl with
  | next=>obtain⟨σ',H',I',d⟩:=hq;exact Vd ⟨σ',H',I'.eD.pN,d⟩
  | brk=>obtain⟨σ',H',I',d⟩:=hq;exact⟨σ',H',I'.eD.pN,d⟩
  | cont=>obtain⟨σ',H',I',d⟩:=hq;exact⟨σ',H',I'.eD.pN,d⟩
  | ret u=>obtain⟨v,σ',H',I',r,d⟩:=hq;exact⟨v,σ',H',I'.eD.pN,r,d⟩
 .refine Zx.note (X:=X.qj (X.pn++Oa)) z O6 hf λs' ea C dd Qn σ' Hc T he I2 h1 h2 h3 h4=>?_;subst he;refine I2.pI (fr:=none) h3 λh' I3=>?_;obtain⟨Of,C',fo,ea',ee,PZ,rp,hp⟩:=h4;cases ee;have I4:=I3.AB h1 h2 h3;have eC:C'=C:=by
   obtain⟨vs,hx⟩:=I4.pO h1;cases rp with
   | pY hr =>
    obtain⟨vs2,P2⟩:=I4.pO (PZ.gr.sub _ _ hr);rw[hx] at P2;injection P2 with P2;injection P2 with P2;injection P2 with P2;exact P2.symm
   | oK hr _ _ =>
    obtain⟨vs2,P2⟩:=I4.pO (PZ.gr.sub _ _ hr);rw[hx] at P2;injection P2 with P2;injection P2 with P2;injection P2 with P2;exact P2.symm
  subst eC;exact hh.run I3.pN h1 h2 h3 PZ rp hp
end
def km(ys ns:List Addr)(C:Addr):Option Bool:=if ys.contains C=true then some true else if ns.contains C=true then some false else none
variable{ns:List Addr}
theorem qf{ys:List Addr}(h:km ys ns C=some b):(b=true/\C∈ys)\/(b=false/\C∈ns):=by
 unfold km at h
 by_cases h1:ys.contains C=true
 .rw[if_pos h1] at h;cases h;exact .inl ⟨rfl,by simpa using h1⟩
 .rw[if_neg h1] at h
  by_cases h2:ns.contains C=true
  .rw[if_pos h2] at h;cases h;exact .inr ⟨rfl,by simpa using h2⟩
  .rw[if_neg h2] at h;cases h
def rM(f:Addr->Option Bool)(ys ns:List Addr):Bool:=ys.all (λC=>f C==some true)&&ns.all λC=>f C==some false
theorem wV{f:Addr->Option Bool}{ys:List Addr}(h:rM f ys ns=true)(e:km ys ns C=some b):f C=some b:=by
 unfold rM at h;rw[SX,SD,SD] at h;rcases qf e with ⟨rfl,m⟩ | ⟨rfl,m⟩
 .exact eq_of_beq (h.1 C m)
 .exact eq_of_beq (h.2 C m)
structure Jn (K:R5) (mg:Str->Option Value) (x:Str) (D:Addr) (ys ns:List Addr):Prop where
 mg:mg x=some (.ref D)
 ok:∀ C b,km ys ns C=some b->UI K (.ref C) (.ref D)=some b
theorem Jn.of{K:R5}{ys:List Addr}(h1:mg x=some (.ref D))(h2:rM (λC=>UI K (.ref C) (.ref D)) ys ns=true):Jn K mg x D ys ns:=⟨h1,λ_ _ e=>wV h2 e⟩
theorem qX:bootBuiltins "ValueError" = some (.type "ValueError"):=by decide +kernel
theorem fy{p:α->Prop}:∀ x∈([]:List α),p x:=λ_ h=>nomatch h
theorem gB{p:α->Prop}{a:α}{l:List α}(h:p a)(r:∀ x∈l,p x):∀ x∈a::l,p x:=λx m=>by
 rcases Ss.mp m with rfl | m
 .exact h
 .exact r x m
def uD:List String:=["NoneType", "bool", "int", "str", "tuple", "list", "dict"]
theorem El{a:String}(h:Fu p=some a):a∈uD:=by
 cases p <;> first | (cases h;decide) | cases h
structure Dv (K:R5) (mg:Str->Option Value) (x:Str) (D:Addr) (ys ns yo no:List Addr):Prop where
 mg:mg x=some (.ref D)
 ty:∀ p a,Fu p=some a->Sb K (.type a) (.ref D)=some false
 ob:∀ C b,km yo no C=some b->mO K C/\Sb K (.ref C) (.ref D)=some b
 oe:∀ C b,km ys ns C=some b->dG K C/\Sb K (.ref C) (.ref D)=some b
theorem Dv.of{K:R5}{ys yo no:List Addr}(h1:mg x=some (.ref D))(h2:(uD.all λa=>Sb K (.type a) (.ref D)==some false)=true)
  (h3:rM (λC=>Sb K (.ref C) (.ref D)) yo no=true) (h4:rM (λC=>Sb K (.ref C) (.ref D)) ys ns=true) (o1:∀ C∈yo,mO K C) (o2:∀ C∈no,mO K C) (e1:∀ C∈ys,dG K C) (e2:∀ C∈ns,dG K C):Dv K mg x D ys ns yo no where
 mg:=h1
 ty:=λp a h=>by
  rw[SD] at h2;exact eq_of_beq (h2 a (El h))
 ob:=λC b h=>⟨by rcases qf h with ⟨_,m⟩ | ⟨_,m⟩ <;> first | exact o1 C m | exact o2 C m,wV h3 h⟩
 oe:=λC b h=>⟨by rcases qf h with ⟨_,m⟩ | ⟨_,m⟩ <;> first | exact e1 C m | exact e2 C m,wV h4 h⟩
section
variable{p pt:Pos}{f:af->M PV}{ys yo no:List Addr}
theorem Dv.is(c:Dv X.K X.mg x D ys ns yo no)(hg:Gl X "isinstance")(hm:X.mg "isinstance" = none)(hx:Gl X x)(he:PE X e (tE E f))(hd:autoParam ((x==("__debug__" : Str))=false) aD._auto_1)
  (h1:autoParam (starEach [e,.Name x pt] X.env=(false,eval e X.env)::starEach [.Name x pt] X.env) aR._auto_1) (h2:autoParam (starEach [.Name x pt] X.env=(false,eval (.Name x pt) X.env)::starEach [] X.env) aR._auto_1) (Oy:autoParam ((backTo pos (starEach [.Name x pt] X.env)).any (·.1)=false) aR._auto_1) :
  PE X (.Call (.Name "isinstance" p) [e,.Name x pt] [] pos) (tE E (se (λ_=>false) (km yo no) (km ys ns) f)) :=
 IT hg hm (tU hx c.mg rfl hd) c.ty c.ob c.oe he h1 h2 Oy
def MM(ys:List Addr):PV->M PV
 | .exc C _=>cA (ys.contains C=true) (M.ok (.bl true))
 | _=>none
def KU(ys:List Addr)(f:af->M PV):af->M PV:=λenv=>(f env).bind (MM ys)
theorem EI(hg:Gl X "isinstance")(hm:X.mg "isinstance" = none)(hT:PE X (.Name x pt) (tC (.ty "ValueError")))(Qq:∀ C∈ys,dG X.K C/\Sb X.K (.ref C) (.type "ValueError")=some true)(he:PE X e (tE E f))
  (h1:autoParam (starEach [e,.Name x pt] X.env=(false,eval e X.env)::starEach [.Name x pt] X.env) aR._auto_1) (h2:autoParam (starEach [.Name x pt] X.env=(false,eval (.Name x pt) X.env)::starEach [] X.env) aR._auto_1) (Oy:autoParam ((backTo pos (starEach [.Name x pt] X.env)).any (·.1)=false) aR._auto_1) :
  PE X (.Call (.Name "isinstance" p) [e,.Name x pt] [] pos) (tE E (KU ys f)):=by
 refine(kb (dc.or wc qa) hg hm tR (dj he (dj hT jw h2) h1) (by decide) (by decide) h1 Oy).imp fun σ H Q q=>bD (K:=gW Q) gW.g q λB H₀ Hs H1 env p v sr rp hp=>?_;cases p with
 | exc C fo =>
  obtain⟨m,q⟩:=au.cA hp;obtain⟨a,Ra,rfl,hx⟩:=wG sr.gr.sub rp;have m':C∈ys:=by simpa using m
  exact .inr ⟨a,C,Ra,true,(Qq C m').1,hx,.inl ⟨"ValueError", rfl,(Qq C m').2⟩,dh.flat q sr.gr.sub (.bl _)⟩
 | _=>exact hp.elim
end
section
variable{o:Expr}{f g:af->M PV}
def KH(K:R5):V->List V->Hp->VK->Prop:=λx vs H Q=>∃ (l:Addr) (bs:List Bool) (b:Bool) (j:Nat),x=.ref l/\vs=[.bl b]/\gS K H l (bs.map V.bl)/\bs.findIdx? (·==b)=some j/\Q (.int j) H
theorem Vals.Kh{bs:List Bool}(r:Vals (bs.map V.bl) us):us=bs.map Te:=by
 induction bs generalizing us with
 | nil=>cases r;rfl
 | cons a t ih =>
  cases r with
  | cons h r =>
   cases (show _=Te a from h);rw[ih r];rfl
theorem Cc:Nh X "list.index" (KH X.K):=by
 intro Oa s σ H x vs v us Q I rx rv h;obtain⟨l,bs,b,j,rfl,rfl,hq,hj,q⟩:=h;cases rx;obtain⟨u,rfl,ru⟩:=rv.one;cases ru;obtain⟨Og,r,⟨ob,n,e,c,hdd,hd⟩,hz⟩:=I.list hq;obtain rfl:=r.Kh;obtain⟨oc,od,dt,sl⟩:=ob;simp only at c hd;subst c hd;obtain⟨hj1,hj2,hj3⟩:=List.findIdx?_eq_some_iff_getElem.mp hj;have hl:j<(bs.map Te).toArray.size:=by simpa using hj1
 have QV:bs.length<=sizeLine:=by simpa using hz
 have hs:(j:Int)<2^63-1:=by
  have:sizeLine<2^40:=by decide
  lia
 refine UX F.slot_list_index ⟨_,e,rfl⟩ F.entry_list_index (F.args_list_index_2 _ _) (SeqAt.list_indexAt l (bs.map Te).toArray n od sl (.bool b) (λy=>y==.bool b) j hl hs ?_ ?_) ⟨e,λy hy=>?_,?_⟩
 .have:=eq_of_beq hj2;simp[this]
 .intro m hm h2;have:=hj3 m h2;simpa using this
 .obtain⟨a,ha,rfl⟩:∃ a,a∈bs/\Te a=y:=by simpa using hy
  have:=SeqAt.EqAt.bool_bool (A:=X.A.in1) (s:=s) a b;have e2:(Te a==Te b)=(a==b):=by cases a <;> cases b <;> rfl
  rw[e2];exact this
 .exact⟨.int j,H,I.kept (t':=s.toks+1) λ_ _ z=>z,⟨_,rfl⟩,q⟩
def JM(p q:PV):M PV:=match p,q with
 | .lst xs,.bl b=>ed ((zg xs).bind λbs=>(bs.findIdx? (·==b)).map λ(j:Nat)=>.int (j:Int))
 | _,_=>none
def Ng(p:PV)(k:M PV):M PV:=match p with
 | .lst xs=>k.bind λq=>JM (.lst xs) q
 | _=>none
def FI(f g:af->M PV):af->M PV:=λenv=>(f env).bind λp=>Ng p (g env)
theorem CT(ho:PE X o (tE E f))(ha:PE X e (tE E g))(Pp:autoParam (attributeBase o "index" X.env (eval o X.env)=eval o X.env) aR._auto_1)
  (QR:autoParam (((backTo Om (starEach [e] X.env)).all (λx=>!x.1)&&(backToKw Om (keywordEach [] X.env)).all (λx=>x.1.isSome)&&decide ([e].length+([]:List Keyword).length+(if ([]:List Keyword).isEmpty then 0 else 1)<30))=true) aR._auto_1)
  (Pq:autoParam ((apos.endLine==Om.line)=true) aR._auto_1) (hs:autoParam (starEach [e] X.env=(false,eval e X.env)::starEach [] X.env) aR._auto_1) (P0:autoParam ((backTo Om (starEach [] X.env)).any (·.1)=false) aR._auto_1) :
  PE X (.Call (.Attribute o "index" apos) [e] [] Om) (tE E (FI f g)):=by
 refine(FO Vj PySem.F.slot_list_index PySem.F.type_list_index Cc ho (dj ha jw hs) Pp QR Pq hs P0).imp fun σ H Q q=>?_;refine tH q λB H₀ Hs H1 env p v sr rp hp=>?_;cases rp with
 | @lst a _ vs ha' hx =>
  refine⟨.inl ⟨rfl,_,gS.of (sr.gr.sub _ _ ha')⟩,B,H₀,Hs,env,sr,(au.bind hp).imp (λq2 hq u Of H' g' ru=>?_) λe he=>he⟩;cases ru with
  | bl b =>
   obtain⟨z,ez,P1⟩:=au.opt hq;obtain⟨bs,e1,e2⟩:=UH.mp ez;obtain⟨j,e3,rfl⟩:=Sn.mp e2;obtain rfl:=xA e1;obtain rfl:=hx.Kh;exact⟨a,bs,b,j,rfl,rfl,gS.of ((sr.grow g').gr.sub _ _ (g'.st _ _ ha')),e3,P1 _ _ _ g' (.int _)⟩
  | _=>exact hq.elim
 | _=>exact hp.elim
end
section
open PySem PySem.Spec PyProof.Rows _root_.HT
section
variable{E:Value->Shared->Prop}
theorem lZ{t sl:Addr}{vl vu:Value}{lo hi:Option Int}(ht:IsTup s.heap t items)(hs:s.heap.IsSliceOf sl vl vu .none)(pl:IsPart vl lo)(pu:IsPart vu hi)
  (hw:du items.size 0 lo=0/\du items.size items.size hi=items.size) (h:Q (.ref t) s):wpAny (model prog w) A (getItem (.ref t) (.ref sl)) Q E s:=by
 obtain⟨os,Rj,Rb,RJ⟩:=id hs;have hTs:s.TypeIs (.ref sl) "slice" := ⟨os,Rj,Rb⟩
 unfold getItem
 try with_reducible refine T9 ?_
 first | refine R4 (R9 ?_) | skip
 refine R4 (X_ ht.typeIs (by decide) ?_);refine R4 (Ti (name:=Si "__getitem__") ht.typeIs S0
  (Uh S0 ht.typeIs Xq ?_ (XH _ _)))
 show wpAny _ _ (Wg (.ref t) >>= _) _ _ s;refine R4 (tupleItemsOf_ ht ?_);refine R4 (Yb hTs ?_);rw[if_pos (by decide)];refine R4 (i4 hs pl pu ?_);have hyes:(((du items.size 0 lo:Nat):Int)==0&&(1:Int)==1&&(du items.size items.size hi-du items.size 0 lo)==items.size)=true:=by
  rw[hw.1,hw.2];simp
 show wpAny _ _ (if (((du items.size 0 lo:Nat):Int)==0&&(1:Int)==1&&(du items.size items.size hi-du items.size 0 lo)==items.size)=true then _ else _) _ _ s;rw[if_pos hyes];unfold Builtin.Tuple.tupleIsExact;refine R4 (R4 (Yb ht.typeIs (R9 ?_)));rw[if_pos (show ((TU "tuple" == TU "tuple")=true) from beq_self_eq_true _)];refine R4 (VE ?_)
 first
  | exact R4 (R9 (R9 ⟨_,rfl,R9 h⟩))
  | exact R4 (R9 ⟨_,rfl,R9 h⟩)
  | exact R9 ⟨_,rfl,R9 h⟩
end
section
variable{lo hi:Option Expr}{p2:Pos}{f:af->M PV}{gl gh:af->M (Option Int)}
def Mi(K:R5):V->Option Int->Option Int->Hp->VK->Prop:=λx lo hi H Q=>∃ a xs,x=.ref a/\gk K H a xs/\(du xs.length 0 lo=0/\du xs.length xs.length hi=xs.length)/\Q (.ref a) H
theorem Fg:Dt X (Mi X.K):=by
 intro Oa s σ H x v vl vu lo hi sl Q I rx hs pl pu h;obtain⟨a,xs,rfl,hx,hw,q⟩:=h;cases rx;obtain⟨Og,r,ht,hz⟩:=I.tuple hx;have hlen:Og.toArray.size=xs.length:=by rw[Sf];exact r.length.symm
 refine⟨"tuple", _,S0.lookup,ht.typeIs,?_⟩;exact lZ ht hs pl pu (by rw[hlen];exact hw) ⟨.ref a,H,I,rfl,q⟩
def Bs(p:PV)(lo hi:Option Int):M PV:=match p with
 | .tup xs=>M.ok (.tup (mE xs lo hi))
 | .lst xs=>M.ok (.lst (mE xs lo hi))
 | .gc xs=>M.ok (.lst (mE xs lo hi))
 | _=>none
def eV(f:af->M PV)(lo hi:af->M (Option Int)):af->M PV:=λenv=>(f env).bind λp=>(lo env).bind λl=>(hi env).bind λh=>Bs p l h
theorem eZ(he:PE X e (tE E f))(hl:PO X lo (K1 E gl))(hh:PO X hi (K1 E gh)):PE X (.Subscript e (.Slice lo hi none p2) pos) (tE E (eV f gl gh)):=by
 refine(CL (Dt.or HW (Dt.or Fg EC)) he hl hh).imp fun σ H Q q=>bD (K:=gW Q) gW.g q λB H₀ Hs H1 env p v sr rp hp=>?_;refine⟨B,H₀,Hs,env,sr,(au.bind hp).imp (λl hl Oo H2 g2=>?_) λe he=>he⟩;have OX:=sr.grow g2;refine⟨B,H₀,Oo,env,OX,(au.bind hl).imp (λh hh Qb H3 g3=>?_) λe he=>he.grow g2⟩;have Qt:=OX.grow g3;have hz:au (Bs p l h) (dh Qb H3 Q) (λ_=>True):=hh.imp (λz hz w Hs4 H4 g4 r=>hz w Hs4 H4 ((g2.trans g3).trans g4) r) λ_ _=>trivial;have rp3:=(rp.mono g2.st).mono g3.st;cases rp3 with
 | @tup a xs vs ha hx =>
  by_cases hn:du xs.length 0 l=0/\du xs.length xs.length h=xs.length
  .refine .inr (.inl ⟨_,_,rfl,gk.of (Qt.gr.sub _ _ ha),by rw[<- hx.length];exact hn,?_⟩);have e:mE xs l h=xs:=by
    unfold mE;rw[hn.1,hn.2,YT,Nat.sub_zero,List.take_length]
   have QV:dh Qb H3 Q (.tup xs):=by
    have z:dh Qb H3 Q (.tup (mE xs l h)):=hz;rw[e] at z;exact z
   exact dh.flat QV Qt.gr.sub (.tup ha hx)
  .exact .inl ⟨_,_,rfl,gk.of (Qt.gr.sub _ _ ha),by rw[<- hx.length];exact hn,dh.tup hz Qt.gr.sub (hx.cut l h)⟩
 | lst ha hx=>exact .inr (.inr ⟨_,_,rfl,gS.of (Qt.gr.sub _ _ ha),dh.lst hz Qt.gr.sub (hx.cut l h)⟩)
 | gc ha hx=>exact .inr (.inr ⟨_,_,rfl,.inl (.inr ⟨_,Qt.gr.sub _ _ ha⟩),dh.lst hz Qt.gr.sub (hx.cut l h)⟩)
 | _=>exact hz.elim
end
end
def ND(ys:List Addr)(f:Str):PV->M PV
 | .exc C (some fs)=>cA (ys.contains C=true) (ed (fs.lookup f))
 | _=>none
def Nm(ys:List Addr)(f:Str)(g:af->M PV):af->M PV:=λenv=>(g env).bind (ND ys f)
theorem Ky{g:af->M PV}{ys:List Addr}{f:Str}(he:PE X e (tE E g))(hy:∀ C∈ys,dG X.K C/\bf X.K C f)(hb:attributeBase e f X.env (eval e X.env)=eval e X.env):PE X (.Attribute e f pos) (tE E (Nm ys f g)):=by
 refine(D0 he hb).imp fun σ H Q q=>bD (K:=gW Q) gW.g q λB H₀ Hs H1 env p v sr rp hp=>?_;cases p with
 | exc C fo =>
  cases fo with
  | none=>exact hp.elim
  | some fs =>
   obtain⟨m,hp⟩:=au.cA hp;obtain⟨x,ex,hp⟩:=au.opt hp;have m':C∈ys:=by simpa using m
   cases rp with
   | @oK a _ d _ vs h1 h2 h3 =>
    obtain⟨u,h4,h5⟩:=h3.look ex;exact⟨a,C,vs,u,rfl,⟨d,sr.gr.sub _ _ h1,sr.gr.sub _ _ h2⟩,(hy C m').1,(hy C m').2,h4,dh.flat hp sr.gr.sub h5⟩
 | _=>exact hp.elim
def A0:PV->PV->M PV
 | .bl a,.bl b=>M.ok (.bl (a==b))
 | .bG,.bl _=>M.ok (.bl false)
 | _,_=>none
def mz:PV->PV->M PV
 | .bl a,.bl b=>M.ok (.bl (!(a==b)))
 | .bG,.bl _=>M.ok (.bl true)
 | _,_=>none
def EO(o:Bool->Bool):R2:=λx y H Q=>∃ b,y=.bl b/\((∃ a,x=.bl a/\Q (.bl (o (a==b))) H)\/(x=.bG/\Q (.bl (o false)) H))
theorem yR:gA X (compareOp .Is) (EO id):=by
 intro Oa s σ H x y v u Q I rx ry h;obtain⟨b,rfl,h⟩:=h;cases ry;rcases h with ⟨a,rfl,q⟩ | ⟨rfl,q⟩
 .cases rx;cases a <;> cases b <;> exact R4 (R9 (R9 (iH I q rfl)))
 .cases rx;cases b <;> exact R4 (R9 (R9 (iH I q rfl)))
theorem p4:gA X (compareOp .IsNot) (EO not):=by
 intro Oa s σ H x y v u Q I rx ry h;obtain⟨b,rfl,h⟩:=h;cases ry;rcases h with ⟨a,rfl,q⟩ | ⟨rfl,q⟩
 .cases rx;cases a <;> cases b <;> exact R4 (R9 (R9 (iH I q rfl)))
 .cases rx;cases b <;> exact R4 (R9 (R9 (iH I q rfl)))
theorem yK:ll E (EO id) A0:=by
 intro σ Hs H p q v u Q s rp rq h;cases rq with
 | bl b =>
  cases rp with
  | bl a=>exact⟨b,rfl,.inl ⟨a,rfl,dh.flat h s (.bl _)⟩⟩
  | bG=>exact⟨b,rfl,.inr ⟨rfl,dh.flat h s (.bl _)⟩⟩
  | _=>exact h.elim
 | _=>cases rp <;> exact h.elim
theorem qH:ll E (EO not) mz:=by
 intro σ Hs H p q v u Q s rp rq h;cases rq with
 | bl b =>
  cases rp with
  | bl a=>exact⟨b,rfl,.inl ⟨a,rfl,dh.flat h s (.bl _)⟩⟩
  | bG=>exact⟨b,rfl,.inr ⟨rfl,dh.flat h s (.bl _)⟩⟩
  | _=>exact h.elim
 | _=>cases rp <;> exact h.elim
section
variable{o:Expr}{g:af->M PV}{fs:af->M (List PV)}{L:List (Addr×(List PV->M PV))}{K:R5}
structure w8 (P:Program) (w:World) (K:R5) (mg:Str->Option Value) (base:Heap) (m:Str) (k:Nat) (L:List (Addr×(List PV->M PV))):Prop where
 ex:∀ C sem,L.lookup C=some sem->∃ n f fd ps j,n<=k/\iK K C/\Meth K C m f/\Binds K fd ps []/\aL P w K mg base (bI P w) n f fd ps (cP j sem)/\∀ ps,sem ps≠none->ps.length=j
theorem w8.nil:w8 P w K mg base m k []:=⟨λC sem h=>by cases h⟩
theorem w8.cons{sem:List PV->M PV}(F:fR P w K mg base C n m j sem)(hn:n<=k)(r:w8 P w K mg base m k L):w8 P w K mg base m k ((C,aZ j sem)::L):=⟨λC' Rq h=>by
 rw[SY] at h
 by_cases e:C'=C
 .rw[e,beq_self_eq_true] at h;cases h;obtain⟨f,fd,ps,h1,h2,h3,h4⟩:=F.ex;exact⟨n,f,fd,ps,j,hn,by rw[e];exact h1,by rw[e];exact h2,h3,h4,λPD hp=>j1 hp⟩
 .rw[beq_false_of_ne e] at h;exact r.ex C' Rq h⟩
def JI(L:List (Addr×(List PV->M PV)))(C:Addr)(ps:List PV):M PV:=match L.lookup C with
 | some sem=>sem ps
 | none=>none
def lp(L:List (Addr×(List PV->M PV)))(m:Str)(p:PV)(x:M (List PV)):M PV:=match p with
 | .obj B fl=>cA ((L.lookup B).isSome/\fl.lookup m=none) (x.bind λps=>JI L B (.obj B fl::ps))
 | _=>none
def eY(L:List (Addr×(List PV->M PV)))(m:Str)(g:af->M PV)(fs:af->M (List PV)):af->M PV:=λenv=>(g env).bind λp=>lp L m p (fs env)
def IM(L:List (Addr×(List PV->M PV)))(m:Str)(E:St->XK)(ta:TE)(t:TA):TE:=fun σ H Q=>ta σ H λx H1 =>
 ∃ C sem a dx fs,L.lookup C=some sem/\x=V.ref a/\H1 a=some (HO.ins C dx fs)/\UJ m fs=none/\t σ H1 λvs H2=>∀ j,(∀ ps,sem ps≠none->ps.length=j)->cP j sem (x::(vs++[])) H2 Q (E σ)
theorem r8{Q:VK}(q:tE E (eY L m g fs) σ H Q):IM L m E (tE E g) (tL E fs) σ H Q:=by
 refine bD (K:=gW Q) gW.g q λB H₀ Hs H1 env p v sr rp hp=>?_;cases rp with
 | @obj a C' dx fl fvs ho hx =>
  obtain⟨⟨e1,hn⟩,Du⟩:=au.cA hp;obtain⟨sem,es⟩:=T_.mp e1;refine⟨C',sem,a,dx,fvs,es,rfl,sr.gr.sub _ _ ho,hx.none hn,B,H₀,Hs,env,sr,(au.bind Du).imp (λPD Qi vs Of H' g' r j hl=>?_) λe he=>he⟩;unfold JI at Qi;rw[es] at Qi;have r2:aX Of (.obj C' fl::PD) (V.ref a::(vs++[])):=by rw[SK];exact .cons ((Rep.obj ho hx).mono g'.st) r
  have hn:sem (.obj C' fl::PD)≠none:=λz=>by rw[show (some sem:Option (List PV->M PV))=some sem from rfl] at Qi;simp only[z] at Qi;exact Qi
  exact⟨by rw[<- r2.length];exact hl _ hn,Of,_,g'.sub,r2,Qi.imp (λz hz w Oo H2 g2 r2=>hz w Oo H2 (g'.trans g2) r2) λe he=>he.grow g'⟩
 | _=>exact hp.elim
theorem w8.call(hr:ck k X.A)(F:w8 X.prog X.w X.K X.mg X.base m k L)(O:dU X E)(he:PE X o (tE E g))(ha:PA X (e::es) (tL E fs))
  (O6:autoParam (starEach (e::es) X.env=(false,eval e X.env)::starEach es X.env) aR._auto_1) (Oy:autoParam ((backTo pos (starEach es X.env)).any (·.1)=false) aR._auto_1)
  (ht:autoParam (eval (.Call (.Attribute o m apos) (e::es) [] pos) X.env=(do
   let ov <- eval o X.env
   standAt apos.atName
   let (f,first) <- holding [ov] (getMethod ov m pl)
   callWith pos f first (backTo pos (starEach (e::es) X.env)) (backToKw pos (keywordEach [] X.env)))) aR._auto_1) :
  PE X (.Call (.Attribute o m apos) (e::es) [] pos) (tE E (eY L m g fs)):=by
 intro Oa s σ H Q I h;refine Uo (pl:=pl) (cU (he Oa s σ H _ I (r8 h)) λu s1 ⟨x,H1,I1,rx,q⟩=>?_) ht;obtain⟨C,sem,a,dx,fs,ex,rfl,ea,l,q⟩:=q;obtain⟨n,f,fd,ps,j,hn,c,hm,hb,F',hl⟩:=F.ex C sem ex;obtain rfl:u=Sd a:=rx;refine jz I1 ea c hm l ?_;refine T6 (first:=[.ref a]) (h₀:=X.base) I.ok.mod.Dw hm.kp (cU (ha pos Oa s1 σ H1 _ I1 q) λus s2 ⟨vs,H2,I2,r,q2⟩=>⟨I2.hU,?_⟩) O6 Oy;exact kB (us:=.ref a::us) (vs:=.ref a::vs) F' (hr.mono hn) hb .nil O I2 (.cons rfl r) (q2 j hl)
theorem w8.AQ(hr:ck k X.A)(F:w8 X.prog X.w X.K X.mg X.base m k L)(O:dU X E)(he:PE X o (tE E g))
  (ht:autoParam (eval (.Call (.Attribute o m apos) [] [] pos) X.env=(do
   let ov <- eval o X.env
   standAt apos.atName
   let (f,first) <- holding [ov] (getMethod ov m pl)
   callWith pos f first (backTo pos (starEach [] X.env)) (backToKw pos (keywordEach [] X.env)))) aR._auto_1) :
  PE X (.Call (.Attribute o m apos) [] [] pos) (tE E (eY L m g aj)):=by
 intro Oa s σ H Q I h;refine Uo (pl:=pl) (cU (he Oa s σ H _ I (r8 h)) λu s1 ⟨x,H1,I1,rx,q⟩=>?_) ht;obtain⟨C,sem,a,dx,fs,ex,rfl,ea,l,B,H₀,Hs,env,sr,q⟩:=q;obtain⟨n,f,fd,ps,j,hn,c,hm,hb,F',hl⟩:=F.ex C sem ex;obtain rfl:u=Sd a:=rx;refine jz I1 ea c hm l ?_;exact V_ (first:=[.ref a]) I1.hU hm.kp (kB (us:=[.ref a]) (vs:=[.ref a]) F' (hr.mono hn) hb .nil O I1 (.cons rfl .nil) (q [] Hs H1 (.refl sr.gr.sub) .nil j hl))
end
section
open PySem.SeqAt (shaped EqAt RcAt RcNeAt)
section
variable{b:Addr}
theorem ud(I:Inv X Oa σ H s)(e:H a=some (.dK [])):(a==sysModules)=false/\∀ (P:Program) (w:World),s.heap.DictOf (t6 P w) a ([]:List (Key×Value)):=by
 obtain⟨_,h1,vs,kv,o,es,ep,ho,ex,hd,_,pr,_⟩:=(show bZ X.prog X.w H s.heap a (.dK []) from I.bJ a _ e)
 cases kv;have e0:es=#[]:=by
  have:es.toList=[]:=by cases h:es.toList with
   | nil=>rfl
   | cons x y=>rw[h] at pr;cases pr
  exact Array.toList_inj.mp this
 subst e0;exact⟨h1,λP w=>⟨o,#[],ep,ho,ex,hd,λe he=>absurd he (by simp),.nil,by simp⟩⟩
theorem Iz(I:Inv X Oa σ H s)(ea:H a=some (.dK []))(eb:H b=some (.dK []))(hu:A.units<cLine):RcAt A s (.ref a) (.ref b) true:=λprog w E Q h =>
 PySem.W.keq_eq (ud I ea).1 (ud I eb).1 ((ud I ea).2 prog w) ((ud I eb).2 prog w) hu (λ_=>.nil) h
theorem IC(I:Inv X Oa σ H s)(ea:H a=some (.dK []))(eb:H b=some (.dK []))(hu:A.units<cLine):EqAt A s (.ref a) (.ref b) true:=by
 by_cases e:a=b
 .subst e;exact .same _
 .exact .of_refs e (Iz I ea eb hu)
end
def Gv(o:Bool->PV)(d e:PyData):M PV:=cA (shaped d=true/\shaped e=true) (M.ok (o (Ze d e)))
def AY(o:Bool->PV)(p q:PV):M PV:=match dat p,dat q with
 | some d,some e=>Gv o d e
 | _,_=>none
def FC:PV->Bool
 | .emp=>true
 | _=>false
def Ep:PV->Option Str
 | .tup [.str x,p]=>if FC p then some x else none
 | _=>none
def EY(p q:PV):M PV:=match Ep p,Ep q with
 | some x,some y=>M.ok (.bl (!(x==y)))
 | _,_=>AY (λb=>.bl (!b)) p q
def JL(o:Bool->Bool):R2:=λx y H Q=>∃ Hs p q d e,bB Hs H/\Rep Hs p x/\Rep Hs q y/\dat p=some d/\dat q=some e/\shaped d=true/\shaped e=true/\Q (.bl (o (Ze d e))) H
def Kq:R2:=λx y H Q=>JL not x y H Q\/∃ t u z z' a b,x=.ref t/\y=.ref u/\H t=some (.tup [.str z,.ref a])/\H u=some (.tup [.str z',.ref b])/\H a=some (.dK [])/\H b=some (.dK [])/\Q (.bl (!(z==z'))) H
theorem Cz(hu:X.A.units+64<cLine):gA X (compareOp .NotEq) Kq:=by
 intro Oa s σ H x y v u Q I rx ry h;rcases h with h | ⟨t,t',z,z',a,b,rfl,rfl,et,et',ea,eb,hq⟩
 .obtain⟨Hs,p,q,d,e,sm,rp,rq,hd,he,h1,h2,hq⟩:=h;obtain⟨as,ra⟩:=Rep.reads I sm rp rx hd;obtain⟨bs,rb⟩:=Rep.reads I sm rq ry he;exact PySem.SeqAt.compareNe_shaped ra rb h1 h2 hu (iH I hq rfl)
 .cases (show v=Sd t from rx);cases (show u=Sd t' from ry);obtain⟨Og,r1,i1,_⟩:=I.tuple (gk.of et);obtain⟨its',r2,i2,_⟩:=I.tuple (gk.of et');have key:∀ {z:Str} {a:Addr} {Og:List Value},Vals [.str z,.ref a] Og->∃ tk,Og=[.str z tk,.ref a]:=λr=>by
   cases r with
   | cons p q=>cases q with
    | cons p' q' =>
     cases q';obtain⟨tk,rfl⟩:=p;cases p';exact⟨tk,rfl⟩
  obtain⟨k1,rfl⟩:=key r1;obtain⟨k2,rfl⟩:=key r2;have:=RcNeAt.tuples (A:=X.A) (e:=λj=>if j=0 then z==z' else true) i1 i2 (by lia) λj h1 h2=>by
   match j,h1 with
   | 0,_=>exact EqAt.str_str z k1 z' k2
   | 1,_=>exact IC I ea eb (by show X.A.units+1<cLine;lia)
  refine this _ _ _ _ (iH I hq ?_);simp[List.range_succ]
theorem Ey{o:Bool->Bool}{q:PV}{u:V}{Q:VK}(s:bB Hs H)(rp:Rep Hs p v)(rq:Rep Hs q u)(h:au (AY (λb=>.bl (o b)) p q) (dh Hs H Q) (XW (E σ) Hs H)):JL o v u H Q:=by
 unfold AY at h
 split at h
 .rename_i d e hd he;obtain⟨⟨h1,h2⟩,h⟩:=au.cA h;exact⟨Hs,p,q,d,e,s,rp,rq,hd,he,h1,h2,dh.flat h s (.bl _)⟩
 .exact h.elim
theorem zr(r:Rep Hs p v)(h:FC p=true):∃ a,v=.ref a/\Hs a=some (.dK []):=by
 cases r with
 | emp e=>exact⟨_,rfl,e⟩
 | _=>cases h
theorem u6(r:Rep Hs p v)(h:Ep p=some x):∃ t a,v=.ref t/\Hs t=some (.tup [.str x,.ref a])/\Hs a=some (.dK []):=by
 unfold Ep at h
 split at h
 .split at h
  .rename_i hp;cases h;cases r with
   | tup ht hx=>cases hx with
    | cons h1 h2=>cases h2 with
     | cons h3 h4 =>
      cases h4;cases h1;obtain⟨a,rfl,ea⟩:=zr h3 hp;exact⟨_,a,rfl,ht,ea⟩
  .cases h
 .cases h
theorem Cp:ll E Kq EY:=by
 intro σ Hs H p q v u Q s rp rq h;unfold EY at h
 split at h
 .rename_i x y hx hy;obtain⟨t,a,rfl,et,ea⟩:=u6 rp hx;obtain⟨t',b,rfl,et',eb⟩:=u6 rq hy;exact .inr ⟨t,t',x,y,a,b,rfl,rfl,s _ _ et,s _ _ et',s _ _ ea,s _ _ eb,dh.flat h s (.bl _)⟩
 .exact .inl (Ey s rp rq h)
end
end L2
namespace HT
open PySem PyProof.Rows
variable{E:Value->Shared->Prop}{A:Around}{w:World}{prog:Program}
section
variable{a b v:Value}{k:Bool}{I S ax:Addr}{t:Shared}{n:Nat}{R:Result->Shared->Prop}
end
section
open PySem.SeqAt
open PySem.AutoSeq1 (wpAny_loadPart')
open PySem.MeetsSeq PySem.MeetsSeq2 PySem.MeetsSeq3
end
section
variable{s:Shared}
end
end HT
namespace L2
open PySem PySem.Spec PyProof.Rows
variable{E:St->XK}{X:Cx}
variable{js:List Nat}{ts:List Str}{f:af->M PV}{it:af->M (List PV)}{wi:TI}{pos:Pos}{scope:Scope}
variable{y:Str}{i:Nat}
section
variable{tg elt iter c:Expr}{cl:List (Str×Addr)}{g:TG}{set:PV->af->M af}{fs:List Str}
variable{E:XK}{py PU:Pos}
end
theorem AN{tg elt iter c:Expr}{cl:List (Str×Addr)}{PU py:Pos}{g:TG}{t:TT}{te:TE}{fs:List Str}(hN:X.N.Nodup)(Rh:X.N[i]?=some y)(hy:Loc X.env.scope y)(Oj:X.calm=true)
  (OO:closureFor scope X.env=pure cl) (hk:scope.kind=.function) (nc:fO scope.names=true) (lo:g9 scope.names=true) (fh:ik cl scope.names=true) (ag:eh X cl) (fr:iW X scope cl fs js)
  (hi:PI X tg iter wi) (hg:∀ C s₀ H₀ ex Oa,PG (qI X scope cl (ts++fs) C s₀ H₀ ex Oa) tg g) (ht:∀ C s₀ H₀ ex Oa,PT (qI X scope cl (ts++fs) C s₀ H₀ ex Oa) c t) (he:∀ C s₀ H₀ ex Oa,PE (qI X scope cl (ts++fs) C s₀ H₀ ex Oa) elt te)
  (hs:autoParam (∀ x,foldedSetIterable iter X.env x=pure x) aI._auto_1) (Q7:autoParam (swapsWith (.ListComp elt [⟨tg,iter,[c],0⟩] scope pos) (some (.Name y py)) PU.line X.env=pure true) aR._auto_1)
  (hf:autoParam (X.fn y=true\/X.env.scope.names.lookup y=some .local) aF._auto_1) :
  PS X (.Assign [.Name y py] (.ListComp elt [⟨tg,iter,[c],0⟩] scope pos) PU) (Ex (AK wi g t te ts js) (aH i)):=by
 intro Oa s σ H D I h;rw[Xc _ _ _ _ Q7];refine R4 (UR (R4 ?_));show wpAny _ X.A (do let _ <- comprehension (.ListComp elt [⟨tg,iter,[c],0⟩] scope pos) scope X.env _ (newList []) false (eval iter X.env) (some (assign (.Name y py) X.env))) _ _ s;refine R4 (Tj (pK (ifs:=[c]) (tt:=some t) Oj OO hk nc lo fh ag fr hi hg ht he hs I (show yF wi g (some t) te ts js σ H (λx H1=>D.nx (σ.set i (some x)) H1) from h) (some (assign (.Name y py) X.env)) (λ_ s'=>SP X Oa D .next s') λDd H' s' C Io q hm f=>?_) (λ_ s' hq=>R9 (R9 hq)) λ_ _ e=>e);show wpAny _ X.A (assign (.Name y py) X.env (.ref Dd)) _ _ s';refine Ww (nq Io hN Rh hy (v:=.ref Dd) rfl (λR0 I'' ⟨a,sb,ha⟩=>?_) hf);obtain⟨m,hn⟩:=hm;obtain⟨f0,f1,f2,f3,f4,f5⟩:=f;have naC:a≠C:=by
  rcases ha with z | z
  .rw[z];exact λw=>f1 w.symm
  .exact f4 y a z
 refine⟨m,hn.sameBut sb (T7 naC),λh' Q_=>?_⟩;exact⟨_,H',I''.other ⟨f0,f1,f2,f3,f4,f5⟩ Q_,q⟩
section
variable{tg elt iter c:Expr}{cl:List (Str×Addr)}{g:TG}{set:PV->af->M af}{u:af->M Bool}{fs:List Str}
variable{E:XK}{py PU:Pos}
theorem Ck(Oj:X.calm=true)
  (OO:closureFor scope X.env=pure cl) (hk:scope.kind=.function) (nc:fO scope.names=true) (lo:g9 scope.names=true) (fh:ik cl scope.names=true) (ag:eh X cl) (fr:iW X scope cl fs js)
  (hi:PI X tg iter wi) (hv:Aq (λ_=>E) wi it) (hg:∀ C s₀ H₀ ex Oa,PG (qI X scope cl (ts++fs) C s₀ H₀ ex Oa) tg g) (QG:∀ E,AL E g set) (so:p_ set) (ht:∀ C s₀ H₀ ex Oa,PT (qI X scope cl (ts++fs) C s₀ H₀ ex Oa) c (tT EF u)) (he:∀ C s₀ H₀ ex Oa,PE (qI X scope cl (ts++fs) C s₀ H₀ ex Oa) elt (tE EF f))
  (hN:X.N.Nodup) (Rh:X.N[i]?=some y) (hy:Loc X.env.scope y)
  (hs:autoParam (∀ x,foldedSetIterable iter X.env x=pure x) aI._auto_1) (Q7:autoParam (swapsWith (.ListComp elt [⟨tg,iter,[c],0⟩] scope pos) (some (.Name y py)) PU.line X.env=pure true) aR._auto_1)
  (hf:autoParam (X.fn y=true\/X.env.scope.names.lookup y=some .local) aF._auto_1) :
  PS X (.Assign [.Name y py] (.ListComp elt [⟨tg,iter,[c],0⟩] scope pos) PU) (tS E (aY i (cq (bV it set (some u) f ts.length js)))):=by
 refine(AN hN Rh hy Oj OO hk nc lo fh ag fr hi hg ht he hs Q7 hf).imp λD σ H q=>?_;refine C2 hv QG so ?_;obtain⟨B,H₀,Hs,env,sr,q⟩:=q;refine⟨B,H₀,Hs,env,sr,(au.bind (au.bind q)).imp (λps hp vs p Of H' g r n=>?_) λe he=>he.grow sr.gr⟩;have gn:=bF.new (o:=.lst vs) g.sub n;exact hp _ _ _ ((sr.grow (g.trans gn)).set (.lst aA (r.mono gn.st)))
end
section
variable{o:Expr}{apos Om:Pos}
end
section
open PySem.SeqAt (shaped)
end
end L2
local macro_rules | `(tactic| walk_at "u1")=>`(tactic| unfold $(Lean.mkIdent (Lean.mkPrivateNameCore `PySem.Builtin.List.W1All `PySem.Builtin.gallop)):ident)
namespace Srt
open PySem PyProof.Rows
section
variable{prog:Program}{w:World}{A:Around}{E:Value->Shared->Prop}{s:Shared}{κ:KeyKind}{k:SortKind}
end
end Srt
namespace Srt
open PySem PyProof.Rows
variable{R:Keyed->Keyed->Prop}{tot A B A1 A2 out:List Keyed}
section
variable{prog:Program}{w:World}{A:Around}{E:Value->Shared->Prop}{s:Shared}{κ:KeyKind}{k:SortKind}
end
end Srt
local macro_rules | `(tactic| walk_at "u2")=>`(tactic| unfold $(Lean.mkIdent (Lean.mkPrivateNameCore `PySem.Builtin.List.W1All `PySem.Builtin.mergeLo)):ident)
namespace Srt
open PySem PyProof.Rows
section
variable{κ:KeyKind}{a b out:Array Keyed}{ia ib m:Nat}
end
section
variable{prog:Program}{w:World}{A:Around}{E:Value->Shared->Prop}{s:Shared}{κ:KeyKind}{k:SortKind}
end
end Srt
local macro_rules | `(tactic| walk_at "u3")=>`(tactic| unfold $(Lean.mkIdent (Lean.mkPrivateNameCore `PySem.Builtin.List.W1All `PySem.Builtin.mergeHi)):ident)
namespace Srt
open PySem PyProof.Rows
section
variable{κ:KeyKind}{a b out:Array Keyed}{na nb m:Nat}
end
section
variable{prog:Program}{w:World}{A:Around}{E:Value->Shared->Prop}{s:Shared}{κ:KeyKind}{k:SortKind}
end
end Srt
local macro_rules | `(tactic| walk_at "u4")=>`(tactic| unfold $(Lean.mkIdent (Lean.mkPrivateNameCore `PySem.Builtin.List.W1All `PySem.Builtin.countRun)):ident)
local macro_rules | `(tactic| walk_at "u5")=>`(tactic| unfold $(Lean.mkIdent (Lean.mkPrivateNameCore `PySem.Builtin.List.W1All `PySem.Builtin.binarySort)):ident)
namespace Srt
open PySem PyProof.Rows
section
variable{κ:KeyKind}{st QF Q0:SortSt}{lo hi:Nat}
end
section
variable{prog:Program}{w:World}{A:Around}{E:Value->Shared->Prop}{s:Shared}{κ:KeyKind}{k:SortKind}
end
end Srt
local macro_rules | `(tactic| walk_at "u6")=>`(tactic| unfold $(Lean.mkIdent (Lean.mkPrivateNameCore `PySem.Builtin.List.W1All `PySem.Builtin.mergeAt)):ident)
namespace Srt
open PySem PyProof.Rows
section
variable{prog:Program}{w:World}{A:Around}{E:Value->Shared->Prop}{s:Shared}{κ:KeyKind}{k:SortKind}
end
end Srt
local macro_rules | `(tactic| walk_at "u7")=>`(tactic| unfold $(Lean.mkIdent (Lean.mkPrivateNameCore `PySem.Builtin.List.W1All `PySem.Builtin.sortRuns)):ident)
namespace Srt
open PySem PyProof.Rows
section
variable{κ:KeyKind}{a a':Array Keyed}
end
section
variable{prog:Program}{w:World}{A:Around}{E:Value->Shared->Prop}{s:Shared}{κ:KeyKind}{k:SortKind}{a0:Array Keyed}
end
end Srt
local macro_rules | `(tactic| walk_at "u8")=>`(tactic| unfold $(Lean.mkIdent (Lean.mkPrivateNameCore `PySem.Builtin.List.W1All `PySem.Builtin.keyLt)):ident)
namespace Srt
open PySem PyProof.Rows
section
variable{prog:Program}{w:World}{A:Around}{E:Value->Shared->Prop}{s:Shared}
end
end Srt
namespace Srt
open PySem PyProof.Rows
section
variable{prog:Program}{w:World}{A:Around}{E:Value->Shared->Prop}{s:Shared}
end
end Srt
namespace L2
open PySem PySem.Spec PyProof.Rows
variable{x:Str}{i:Nat}{f:af->M PV}{pos:Pos}{e:Expr}{X:Cx}
section
variable{E:XK}
end
variable{es:Array DictEntry}{d:Addr}{s:Shared}{w:World}{prog:Program}
section
variable{A:Around}{E:Value->Shared->Prop}{it:Addr}{ep:Nat}
end
variable{vs:List V}{xs:List PV}{σ:St}{H:Hp}{a:Addr}
section
variable{iL iS ic:Nat}{b0 b1:Addr}{B H₀ Hs:Hp}{env:af}{ys:List PV}{ws:List V}
end
variable{it:af->M (List PV)}{wi:TI}
section
variable{E:XK}{st1 Q0:Stmt}{rest:List Stmt}{iL iS ic:Nat}{fi fv:af->M PV}{g:af->M Out}
end
abbrev ky(A:List Int):List Key:=A.map Wu
section
variable{κ:Type}[DecidableEq κ]
end
section
variable(sm:List Int->List Int->List Int)(z r:List Int)
end
section
variable{p:Addr}{H':Hp}{OV kvs':List (List Key×V)}{vs vs':List Int}
end
variable{E:St->XK}{sem:List PV->M PV}
section
variable{K:R5}{sm:List Int->List Int->List Int}{S:List Int}
end
variable{base:Heap}{mg:Str->Option Value}{P:Program}
section
variable{K:R5}
end
variable{px:Pos}
section
variable{a b:Expr}{g:af->M PV}
end
section
variable{E:XK}{ie:Expr}{pos':Pos}{g h:af->M PV}
end
section
variable{ie:Expr}{pos':Pos}{g h:af->M PV}
end
variable{tg:Expr}
section
variable{p:Pos}
end
section
variable{A:Around}{E:Value->Shared->Prop}{ep:Nat}
end
variable{j:Nat}
section
variable{E:XK}{p1 p2 R3:Pos}
end
section
variable{E:XK}{st:Stmt}{rest:List Stmt}{f:af->M Out}{g:af->M (List PV)}
end
section
variable{E:XK}{st:List Stmt}{g:af->M (List PV)}
end
variable{ps:List Str}{fd:FuncData}{k n:Nat}
section
variable{f:Addr}{sem:List PV->M (List PV)}{p:Pos}{es:List Expr}{fs:af->M (List PV)}
end
section
variable{E:XK}{apos Om:Pos}
def HR(i:Nat):af->M Out:=λenv=>(ownAt i env).bind λ_=>M.ok (.nx (env.set i (some (.ow []))))
theorem IS(hi:X.N[i]?=some x)(hv:BE X.env.scope x)(hd:autoParam ((x==("__debug__" : Str))=false) aD._auto_1)(Pn:autoParam ((x==("__classdict__" : Str))=false) aD._auto_1)
  (Pp:autoParam (attributeBase (.Name x px) "clear" X.env (eval (.Name x px) X.env)=eval (.Name x px) X.env) aR._auto_1) (Pq:autoParam ((apos.endLine==Om.line)=true) aR._auto_1)
  (hs:autoParam (swapsWith (.Call (.Attribute (.Name x px) "clear" apos) [] [] Om) none pos.line X.env=pure false) aR._auto_1) :
  PS X (.Expr (.Call (.Attribute (.Name x px) "clear" apos) [] [] Om) pos) (tS E (HR i)):=by
 refine(pd (Hy Vj PySem.F.slot_list_clear PySem.F.type_list_clear AD (lj hi hv hd Pn) Pp Pq) hs).imp λD σ H q=>?_;obtain⟨B,H₀,Hs,env,sr,q⟩:=q;obtain⟨xs,ex,hp⟩:=au.own (au.bind q);obtain⟨a,vs,h1,h2,h3,h4,h5⟩:=sr.ow i xs ex;exact⟨.ref a,h1,.inl ⟨rfl,vs,gS.of h2⟩,a,vs,rfl,rfl,h2,hp σ Hs _ (sr.put ex h1 .nil)⟩
end
def Cj:List PV->M PV
 | [.int i]=>cA (i.natAbs.log2<1920) (M.ok (.str (toString i)))
 | _=>none
theorem Es:kQ E (λxs H Q=>∃ i,xs=[.int i]/\i.natAbs.log2<1920/\Q (.str (toString i)) H) Cj:=by
 intro σ Hs H ps vs Q s r h
 match ps,r with
 | [],_=>exact h.elim
 | _::_::_,r=>cases r with | cons a r=>cases a <;> exact h.elim
 | [p],r =>
  obtain⟨v,rfl,rp⟩:=r.one;cases rp with
  | int i =>
   obtain⟨hz,h⟩:=au.cA h;exact⟨i,rfl,hz,dh.flat h s (.str _)⟩
  | _=>exact h.elim
variable{o:Expr}
section
variable{a:Expr}{g:af->M PV}{apos Om:Pos}{name:Str}{id:String}{r:V->List V->Hp->VK->Prop}{op:Str->PV->M PV}
end
structure Nt (K:R5) (C:Addr) (m t:Str):Prop where
 c:dG K C
 ex:∃ (f:Addr) (fd:FuncData) (n qual:Str) (st:Stmt) (kc:Nat) (pos p2:Pos) (dv:Value),Meth K C m f/\Binds K fd [n] []/\aV K m qual st dv f fd/\bj [n] [n] (aE st)/\dC st=[.Return (some (.Constant (.str t) kc p2)) pos]
def xh(K:R5)(m:Str)(L:List (Addr×Str)):Prop:=∀ C t,L.lookup C=some t->Nt K C m t
variable{m:Str}
theorem xh.nil{K:R5}:xh K m []:=λC t h=>by cases h
variable{L:List (Addr×Str)}{C:Addr}
theorem xh.cons{K:R5}{t:Str}(h:Nt K C m t)(r:xh K m L):xh K m ((C,t)::L):=λC' t' e=>by
 rw[SY] at e
 by_cases z:C'=C
 .rw[z,beq_self_eq_true] at e;cases e;rw[z];exact h
 .rw[beq_false_of_ne z] at e;exact r C' t' e
def J2(L:List (Addr×Str))(m:Str):PV->M PV
 | .exc C fo=>cA ((fo.getD []).lookup m=none) (ed ((L.lookup C).map PV.str))
 | _=>none
def F6(L:List (Addr×Str))(m:Str)(g:af->M PV):af->M PV:=λenv=>(g env).bind (J2 L m)
theorem DF{ea:Addr}{apos:Pos}{g:af->M PV}{pl:Sem Bool}(hr:ck k X.A)(hk:1<=k)(W:xh X.K m L)(he:PE (X.hand ea) o (tE E g))
  (ht:autoParam (eval (.Call (.Attribute o m apos) [] [] pos) X.env=(do
   let ov <- eval o X.env
   standAt apos.atName
   let (f,first) <- holding [ov] (getMethod ov m pl)
   callWith pos f first (backTo pos (starEach [] X.env)) (backToKw pos (keywordEach [] X.env)))) aR._auto_1) :
  PE (X.hand ea) (.Call (.Attribute o m apos) [] [] pos) (tE E (F6 L m g)):=by
 intro Oa s σ H Q I h;have h':tE E g σ H λx H1=>∃ e C fo t,x=.ref e/\ExcAt H1 e C fo/\(∀ fs,fo=some fs->fs.lookup m=none)/\L.lookup C=some t/\Q (.str t) H1:=by
  refine bD (K:=gW Q) gW.g h λB H₀ Hs H1 env p v sr rp hp=>?_;cases p with
  | exc C fo =>
   obtain⟨hn,hp⟩:=au.cA hp;obtain⟨x,ex,hp⟩:=au.opt hp;cases e:L.lookup C with
   | none=>rw[e] at ex;cases ex
   | some t =>
    rw[e] at ex;cases ex;have q:Q (.str t) H1:=dh.flat hp sr.gr.sub (.str t);cases rp with
    | @pY a _ h1=>exact⟨a,C,none,t,rfl,sr.gr.sub _ _ h1,λ_ z=>(by cases z),e,q⟩
    | @oK a _ d fs vs h1 h2 h3=>exact⟨a,C,some vs,t,rfl,⟨d,sr.gr.sub _ _ h1,sr.gr.sub _ _ h2⟩,λ_ z=>(by cases z;exact h3.none hn),e,q⟩
  | _=>exact hp.elim
 refine Uo (pl:=pl) (cU (he Oa s σ H _ I h') λu s1 ⟨x,H1,I1,rx,e,C,fo,t,ex,ha,hno,hl,q⟩=>?_) ht;subst ex;obtain rfl:u=Sd e:=rx;obtain⟨c,f,fd,n,qual,st,kc,ps1,ps2,dv,hm,hb,F,S,hbd⟩:=W C t hl;obtain⟨ox,od,J,RQ,hfo⟩:=I1.uz ha;have hs:Ys od m=some false:=by
  cases fo with
  | none=>rw[RQ rfl];rfl
  | some fs =>
   obtain⟨o',mA,rfl,hl,RR⟩:=hfo fs rfl;have:mA m=none:=lO.none_of (by rw[<- hno fs rfl];exact RR m);show (UU m o').map (·.isSome)=some false;rw[hl,this];rfl
 refine AG c I1.hU J hm.at_ hm.fn hs ?_;refine V_ (first:=[.ref e]) I1.hU hm.kp ?_;obtain⟨oc,od',kV,doc,pm,an,Ox,ct,QJ,rfl,lk,Pn⟩:=F.ex;have e0:v8 X.prog X.w X.K X.mg X.base X.A X.stack s1 H1:=let z:=I1.lS;⟨z.frames,z.mod,z.bs,z.Ao,z.kK,z.Dg,z.bJ,z.bare⟩
 have KX:=I1.hU;have lim:s1.heap.NoLimit:=e0.mod.nolimit.keeps λb o e=>(e0.bs b o e).1;have QT:∀ y∈[n].zip [Sd e],(aE st).names.lookup y.1=some .local\/((aE st).names.lookup y.1=some .cell/\((cellsFrom (s1.heap.objs.size+1) (aE st).names []).lookup y.1).isSome=true):=λ⟨n',v⟩ hy=>by
  rcases S.par n' (UP hy).1 with q | q
  .exact .inl q
  .exact .inr ⟨q,Vt _ _ _ (.inl q)⟩
 have Rk:ck 1 X.A:=hr.mono hk;refine VI (Vw (R:=CR MC X.stack X.prog X.w H1 s1 Q E0) (Xa Rk.depth (KX _ _ lk) rfl S.co S.gen rfl (XG KX Pn) (hb s1 [.ref e] KX rfl _ _ _ _ ?_)) λr s' hq=>?_)
 .refine We S.kind QT λenv he s2 x=>?_;subst he;refine⟨lim.keeps x.toInCall.keep,codeAny_func ?_⟩;have I2:=r0 (CX:=MC) (E:=E0) (us:=[.ref e]) (vs:=[.ref e]) S hr.hd e0 rfl (.cons rfl .nil) x;have I3:=I2.hand ea;have PB:=(show kO ((lB MC X.prog X.w X.K X.mg X.base [n] qual (aE st) f Ox X.A X.stack s1 H1 E0).hand ea) (dC st) _ by rw[hbd];exact xT (AO AZ))
  refine Tj (PB [] s2 (start [n] [.ref e]) H1 { nx:=λ_ H'=>Q .bG H',rt:=Q } I3 q) (λfl s' hs=>?_) λe s' hs=>hs.elim;cases fl with
  | ret u =>
   obtain⟨v,σ',H',J,rv,q⟩:=hs;exact⟨v,H',J.os,J.bare,J.base,J.bJ,rv,q⟩
  | next =>
   obtain⟨σ',H',J,q⟩:=hs;exact⟨.bG,H',J.os,J.bare,J.base,J.bJ,rfl,q⟩
  | brk=>obtain⟨_,_,_,q⟩:=hs;exact S8 q
  | cont=>obtain⟨_,_,_,q⟩:=hs;exact S8 q
 .cases r with
  | error e=>exact hq.elim
  | ok fl =>
   cases fl with
   | ret u=>exact I1.after hq
   | next=>exact S8 hq
   | brk=>exact S8 hq
   | cont=>exact S8 hq
section
variable{B H₀ Hs Of H':Hp}{env:af}{as:List Addr}
end
variable{js:List Nat}{ts:List Str}
section
variable{g:TG}{set:PV->af->M af}{fo:af->M (List PV)}{fs:List Str}
end
section
variable{ih:Nat}{D:Addr}{as:List Addr}{zs:List PV}{B H₀ Hs Of H':Hp}{env:af}
end
section
variable{E:XK}{st1:Stmt}{e2 e3 e4:Expr}{rest body:List Stmt}{ih ig:Nat}{g:TG}{set:PV->af->M af}{fo:af->M (List PV)}{g2:af->M PV}{u3:af->M Bool}{fb f:af->M Out}{Q0 Ry st4:Stmt}
end
mutual
def n5:PV->Bool
 | .gc _=>false
 | .tup xs=>lL xs
 | .lst xs=>lL xs
 | .obj _ fs=>qp fs
 | .exc _ (some fs)=>qp fs
 | .wL _=>false
 | _=>true
def lL:List PV->Bool
 | []=>true
 | p::r=>n5 p&&lL r
def qp:List (Str×PV)->Bool
 | []=>true
 | p::r=>n5 p.2&&qp r
end
mutual
theorem Rep.jV{Hs:Hp}{a:Addr}{ob:Obj}{ws:List V}(ha:Hs a=some (.jM ob (.lst ws))):∀ {p:PV} {v:V},Rep Hs p v->n5 p=true->Rep (rem Hs a) p v
 | _,_,.bG,_=>.bG
 | _,_,.bl b,_=>.bl b
 | _,_,.int b,_=>.int b
 | _,_,.str b,_=>.str b
 | _,_,.fn b,_=>.fn b
 | _,_,.tup h r,n=>.tup (by rw[e7 (λz=>by rw[z,ha] at h;cases h)];exact h) (r.jV ha n)
 | _,_,.lst h r,n=>.lst (by rw[e7 (λz=>by rw[z,ha] at h;cases h)];exact h) (r.jV ha n)
 | _,_,.obj h r,n=>.obj (by rw[e7 (λz=>by rw[z,ha] at h;cases h)];exact h) (r.jV ha n)
 | _,_,.pY h,n=>.pY (by rw[e7 (λz=>by rw[z,ha] at h;cases h)];exact h)
 | _,_,.oK h h2 r,n=>.oK (by rw[e7 (λz=>by rw[z,ha] at h;cases h)];exact h) (by rw[e7 (λz=>by rw[z,ha] at h2;cases h2)];exact h2) (r.jV ha n)
 | _,_,.emp h,n=>.emp (by rw[e7 (λz=>by rw[z,ha] at h;cases h)];exact h)
 | _,_,.gc _ _,n=>by cases n
 | _,_,.wL _ _,n=>by cases n
theorem aX.jV{Hs:Hp}{a:Addr}{ob:Obj}{ws:List V}(ha:Hs a=some (.jM ob (.lst ws))):∀ {p:List PV} {v:List V},aX Hs p v->lL p=true->aX (rem Hs a) p v
 | _,_,.nil,_=>.nil
 | _,_,.cons h r,n=>by
  have n':=Tt.mp (show (n5 _&&lL _)=true from n);exact .cons (h.jV ha n'.1) (r.jV ha n'.2)
theorem e8.jV{Hs:Hp}{a:Addr}{ob:Obj}{ws:List V}(ha:Hs a=some (.jM ob (.lst ws))):∀ {p:List (Str×PV)} {v:List (Str×V)},e8 Hs p v->qp p=true->e8 (rem Hs a) p v
 | _,_,.nil,_=>.nil
 | _,_,.cons h r,n=>by
  have n':=Tt.mp (show (n5 _&&qp _)=true from n);exact .cons (h.jV ha n'.1) (r.jV ha n'.2)
end
section
variable{Oa:List (Addr×Obj)}
theorem Inv.re{u u':HO}(I:Inv X Oa σ H s)(e:H a=some u)(hu:bZ X.prog X.w (upd H a u') s.heap a u')(n1:∀ xs,u≠.tup xs)(n2:∀ o w,u=.jM o w->X.H₀ a≠some (.jM o w))(n3:∀ ps,u≠.Fl ps)(n4:∀ x,u≠.own x):Inv X Oa σ (upd H a u') s:=by
 have ne:∀ b,H b=none->b≠a:=λb h z=>by rw[z,e] at h;cases h
 refine⟨I.ok,I.os,I.bare,⟨I.base.keep,I.base.slot,λb o q n hx=>?_,I.base.there,λb xs q=>?_,λb o w q=>?_,λb ps q=>?_⟩,I.loc,I.cell,?_,λx c q=>?_,λp hp=>?_,λb w q=>?_,I.len⟩
 .have:=I.base.free b o q n hx;rw[av (ne b this)];exact this
 .have:=I.base.oz b xs q;rw[av (λz=>by rw[z,e] at this;exact n1 xs (Sm this))];exact this
 .have:=I.base.j3 b o w q;rw[av (λz=>by rw[z,e] at this;rw[z] at q;exact n2 o w (Sm this) q)];exact this
 .obtain⟨m,this⟩:=I.base.oJ b ps q;exact⟨m,by rw[av (λz=>by rw[z,e] at this;exact n3 _ (Sm this))];exact this⟩
 .rw[av (ne _ I.free)];exact I.free
 .rw[av (ne _ (I.eQ x c q))];exact I.eQ x c q
 .obtain⟨q1,q2,q3⟩:=I.pin p hp;exact⟨q1,by rw[av (ne _ q2)];exact q2,q3⟩
 .by_cases z:b=a
  .subst z;rw[aA] at q;cases q;exact hu
  .rw[av z] at q;exact(I.bJ b w q).lg (λ_ _ _ r=>r) (λc r=>by rw[av (λy=>by rw[y,e] at r;exact n4 _ (Sm r))];exact r) λc xs r=>by rw[av (λy=>by rw[y,e] at r;exact n1 _ (Sm r))];exact r
theorem Inv.NP(I:Inv X Oa σ H s)(e:H a=some (.lst vs)):∃ o,Inv X Oa σ (upd H a (.jM o (.lst vs))) s:=by
 have k:=(show bZ X.prog X.w H s.heap a (.lst vs) from I.bJ a _ e)
 obtain⟨us,r,n,h1,h2⟩:=id k;exact⟨_,I.re e ⟨h2,us,r,n,h1,h2⟩ (λ_ z=>nomatch z) (λ_ _ z=>nomatch z) (λ_ z=>nomatch z) λ_ z=>nomatch z⟩
theorem Inv.NH{o:Obj}(I:Inv X Oa σ H s)(e:H a=some (.jM o (.lst vs)))(nf:∀ o w,X.H₀ a≠some (.jM o w)):Inv X Oa σ (upd H a (.lst vs)) s:=by
 obtain⟨h1,us,r,n,h2,h3⟩:=(show bZ X.prog X.w H s.heap a (.jM o (.lst vs)) from I.bJ a _ e)
 exact I.re e ⟨us,r,n,h2,h3⟩ (λ_ z=>nomatch z) (λo w _=>nf o w) (λ_ z=>nomatch z) λ_ z=>nomatch z
end
def Cb:M PV->M PV
 | some (.ok p)=>cA (n5 p=true) (M.ok p)
 | _=>none
theorem au.Cb{r:M PV}{Q:PV->Prop}{E:EX->Prop}(h:au (L2.Cb r) Q E):au r (λp=>n5 p=true/\Q p) (λ_=>False):=by
 cases r with
 | none=>exact h
 | some r=>cases r with
  | error e=>exact h
  | ok p =>
   obtain⟨n,h⟩:=au.cA h;exact⟨n,h⟩
def Bl(i:Nat)(f:af->M PV):af->M PV:=λenv=>(ownAt i env).bind λxs=>Cb (f (env.set i (some (.sh (.gc xs)))))
theorem Aw(i:Nat)(he:PE X e (tE E f)):PE X e (tE E (Bl i f)):=by
 intro Oa s σ H Q I q;obtain⟨B,H₀,Hs,env,sr,q⟩:=q;obtain⟨xs,ex,q⟩:=au.own (au.bind q);obtain⟨a,vs,h1,h2,h3,h4,h5⟩:=sr.ow i xs ex;obtain⟨o,I2⟩:=I.NP h2;have nf:∀ o w,X.H₀ a≠some (.jM o w):=λo w z=>by
  have:=I.base.j3 a o w z;rw[h2] at this;cases this
 have OX:SR B H₀ (upd Hs a (.jM o (.lst vs))) (upd H a (.jM o (.lst vs))) σ (env.set i (some (.sh (.gc xs)))):=by
  obtain⟨g,st⟩:=(sr.gr.l8 (o:=.jM o (.lst vs)) h3 h4).into aA h3 h4;exact sr.Fe h1 g st (λ_ q=>by cases q;exact⟨_,rfl,.gc aA (h5.mono st)⟩) (λj y b u n ej o z q1 q2 _=>by
   have nb:b≠a:=λw=>by subst w;exact sr.ap i j _ y b n ex ej rfl o h1 z
   rw[av nb,av nb];exact⟨q1,q2⟩) λ_ q o=>by cases q;cases o
 refine Tj (he Oa s σ _ (λx H1=>H1 a=some (.jM o (.lst vs))/\Q x (upd H1 a (.lst vs))) I2 ⟨B,H₀,_,_,OX,(au.Cb q).imp (λp hp v Of H' g r=>⟨g.al _ _ aA,?_⟩) λ_ z=>z.elim⟩) (λu s1 ⟨x,H1,I1,rx,ha,q⟩=>⟨x,_,I1.NH ha nf,rx,q⟩) λ_ _ z=>z;have hs:Of a=some (.jM o (.lst vs)):=g.st _ _ aA;refine hp.2 v (rem Of a) _ ⟨λc u q=>?_,λc u q=>?_,λc u q=>?_,λc u q1 q2 q3=>?_⟩ (r.jV hs hp.1)
 .have nc:c≠a:=λz=>by rw[z,h3] at q;cases q
  rw[e7 nc];exact g.st c u (by rw[av nc];exact q)
 .by_cases z:c=a
  .subst z;rw[h2] at q;rw[aA];exact q
  .rw[av z];exact g.al c u (by rw[av z];exact q)
 .by_cases z:c=a
  .subst z;rw[qq] at q;cases q
  .rw[e7 z] at q;rw[av z];exact g.sub c u q
 .by_cases z:c=a
  .subst z;exact qq
  .rw[e7 z];exact g.nw c u (by rw[av z];exact q1) (by rw[av z];exact q2) q3
section
variable{es:List Expr}{p:Pos}{g:af->M PV}{fs:af->M (List PV)}{L:List (Addr×(List PV->M PV))}{K:R5}
theorem Ay{f:Addr}(hm:X.mg x=some (.ref f))(hg:Gl X x)(hd:autoParam ((x==("__debug__" : Str))=false) aD._auto_1):PE X (.Name x p) (tE E (λ_=>M.ok (.fn f))) :=
 kF (tU (v:=.ref f) hg hm rfl hd) λ_=>.fn f
structure An (P:Program) (w:World) (K:R5) (mg:Str->Option Value) (base:Heap) (k:Nat) (L:List (Addr×(List PV->M PV))):Prop where
 ex:∀ f sem,L.lookup f=some sem->∃ n fd ps j,n<=k/\SN K (.ref f)=true/\Binds K fd ps []/\aL P w K mg base (bI P w) n f fd ps (cP j sem)/\∀ ps,sem ps≠none->ps.length=j
theorem An.nil:An P w K mg base k []:=⟨λC sem h=>by cases h⟩
theorem An.cons{f:Addr}(F:cm P w K mg base n x j sem)(hm:mg x=some (.ref f))(hn:n<=k)(r:An P w K mg base k L):An P w K mg base k ((f,aZ j sem)::L):=⟨λf' Rq h=>by
 rw[SY] at h
 by_cases e:f'=f
 .rw[e,beq_self_eq_true] at h;cases h;obtain⟨f1,fd,ps,h1,h2,h3,h4,h5⟩:=F.ex;rw[hm] at h1;cases h1;rw[e];exact⟨n,fd,ps,j,hn,h2,h4,h5,λPD hp=>j1 hp⟩
 .rw[beq_false_of_ne e] at h;exact r.ex f' Rq h⟩
def Ny(L:List (Addr×(List PV->M PV)))(p:PV)(x:M (List PV)):M PV:=match p with
 | .fn f=>cA ((L.lookup f).isSome) (x.bind λps=>JI L f ps)
 | _=>none
def pW(L:List (Addr×(List PV->M PV)))(g:af->M PV)(fs:af->M (List PV)):af->M PV:=λenv=>(g env).bind λp=>Ny L p (fs env)
theorem An.call(hr:ck k X.A)(F:An X.prog X.w X.K X.mg X.base k L)(O:dU X E)(he:PE X (.Name x p) (tE E g))(ha:PA X (e::es) (tL E fs))
  (O6:autoParam (starEach (e::es) X.env=(false,eval e X.env)::starEach es X.env) aR._auto_1) (Oy:autoParam ((backTo pos (starEach es X.env)).any (·.1)=false) aR._auto_1) :
  PE X (.Call (.Name x p) (e::es) [] pos) (tE E (pW L g fs)):=by
 intro Oa s σ H Q I h;have h':tE E g σ H λv H1=>∃ f sem,v=.ref f/\L.lookup f=some sem/\tL E fs σ H1 λvs H2=>∀ j,(∀ ps,sem ps≠none->ps.length=j)->cP j sem (vs++[]) H2 Q (E σ):=by
  refine bD (K:=gW Q) gW.g h λB H₀ Hs H1 env p v sr rp hp=>?_;cases rp with
  | fn f =>
   obtain⟨e1,Du⟩:=au.cA hp;obtain⟨sem,es⟩:=T_.mp e1;refine⟨f,sem,rfl,es,B,H₀,Hs,env,sr,(au.bind Du).imp (λPD Qi vs Of H' g' r j hl=>?_) λe he=>he⟩;unfold JI at Qi;rw[es] at Qi;have hn:sem PD≠none:=λz=>by simp only[z] at Qi;exact Qi
   rw[SK];exact⟨by rw[<- r.length];exact hl _ hn,Of,PD,g'.sub,r,Qi.imp (λz hz w Oo H2 g2 r2=>hz w Oo H2 (g'.trans g2) r2) λe he=>he.grow g'⟩
  | _=>exact hp.elim
 refine T5 (cU (he Oa s σ H _ I h') λu s1 ⟨v,H1,I1,rx,f,sem,ev,el,q⟩=>?_);subst ev;obtain rfl:u=Sd f:=rx;obtain⟨n,fd,ps,j,hn,kp,hb,F',hl⟩:=F.ex f sem el;refine T6 (first:=[]) (h₀:=X.base) I1.ok.mod.Dw kp (cU (ha pos Oa s1 σ H1 _ I1 q) λus s2 ⟨vs,H2,I2,r,q2⟩=>⟨I2.hU,?_⟩) O6 Oy;exact kB F' (hr.mono hn) hb .nil O I2 r (q2 j hl)
end
variable{α β:Type}
variable{x0:Option SV}
variable{p:PV}
variable{b:af->M Out}{u:af->M Bool}
variable{body:af->M Out}
section
open PySem.SeqAt (shaped noMix noMixAll)
theorem M.aP(a:α)(f:α->M β):M.bind (M.ok a) f=f a:=SI rfl rfl
theorem M.Ci(e:EX)(f:α->M β):M.bind (some (Except.error e)) f=some (.error e):=SI rfl rfl
theorem M.bind_none(f:α->M β):M.bind none f=none:=SI rfl rfl
theorem M.bind_some(a:α)(f:α->M β):M.bind (some (Except.ok a)) f=f a:=SI rfl rfl
theorem M.bind_assoc{γ:Type}(x:M α)(f:α->M β)(g:β->M γ):M.bind (M.bind x f) g=M.bind x λa=>M.bind (f a) g:=by
 cases x with
 | none=>rfl
 | some x=>cases x <;> rfl
theorem aw{c:Prop}[Decidable c]{x:M α}(h:c):cA c x=x:=if_pos h
theorem HX(a:α):Dx (M.ok a)=M.ok a:=SI rfl rfl
theorem y0(x:PV):ed (some x)=M.ok x:=SI rfl rfl
theorem v5(g:af->M Out)(env:af):Ar g (.nx env)=g env:=SI rfl rfl
theorem we(g:af->M Out)(p:PV):Ar g (.rt p)=M.ok (.rt p):=SI rfl rfl
theorem Ee(b:Bool):wR (.bl b)=M.ok b:=SI rfl rfl
theorem DK(p:PV):Hj (.rt p)=M.ok p:=SI rfl rfl
theorem EW(e:af):Hj (.nx e)=M.ok .bG:=SI rfl rfl
def tI(xs:List Int):PV:=.tup (xs.map PV.int)
def lI(xs:List Int):PV:=.lst (xs.map PV.int)
theorem yI(xs:List Int):cB (tI xs)=some (xs.map PV.int):=SI rfl rfl
theorem EA(xs:List Int):cB (lI xs)=some (xs.map PV.int):=SI rfl rfl
theorem Dn(xs:List PV):cB (.tup xs)=some xs:=SI rfl rfl
theorem Bx(xs:List PV):cB (.lst xs)=some xs:=SI rfl rfl
theorem BY(xs:List PV):cB (.gc xs)=some xs:=SI rfl rfl
theorem DO(xs:List Int):tX (tI xs)=M.ok (.int xs.length):=by simp[tX,tI,cB,ed]
theorem Fc(xs:List Int):tX (lI xs)=M.ok (.int xs.length):=by simp[tX,lI,cB,ed]
theorem Cu(xs:List PV):tX (.tup xs)=M.ok (.int xs.length):=SI rfl rfl
theorem A6(xs:List PV):tX (.lst xs)=M.ok (.int xs.length):=SI rfl rfl
theorem AS(xs:List PV):tX (.gc xs)=M.ok (.int xs.length):=SI rfl rfl
theorem Av(xs:List Int):xq [.lst (xs.map PV.int)]=M.ok (.int xs.sum):=by simp[xq,Kc,sd,ed]
theorem vC(xs:List Bool):qu [.lst (xs.map PV.bl)]=M.ok (.bl (xs.all id)):=by simp[qu,all1,vk,ed]
theorem lK{inj h:α->PV}{rest:af}(xs:List α)(H:∀ a∈xs,f (some (.sh (inj a))::rest)=M.ok (h a)):c5 (cX 0) none f (xs.map inj) (x0::rest)=M.ok (xs.map h):=by
 induction xs generalizing x0 with
 | nil=>rfl
 | cons a r ih =>
  rw[Su,c5];show M.bind (M.ok ((x0::rest).set 0 (some (.sh (inj a))))) _=_;rw[M.aP,Vf];show M.bind (f _) _=_;rw[H a Sq,M.aP,ih λb hb=>H b (Sl _ hb)];rfl
theorem lF{p q h:α->PV}{rest:af}{x1:Option SV}(xs:List α)(H:∀ a∈xs,f (some (.sh (p a))::some (.sh (q a))::rest)=M.ok (h a)):c5 (b_ 0 1) none f (xs.map λa=>.tup [p a,q a]) (x0::x1::rest)=M.ok (xs.map h):=by
 induction xs generalizing x0 x1 with
 | nil=>rfl
 | cons a r ih =>
  rw[Su,c5];show M.bind (M.ok (((x0::x1::rest).set 0 (some (.sh (p a)))).set 1 (some (.sh (q a))))) _=_;rw[M.aP,Vf,List.set_cons_succ,Vf];show M.bind (f _) _=_;rw[H a Sq,M.aP,ih λb hb=>H b (Sl _ hb)];rfl
theorem fJ{f:α->PV}{g:β->PV}{q:PV}(xs:List α)(ys:List β)(hp:cB p=some (xs.map f))(hq:cB q=some (ys.map g)):zip2 [p,q]=M.ok ((xs.zip ys).map λz=>.tup [f z.1,g z.2]):=by
 simp only[zip2,hp,hq];congr 2;rw[List.zipWith_map,List.zip_eq_zipWith,List.map_zipWith]
theorem Ai{f:α->PV}(xs:List α):hR (xs.map f)=(xs.zipIdx).map λz=>.tup [.int (z.2:Int),f z.1]:=by
 unfold hR;rw[List.mapIdx_eq_zipIdx_map,List.zipIdx_map,S_];rfl
theorem vi{set:PV->af->M af}{body:af->M Out}{α:Type}{inj:α->PV}(J:List α->af->Prop)
  (H:∀ a r env,J (a::r) env->∃ e' Oc,set (inj a) env=M.ok e'/\body e'=M.ok (.nx Oc)/\J r Oc):∀ (xs:List α) (env:af),J xs env->∃ Oc,gZ set body (xs.map inj) env=M.ok (.nx Oc)/\J [] Oc
 | [],env,h=>⟨env,rfl,h⟩
 | a::r,env,h=>by
  obtain⟨e',Oc,h1,h2,h3⟩:=H a r env h;obtain⟨QK,h4,h5⟩:=vi J H r Oc h3;refine⟨QK,?_,h5⟩;rw[Su,gZ,h1,M.aP,h2,M.aP];exact h4
theorem nz(J:af->Prop)(m:af->Nat)
  (H:∀ env,J env->(u env=M.ok false)\/(u env=M.ok true/\∃ Oc,b env=M.ok (.nx Oc)/\J Oc/\m Oc<m env)) (env:af) (h:J env):∃ Oc,jW u b env=M.ok (.nx Oc)/\J Oc/\u Oc=M.ok false:=by
 have key:∀ (n:Nat) (env:af),J env->m env<n->∃ Oc,cY u b n env=M.ok (.nx Oc)/\J Oc/\u Oc=M.ok false:=by
  intro n
  induction n with
  | zero=>intro env _ hn;lia
  | succ n ih =>
   intro env h hn;rcases H env h with hu | ⟨hu,Oc,hb,hj,hm⟩
   .exact⟨env,by rw[cY,hu,M.aP];rfl,h,hu⟩
   .obtain⟨QK,h1,h2,h3⟩:=ih Oc hj (by lia);exact⟨QK,by rw[cY,hu,M.aP,if_pos rfl,hb,M.aP];exact h1,h2,h3⟩
 obtain⟨Oc,h1,h2,h3⟩:=key (m env+1) env h (T4 _);refine⟨Oc,?_,h2,h3⟩;rw[Ac (n:=m env+1) (by rw[h1];exact λz=>nomatch z),h1]
theorem log2_small{i:Int}(h:i.natAbs<2^k)(hk:k<=9000):i.natAbs.log2<67108864:=by
 by_cases z:i.natAbs=0
 .rw[z];decide
 .have:=(YD z).mpr h;lia
theorem bN{i j:Int}{l:Nat}(hi:i.natAbs<2^k)(hj:j.natAbs<2^l)(hk:autoParam (k<=9000) aD._auto_1)(hl:autoParam (l<=9000) aD._auto_1):bC (.int i) (.int j)=M.ok (.int (i*j)):=by
 rw[bC,aw ⟨log2_small hi hk,log2_small hj hl⟩]
theorem rJ{i j:Int}(h0:j≠0)(h:j.natAbs<2^9000):bW (.int i) (.int j)=M.ok (.int (i.fdiv j)):=by
 show cA _ _=_;refine aw (decide_eq_true ⟨h0,(YD (by lia)).mpr h⟩)
theorem As{i j:Int}(h0:j≠0):bS (.int i) (.int j)=M.ok (.int (i.fmod j)):=by
 show cA _ _=_;exact aw (decide_eq_true h0)
theorem ba{i j:Int}(h0:0<j)(h:j<2^64):bW (.int i) (.int j)=M.ok (.int (i/j)):=by
 rw[rJ (by lia) (Sh (show j.natAbs<2^64 by lia) (VU (by decide) (by decide))),UY _ (by lia)]
theorem az{i j:Int}(h0:0<j):bS (.int i) (.int j)=M.ok (.int (i%j)):=by
 rw[As (by lia),Int.fmod_eq_emod_of_nonneg _ (by lia)]
theorem cu{x:PV}(hs:cB p=some xs)(h:xs[j]?=some x):aS p (.int (j:Int))=M.ok x:=by
 cases p with
 | tup ys=>cases hs;simp only[aS,uc h,ed]
 | lst ys=>cases hs;simp only[aS,uc h,ed]
 | gc ys=>cases hs;simp only[aS,uc h,ed]
 | _=>cases hs
section
variable{b:String->Bool}{ob oe:Addr->Option Bool}
theorem IA(xs:List Int):xJ b ob oe (tI xs)=M.ok (.bl (b "tuple")):=SI rfl rfl
theorem Hn(xs:List Int):xJ b ob oe (lI xs)=M.ok (.bl (b "list")):=SI rfl rfl
theorem Fh(xs:List PV):xJ b ob oe (.tup xs)=M.ok (.bl (b "tuple")):=SI rfl rfl
theorem DC(xs:List PV):xJ b ob oe (.lst xs)=M.ok (.bl (b "list")):=SI rfl rfl
theorem Fq(i:Int):xJ b ob oe (.int i)=M.ok (.bl (b "int")):=SI rfl rfl
theorem HI(i:Bool):xJ b ob oe (.bl i)=M.ok (.bl (b "bool")):=SI rfl rfl
theorem Eb:xJ b ob oe .bG=M.ok (.bl (b "NoneType")):=SI rfl rfl
theorem Er(x:Str):xJ b ob oe (.str x)=M.ok (.bl (b "str")):=SI rfl rfl
theorem Et:xJ b ob oe .emp=M.ok (.bl (b "dict")):=SI rfl rfl
end
theorem yk(i j:Int):nG (.int i) (.int j)=M.ok (.bl (!decide (i=j))):=by
 simp only[nG,mh,dat,Bf,shaped,S3,Tw,noMix];rw[aw ⟨rfl,rfl,trivial⟩];unfold same;rw[M.aP];congr
theorem Em(i j:Int):jN (.int i) (.int j)=M.ok (.bl (decide (i=j))):=by
 simp only[jN,mh,dat,Bf,shaped,S3,Tw,noMix];rw[aw ⟨rfl,rfl,trivial⟩];unfold same;rw[M.aP];congr
theorem xt(i j:Bool):nG (.bl i) (.bl j)=M.ok (.bl (!decide (i=j))):=by
 simp only[nG,mh,dat,Bf,shaped,S3,Tw,noMix];rw[aw ⟨rfl,rfl,trivial⟩];unfold same;rw[M.aP];congr
theorem Gr(i j:Bool):jN (.bl i) (.bl j)=M.ok (.bl (decide (i=j))):=by
 simp only[jN,mh,dat,Bf,shaped,S3,Tw,noMix];rw[aw ⟨rfl,rfl,trivial⟩];unfold same;rw[M.aP];congr
theorem mS(xs:List Int):j8 (xs.map PV.int)=some (xs.map Vg):=by
 induction xs with
 | nil=>rfl
 | cons a r ih=>simp[j8,dat,ih]
theorem j5(xs:List Int):Th (xs.map Vg)=true:=by
 induction xs with
 | nil=>rfl
 | cons a r ih=>simp[Th,S3,ih]
theorem lM(xs:List Int):TM (xs.map Vg)=0:=by
 induction xs with
 | nil=>rfl
 | cons a r ih=>simp[TM,Tw,ih]
theorem noMix_ints:∀ (xs ys:List Int),noMixAll (xs.map Vg) (ys.map Vg)=true
 | [],[]=>by simp[noMixAll]
 | [],_::_=>by simp[noMixAll]
 | _::_,[]=>by simp[noMixAll]
 | a::r,b::s=>by simp[noMixAll,noMix,noMix_ints r s]
theorem same_ints:∀ (xs ys:List Int),sameAll (xs.map Vg) (ys.map Vg)=decide (xs=ys)
 | [],[]=>by simp[sameAll]
 | [],_::_=>by simp[sameAll]
 | _::_,[]=>by simp[sameAll]
 | a::r,b::s=>by
  simp only[Su,sameAll,same_ints r s];unfold same;rw[W9];simp
theorem DQ(i j:Int):Fi (.int i) (.int j)=M.ok (.bl (decide (i<j))):=SI rfl rfl
theorem E8(i j:Int):Ew (.int i) (.int j)=M.ok (.bl (decide (i<=j))):=SI rfl rfl
theorem EM(i j:Int):Fw (.int i) (.int j)=M.ok (.bl (decide (j<i))):=SI rfl rfl
theorem EU(i j:Int):Jf (.int i) (.int j)=M.ok (.bl (decide (j<=i))):=SI rfl rfl
theorem AX(i j:Int):cJ (.int i) (.int j)=M.ok (.int (i+j)):=SI rfl rfl
theorem B0(i j:Int):jJ (.int i) (.int j)=M.ok (.int (i-j)):=SI rfl rfl
theorem CP{n:Int}(h:0<=n)(h2:n<2^62):uj [.int n]=M.ok ((S7 n.toNat).map λ(i:Nat)=>.int (i:Int)):=by
 show cA (-(2^62)<=n/\n<2^62) _=_;rw[aw (by lia)];simp
theorem mR{set:PV->af->M af}{inj:α->PV}{k:Out->M β}{r:M β}(xs:List α)(J:List α->af->Prop){env:af}(h:J xs env)
  (H:∀ a r env,J (a::r) env->∃ e' Oc,set (inj a) env=M.ok e'/\body e'=M.ok (.nx Oc)/\J r Oc) (hk:∀ Oc,J [] Oc->k (.nx Oc)=r):M.bind (gZ set body (xs.map inj) env) k=r:=by
 obtain⟨Oc,e,h'⟩:=vi J H xs env h;rw[e,M.aP];exact hk Oc h'
theorem xf{k:Out->M β}{r:M β}(J:af->Prop)(m:af->Nat){env:af}(h:J env)
  (H:∀ env,J env->(u env=M.ok false)\/(u env=M.ok true/\∃ Oc,b env=M.ok (.nx Oc)/\J Oc/\m Oc<m env)) (hk:∀ Oc,J Oc->u Oc=M.ok false->k (.nx Oc)=r):M.bind (jW u b env) k=r:=by
 obtain⟨Oc,e,h',h2⟩:=nz J m H env h;rw[e,M.aP];exact hk Oc h' h2
theorem aW(h:n<=1000):n<=sizeLine:=Vn (sj h)
def tupK(ps:List PV):M PV:=cA (ps.length<=sizeLine) (M.ok (.tup ps))
def lstK(ps:List PV):M PV:=cA (ps.length<=sizeLine) (M.ok (.lst ps))
theorem D5(fs:af->M (List PV))(env:af):dD fs env=(fs env).bind tupK:=rfl
theorem DM(fs:af->M (List PV))(env:af):ef fs env=(fs env).bind lstK:=rfl
theorem Gw:tupK []=M.ok (.tup []):=aw (aW (show 0<=1000 by decide))
theorem Gd:lstK []=M.ok (.lst []):=aw (aW (show 0<=1000 by decide))
theorem G4(a:PV):tupK [a]=M.ok (.tup [a]):=aw (aW (show 1<=1000 by decide))
theorem G3(a:PV):lstK [a]=M.ok (.lst [a]):=aw (aW (show 1<=1000 by decide))
theorem Ir(a b:PV):tupK [a,b]=M.ok (.tup [a,b]):=aw (aW (show 2<=1000 by decide))
theorem GK(a b:PV):lstK [a,b]=M.ok (.lst [a,b]):=aw (aW (show 2<=1000 by decide))
theorem HQ(a b c:PV):tupK [a,b,c]=M.ok (.tup [a,b,c]):=aw (aW (show 3<=1000 by decide))
theorem GF(a b c:PV):lstK [a,b,c]=M.ok (.lst [a,b,c]):=aw (aW (show 3<=1000 by decide))
theorem IE(a b c d:PV):tupK [a,b,c,d]=M.ok (.tup [a,b,c,d]):=aw (aW (show 4<=1000 by decide))
theorem IB(a b c d:PV):lstK [a,b,c,d]=M.ok (.lst [a,b,c,d]):=aw (aW (show 4<=1000 by decide))
theorem Gx(a b c d e:PV):tupK [a,b,c,d,e]=M.ok (.tup [a,b,c,d,e]):=aw (aW (show 5<=1000 by decide))
theorem Ha(a b c d e:PV):lstK [a,b,c,d,e]=M.ok (.lst [a,b,c,d,e]):=aw (aW (show 5<=1000 by decide))
theorem IU(a b c d e f:PV):tupK [a,b,c,d,e,f]=M.ok (.tup [a,b,c,d,e,f]):=aw (aW (show 6<=1000 by decide))
theorem Ip(a b c d e f:PV):lstK [a,b,c,d,e,f]=M.ok (.lst [a,b,c,d,e,f]):=aw (aW (show 6<=1000 by decide))
end
def oh(m:M α)(Q:α->Prop):Prop:=∃ a,m=M.ok a/\Q a
section
variable{γ:Type}{Q Q':α->Prop}{m:M α}
theorem oh.eq{a:α}(h:oh m λx=>x=a):m=M.ok a:=by obtain⟨b,e,rfl⟩:=h;exact e
def Tn(J:af->Prop)(B:af->Prop)(R:PV->Prop):Out->Prop
 | .nx e=>J e
 | .ct e=>J e
 | .bk e=>B e
 | .rt p=>R p
theorem oh.B5{set:PV->af->M af}{body:af->M Out}{inj:γ->PV}{B:af->Prop}{R:PV->Prop}(J:List γ->af->Prop)
  (H:∀ a r env,J (a::r) env->oh (M.bind (set (inj a) env) body) (Tn (J r) B R)):∀ (xs:List γ) (env:af),J xs env->oh (gZ set body (xs.map inj) env) λo=>(∃ e,o=.nx e/\(J [] e\/B e))\/∃ p,o=.rt p/\R p
 | [],env,h=>⟨_,rfl,.inl ⟨_,rfl,.inl h⟩⟩
 | a::r,env,h=>by
  obtain⟨o,e,q⟩:=H a r env h;rw[Su,gZ,<- M.bind_assoc,e,M.aP];cases o with
  | nx e'=>exact oh.B5 J H r e' q
  | ct e'=>exact oh.B5 J H r e' q
  | bk e'=>exact⟨_,rfl,.inl ⟨_,rfl,.inr q⟩⟩
  | rt p=>exact⟨_,rfl,.inr ⟨_,rfl,q⟩⟩
theorem oh.loop{R:β->Prop}{set:PV->af->M af}{inj:γ->PV}{k:Out->M β}{xs:List γ}{env:af}(J:List γ->af->Prop)(h:J xs env)
  (H:∀ a r env,J (a::r) env->oh (M.bind (set (inj a) env) body) (Tn (J r) (λ_=>False) λ_=>False)) (hk:∀ Oc,J [] Oc->oh (k (.nx Oc)) R):oh (M.bind (gZ set body (xs.map inj) env) k) R:=by
 obtain⟨o,e,q⟩:=oh.B5 J H xs env h;rw[e,M.aP];rcases q with ⟨e',rfl,q | q⟩ | ⟨p,_,q⟩
 .exact hk e' q
 .exact q.elim
 .exact q.elim
end
def Kw(i:Nat)(env:af)(xs:List PV)(p:PV):M Out:=if xs.length<sizeLine then M.ok (.nx (env.set i (some (.ow (xs++[p]))))) else none
theorem yh(i:Nat)(f:af->M PV)(env:af):tm i f env=(ownAt i env).bind λxs=>(f env).bind λp=>Kw i env xs p:=by
 unfold tm ownAt;rcases env[i]? with _ | _ | (_ | _ | _) <;> rfl
theorem yA{env:af}(h:xs.length<1000):Kw i env xs p=M.ok (.nx (env.set i (some (.ow (xs++[p]))))):=if_pos (sj (Vn h))
def uM(C:Addr)(m:Str)(sem:List PV->M PV)(p:PV)(x:M (List PV)):M PV:=match p with
 | .obj C' fl=>cA (C'=C/\fl.lookup m=none) (x.bind λps=>sem (.obj C' fl::ps))
 | _=>none
theorem dJ(C:Addr)(m:Str)(sem:List PV->M PV)(g:af->M PV)(fs:af->M (List PV))(env:af):bP C m sem g fs env=(g env).bind λp=>uM C m sem p (fs env):=rfl
theorem nP{fl:List (Str×PV)}{x:M (List PV)}(h:fl.lookup m=none):uM C m sem (.obj C fl) x=x.bind λps=>sem (.obj C fl::ps):=aw ⟨rfl,h⟩
def xx(ok:Addr->Bool)(f:Str)(p:PV):M PV:=match p with
 | .obj C fs=>cA (ok C=true) (ed (fs.lookup f))
 | _=>none
theorem er(ok:Addr->Bool)(f:Str)(g:af->M PV)(env:af):cv ok f g env=(g env).bind (xx ok f):=rfl
theorem j6{ok:Addr->Bool}{f:Str}{fs:List (Str×PV)}{x:PV}(h:ok C=true)(hl:fs.lookup f=some x):xx ok f (.obj C fs)=M.ok x:=by
 show cA _ _=_;rw[aw h,hl];rfl
theorem BH(xs ys:List Int):nG (lI xs) (lI ys)=M.ok (.bl (!decide (xs=ys))):=by
 simp only[nG,mh,dat,lI,mS,UQ,Bf];rw[aw (by simp[Uu,S3,Tw,j5,lM,VV,noMix_ints])];unfold same;rw[same_ints];rfl
theorem rZ(xs:List Int)(x:Int):xs.map PV.int++[.int x]=(xs++[x]).map PV.int:=by simp
theorem pC{f:α->PV}(xs:List α)(h:cB p=some (xs.map f)):zA [p]=M.ok (xs.zipIdx.map λz=>.tup [.int (z.2:Int),f z.1]):=by
 show Lv p=_;unfold Lv;rw[h];show M.ok (hR _)=_;rw[Ai]
theorem BM(xs:List Int):zA [lI xs]=M.ok (xs.zipIdx.map λz=>.tup [.int (z.2:Int),.int z.1]):=pC xs rfl
theorem ym{f:α->PV}(xs:List α):zA [.lst (xs.map f)]=M.ok (xs.zipIdx.map λz=>.tup [.int (z.2:Int),f z.1]):=pC xs rfl
theorem Nu{us:List α}(h:us.length=1):∃ a,us=[a]:=by
 cases us with
 | nil=>cases h
 | cons a t=>cases t with
  | nil=>exact⟨a,rfl⟩
  | cons b t=>cases h
theorem ln2{us:List α}(h:us.length=2):∃ a b,us=[a,b]:=by
 cases us with
 | nil=>cases h
 | cons a t=>obtain⟨b,rfl⟩:=Nu (W3 h);exact⟨a,b,rfl⟩
theorem NC{us:List α}(h:us.length=3):∃ a b c,us=[a,b,c]:=by
 cases us with
 | nil=>cases h
 | cons a t=>obtain⟨b,c,rfl⟩:=ln2 (W3 h);exact⟨a,b,c,rfl⟩
theorem NL{us:List α}(h:us.length=4):∃ a b c d,us=[a,b,c,d]:=by
 cases us with
 | nil=>cases h
 | cons a t=>obtain⟨b,c,d,rfl⟩:=NC (W3 h);exact⟨a,b,c,d,rfl⟩
def yM(K:R5):Bool:=K.all λp=>match p.2.cls with
 | .type t=>t != "list"
 | _=>true
theorem C_{K:R5}(h:yM K=true){o:Obj}(e:K.lookup a=some o):o.cls≠.type "list" := by
 induction K with
 | nil=>cases e
 | cons p r ih =>
  obtain⟨b,u⟩:=p;rw[yM,WB,SX] at h;rw[SY] at e;cases q:a==b with
  | true =>
   rw[q] at e;cases e;intro z;have h1:=h.1;simp only[z] at h1;exact absurd h1 (by decide)
  | false=>rw[q] at e;exact ih h.2 e
theorem rW{H:Hp}:∀ ns:List Int,aX H (ns.map PV.int) (ns.map V.int)
 | []=>.nil
 | i::r=>.cons (.int i) (rW r)
theorem xy{l:PySem.W.OpenLaw}{q:Program}{loose:List Str}{XP:(Str->Option Value)->Heap->Prop}{YP:World->Heap->Prop}{d:DefRec}{K:Params->R5}
  (hn:l.most=some n) (Q6:n<=sizeLine) (hdf:d.params.defaults=[]) (hr:ck k callerA)
  (hY:∀ (w:World) (h:Heap),YP w h->(K w.params).In h)
  (hK:∀ w:World,yM (K w.params)=true)
  (F:∀ (w:World) (mg:Str->Option Value) (fa:Addr) (h:Heap),(K w.params).In h->h.Ns mainGlobals mg->mg d.name=some (.ref fa) ->
   ∃ fd:FuncData,(∀ (s:Shared) (u:Value),BindsTo s fd ⟨[u],[]⟩ [(x,u)]) ∧
    ∀ base:Heap,(K w.params).In base->base.Ns mainGlobals mg->aL l.prog w (K w.params) mg base (bI l.prog w) k fa fd [x] (cP 1 sem))
  (Rl:∀ ns:List Int,ns.length<=n->(∀ i∈ns,Wb i<=1048576)->sem [.gc (ns.map PV.int)]=M.ok (.bl true)) :
  PySem.W.WalkO q loose XP YP l.row.toRowW d [] (λf vs=>PySem.call f vs):=by
 intro w s₀ s₁ mg mb G Y fa o pm cd doc dV kV ho hd Pn hD hmg hg args vals as zx hlay hrd hwl hlo;obtain rfl:dV=.none:=PySem.W.Dflts.none hD hdf;obtain rfl:kV=.none:=PySem.W.Dflts.noKw hD;obtain⟨a,vs,ns,rfl,rfl,hobj,hints,hlen⟩:=Att.zU hn zx hwl;have RF:∀ i∈ns,Wb i<=1048576:=λi hi=>by
  have h1:=PySem.W.layableW_arg hlay _ (Tq.mpr rfl);have h2:=PySem.W.layableW_item h1 (.int i) (Uv.mpr ⟨i,hi,rfl⟩);exact intBits_le_of_layable h2
 have KX:=hY w _ Y;obtain⟨fd,hb,hF⟩:=F w mg fa _ KX G.T.g hmg;have hs:=Rl ns hlen RF;refine PySem.W.enter_call (Vw (Dh KX G.T.g G.T.b G.T.builtins G.T.nolimit hg hobj hints (SE hlen Q6) hr hF hb (λH hO hS=>⟨rfl,H,[.gc (ns.map PV.int)],λ_ _ e=>e,?_,?_⟩) λH e s' z=>?_) λr s' hq=>?_)
 .rcases hS with (hS | ⟨ob,hS⟩) | ⟨ob,Og,m,e1,e2,_⟩
  .rcases hO a with z | ⟨ob,xs,z⟩
   .rw[z] at hS;cases hS
   .rw[z] at hS;cases hS
  .exact .cons (.gc hS (rW ns)) .nil
  .exact absurd e2 (C_ (hK w) e1)
 .rw[hs];intro v Of H' g r;cases r;rfl
 .obtain⟨ea,T,C,dd,Hc,_,_,_,_,_,_,_,_,z⟩:=z;exact z
 .obtain⟨rfl,h2,h3,h4⟩:=hq;exact⟨.inl ⟨.bool true,.bool true,[],rfl,λ_=>rfl,.bool true,Att.zN l _,λ_=>⟨List.Pairwise.nil,λ_ hm=>(nomatch hm)⟩⟩,h2,h3,h4⟩
abbrev oU(x q:Str)(t:Stmt)(s:Value)(c:Addr):FuncData:=Tg x q (iz t) (dC t) (aE t) .none .none .none s none (.ref c) .none
variable{t:Stmt}
theorem aV.of{K:R5}{q:Str}{dv kV doc pm:Value}{an:Option Addr}{Ox ct:Value}{f:Addr}(h1:K.lookup f=some ⟨.type "function", none,.func (Tg x q (iz t) (dC t) (aE t) dv kV doc pm an Ox ct),⟨[]⟩⟩)(h2:Ub K Ox q=true)(h3:SN K (.ref f)=true):aV K x q t dv f (Tg x q (iz t) (dC t) (aE t) dv kV doc pm an Ox ct):=⟨⟨_,_,_,_,_,_,_,_,_,rfl,h1,h2⟩,h3⟩
section
variable{P:List α->Prop}
theorem Gs(h:∀ a,P [a]):∀ us,us.length=1->P us:=λus hl=>by obtain⟨a,rfl⟩:=Nu hl;exact h a
theorem F2(h:∀ a b,P [a,b]):∀ us,us.length=2->P us:=λus hl=>by obtain⟨a,b,rfl⟩:=ln2 hl;exact h a b
theorem NF(h:∀ a b c d,P [a,b,c,d]):∀ us,us.length=4->P us:=λus hl=>by obtain⟨a,b,c,d,rfl⟩:=NL hl;exact h a b c d
end
theorem bj.of{N P:List Str}{sc:Scope}(h1:autoParam (sc.kind=.function) aR._auto_1)(h2:autoParam (sc.isCoroutine=false) aR._auto_1)(h3:autoParam (sc.isGenerator=false) aR._auto_1)(h4:autoParam (N.Nodup) aN._auto_1)(h5:autoParam (N.take P.length=P) aR._auto_1)(h6:autoParam (∀ x∈P,sc.names.lookup x=some .local\/sc.names.lookup x=some .cell) aN._auto_1)(h7:autoParam (∀ y∈sc.names,y.2≠.free) aN._auto_1):bj N P sc:=⟨h1,h2,h3,h4,h5,h6,h7⟩
theorem aQ(hN:X.N.Nodup)(hi:autoParam (X.N[i]?=some x) aR._auto_1)(hx:autoParam (Loc X.env.scope x) aG._auto_1)(hf:autoParam (X.fn x=true\/X.env.scope.names.lookup x=some .local) aG._auto_1):PG X (.Name x pos) (aH i):=Ed hN hi hx hf
def D6:Nat->(List Value->Prop)->Prop
 | 0,P=>P []
 | n+1,P=>∀ a,D6 n λl=>P (a::l)
theorem um:∀ {n:Nat} {P:List Value->Prop},D6 n P->∀ us:List Value,us.length=n->P us
 | 0,_,h,[],_=>h
 | n+1,_,h,a::r,e=>um (h a) r (W3 e)
section
variable{K:R5}{h:Heap}{q:Str}{m:Nat}{tO:List PV->M (List PV)}
theorem fD(P:Program)(w:World)(base:Heap)(X:K.In h)(G:h.Ns mainGlobals mg)(a c:Addr)(s:Value)(ok:aV K x q t .none a (oU x q t s c)->aL P w K mg base (bI P w) n a (oU x q t s c) ps (cP m (aZ m sem)))
  (h1:autoParam (K.lookup a=some ⟨.type "function", none,.func (oU x q t s c),⟨[]⟩⟩) aK._auto_1) (h2:autoParam (Ub K (.ref c) q=true) aK._auto_1) (h3:autoParam (SN K (.ref a)=true) aK._auto_1) (h4:autoParam (W0 K mainGlobals x=some (some (.ref a))) aK._auto_1)
  (h5:autoParam (ps.length=m) aR._auto_1) (h6:D6 ps.length λus=>bindArgs (oU x q t s c) ⟨us,[]⟩=pure (ps.zip us):=by (repeat intro _);rfl):cm P w K mg base n x m sem :=
 ⟨⟨a,_,ps,YY X G h4,h3,h5,.all (um h6),ok (.of h1 h2 h3)⟩⟩
theorem uA(P:Program)(w:World)(base:Heap)(cc:iK K C)(a c:Addr)(s:Value)(ok:aV K x q t .none a (oU x q t s c)->aL P w K mg base (bI P w) n a (oU x q t s c) ps (cP m (aZ m sem)))
  (h1:autoParam (K.lookup a=some ⟨.type "function", none,.func (oU x q t s c),⟨[]⟩⟩) aK._auto_1) (h2:autoParam (Ub K (.ref c) q=true) aK._auto_1) (h3:autoParam (SN K (.ref a)=true) aK._auto_1) (h4:autoParam (SG K (.ref C) x=some (some (.ref a))) aK._auto_1) (h5:autoParam (UL K (.ref a)=true) aK._auto_1)
  (h6:D6 ps.length λus=>bindArgs (oU x q t s c) ⟨us,[]⟩=pure (ps.zip us):=by (repeat intro _);rfl):fR P w K mg base C n x m sem :=
 ⟨⟨a,_,ps,cc,⟨h4,h5,h3⟩,.all (um h6),ok (.of h1 h2 h3)⟩⟩
end
theorem aV.dm{K:R5}{qual:Str}{st:Stmt}{dv:Value}{f:Addr}{g:af->M Out}(F:aV K x qual st dv f fd)(N:List Str)
  (hb:N.Nodup->∀ (Ox:Value) (A:Around) (outer:List Env) (s:Shared) (H:Hp) (E:XK),ck k (A.deeper (envOfC qual (aE st) s.heap.objs.size f Ox))->dU ((lB (bI P w) P w K mg base N qual (aE st) f Ox A outer s H E).out λ_=>E) (λ_=>E)->kO ((lB (bI P w) P w K mg base N qual (aE st) f Ox A outer s H E).out λ_=>E) (dC st) (tS E g))
  (S:bj N ps (aE st):=by exact .of):aL P w K mg base (bI P w) (k+1) f fd ps (cP ps.length (aZ ps.length (ar N.length g))):=F.NU S (hb S.nd)
end L2
namespace wq
open PySem L2 PyProof.Rows
def cz:Addr:=828
def kY:Addr:=703
def cy:Addr:=710
def bQ:Addr:=513
def aJ:Addr:=667
def bY:Addr:=65
def l9:Addr:=200
def cf:Addr:=91
def br:Addr:=226
def bR:Addr:=117
def cM:Addr:=155
def aM:Addr:=136
def oY:Addr:=438
def aO:Addr:=634
def a_:Addr:=741
def bo:Addr:=174
def ay:Addr:=308
def mn:Addr:=38
def bU:Addr:=480
def nr:List Addr:=[br]
def nN:List Addr:=[bY,cf,bR,cM,aM,bo]
def gv:List Addr:=[aM]
def fW:List Addr:=[bY,cf,br,bR,cM,bo]
def iN:List Addr:=[bY,cf,br,bR,cM,aM,bo]
def iI:List Addr:=[]
def pk:List Addr:=[]
def pz:List Addr:=[]
def kG:List Addr:=[aJ]
def kq:List Addr:=[bQ,aO,a_,ay,bU]
def kE:List Addr:=[]
def kI:List Addr:=[bY,cf,br,bR,cM,aM,bo]
def ku:List Addr:=[]
def kC:List Addr:=[]
def mX:List Addr:=[br]
def nt:List Addr:=[bY,cf,bR,cM,aM,bo]
def mU:List Addr:=[]
def mL:List Addr:=[]
def jD:List Addr:=[aM]
def ja:List Addr:=[bY,cf,br,bR,cM,bo]
def jj:List Addr:=[]
def ju:List Addr:=[]
def mB:List Addr:=[]
def mj:List Addr:=[]
def i6:List Addr:=[bQ,a_,bU]
def iU:List Addr:=[aJ,aO,ay]
def lh:List Addr:=[bo]
def lJ:List Addr:=[bY,cf,br,bR,cM,aM]
def lR:List Addr:=[]
def lG:List Addr:=[]
def Nv:List Addr:=[bY,cf,br,bR,cM,aM,bo]
def yB:List Addr:=[br]
def me:List (Addr×Str):=[(bY, "no dial"),(cf, "no lever"),(br, "no lock"),(bR, "no price"),(cM, "no pulls"),(aM, "no setting"),(bo, "too many")]
abbrev cI(i:Int):af->M PV:=λ_=>M.ok (.int i)
def gL:af->M Out :=
 (ao (retS (tf (se (λa=>nu a "int") oF oF (ae 0)) (Dy (se (λa=>nu a "bool") oF oF (ae 0)))))
 aq)
def cC:List PV->M PV:=aZ 1 (ar 1 gL)
def fI:af->M Out :=
 (ao (i7 (y_ (gT (c6 (se (λa=>["list", "tuple"].any λt=>nu a t) oF oF (ae 0)))) (c6 (ak nG (ai c_ (aa (ae 0) aj)) (ae 1)))) (ao (retS (λ_=>M.ok (.bl false)))
 aq) aq)
 (ao (retS (ai qu (aa (cq (bV (itemsOf (ae 0)) (cX 0) none (ai cC (aa (ae 0) aj)) 1 [])) aj)))
 aq))
def bM:List PV->M PV:=aZ 2 (ar 2 fI)
def ka:af->M Out :=
 (ao (aY 2 (dD (aa (ae 0) (aa (cI 1) (aa (cI 0) aj)))))
 (ao (aY 3 (dD (aa (ae 1) (aa (cI 0) (aa (cI 1) aj)))))
 (ao (jW (c6 (ak nG (ak aS (ae 3) (cI 0)) (cI 0))) (ao (aY 4 (ak bW (ak aS (ae 2) (cI 0)) (ak aS (ae 3) (cI 0))))
 (ao (aY 5 (dD (aa (ak jJ (ak aS (ae 2) (cI 0)) (ak bC (ae 4) (ak aS (ae 3) (cI 0)))) (aa (ak jJ (ak aS (ae 2) (cI 1)) (ak bC (ae 4) (ak aS (ae 3) (cI 1)))) (aa (ak jJ (ak aS (ae 2) (cI 2)) (ak bC (ae 4) (ak aS (ae 3) (cI 2)))) aj)))))
 (ao (aY 2 (ae 3))
 (ao (aY 3 (ae 5))
 aq)))))
 (ao (i7 (c6 (ak Fi (ak aS (ae 2) (cI 0)) (cI 0))) (ao (retS (dD (aa (kN (ak aS (ae 2) (cI 0))) (aa (kN (ak aS (ae 2) (cI 1))) (aa (kN (ak aS (ae 2) (cI 2))) aj)))))
 aq) aq)
 (ao (retS (ae 2))
 aq)))))
def jR:List PV->M PV:=aZ 2 (ar 6 ka)
def fq:af->M Out :=
 (ao (aY 1 (cI 1))
 (ao (i8 (itemsOf (ae 0)) (cX 2) (ao (aY 1 (ak bC (ak bW (ae 1) (ak aS (ai jR (aa (ae 1) (aa (ae 2) aj))) (cI 0))) (ae 2)))
 aq))
 (ao (retS (ae 1))
 aq)))
def fg:List PV->M PV:=aZ 1 (ar 3 fq)
def lz:af->M Out :=
 (ao (retS (ai cW (aa (cq (bV (jQ uj (aa (ae 0) aj)) (cX 0) none (wY (c6 (ak jN (ae 0) (ae 1))) (cI 1) (cI 0)) 1 [1])) aj)))
 aq)
def qt:List PV->M PV:=aZ 2 (ar 2 lz)
def gD:af->M Out :=
 (ao (retS (ak bS (ai xq (aa (cq (bV (jQ zip2 (aa (ae 0) (aa (ae 1) aj))) (b_ 0 1) none (ak bC (ae 0) (ae 1)) 2 [])) aj)) (ae 2)))
 aq)
def eT:List PV->M PV:=aZ 3 (ar 3 gD)
def cN:af->M Out :=
 (ao (retS (tf (ai cC (aa (ae 0) aj)) (lD Ew Ew (ae 1) (ae 0) (ae 2))))
 aq)
def bH:List PV->M PV:=aZ 3 (ar 3 cN)
def gq:af->M Out :=
 (ao (i7 (c6 (ak Fw (ai c_ (aa (ae 0) aj)) (cI 6))) (ao (iQ bo (aa (λ_=>M.ok (.str "a vault has at most six dials")) aj))
 aq) aq)
 (ao (i7 (c6 (ak jN (ai c_ (aa (ae 0) aj)) (cI 0))) (ao (gK bY "dial" (aa (cI 0) aj))
 aq) aq)
 (ao (i8 (jQ zA (aa (ae 0) aj)) (b_ 1 2) (ao (i7 (gT (c6 (ai bH (aa (ae 2) (aa (cI 2) (aa (cI 360) aj)))))) (ao (gK bY "dial" (aa (ae 1) aj))
 aq) aq)
 aq))
 aq)))
def f_:List PV->M PV:=aZ 1 (ar 3 gq)
def e_:af->M Out :=
 (ao (i7 (c6 (ak Fw (ai c_ (aa (ae 0) aj)) (cI 8))) (ao (iQ bo (aa (λ_=>M.ok (.str "a vault has at most eight levers")) aj))
 aq) aq)
 (ao (i8 (jQ zA (aa (ae 0) aj)) (b_ 2 3) (ao (i7 (gT (c6 (ai bM (aa (ae 3) (aa (ae 1) aj))))) (ao (gK cf "lever" (aa (ae 2) aj))
 aq) aq)
 aq))
 aq))
def fe:List PV->M PV:=aZ 2 (ar 4 e_)
def gm:af->M Out :=
 (ao (i7 (c6 (ak Dj (ae 1) (λ_=>M.ok .bG))) (ao (retS (ak bC (dD (aa (cI 1) aj)) (ai c_ (aa (ae 0) aj))))
 aq) aq)
 (ao (i8 (jQ uj (aa (ai (Fz λi j=>if j>i then j else i) (aa (ai c_ (aa (ae 0) aj)) (aa (ai c_ (aa (ae 1) aj)) aj))) aj)) (cX 2) (ao (i7 (y_ (c6 (ak Jf (ae 2) (ai c_ (aa (ae 0) aj)))) (c6 (ak Jf (ae 2) (ai c_ (aa (ae 1) aj))))) (ao (gK bR "lever" (aa (ae 2) aj))
 aq) aq)
 (ao (i7 (gT (c6 (ai bH (aa (ak aS (ae 1) (ae 2)) (aa (cI 1) (aa (cI 1000) aj)))))) (ao (gK bR "lever" (aa (ae 2) aj))
 aq) aq)
 aq)))
 (ao (retS (ai cW (aa (ae 1) aj)))
 aq)))
def fV:List PV->M PV:=aZ 2 (ar 3 gm)
def kA:af->M Out :=
 (ao (retS (ai cW (aa (cq (bV (jQ zip2 (aa (ae 0) (aa (ae 1) aj))) (b_ 0 1) none (ak bS (ae 0) (ae 1)) 2 [])) aj)))
 aq)
def jg:List PV->M PV:=aZ 2 (ar 2 kA)
def oZ:af->M Out :=
 (ao (retS (ai cW (aa (cq (bV (jQ zip2 (aa (ae 0) (aa (ae 2) aj))) (b_ 0 1) none (ak cJ (ak bC (ae 2) (ae 0)) (ak bC (ae 3) (ae 1))) 2 [1,3])) aj)))
 aq)
def pv:List PV->M PV:=aZ 4 (ar 4 oZ)
def gf:af->M Out :=
 (ao (aY 5 (ai pv (aa (ak aS (ae 1) (cI 0)) (aa (ae 2) (aa (ak aS (ae 3) (cI 0)) (aa (ae 4) aj))))))
 (ao (retS (dD (aa (ai jg (aa (ae 5) (aa (ae 0) aj))) (aa (ai pv (aa (ak aS (ae 1) (cI 1)) (aa (ae 2) (aa (ak aS (ae 3) (cI 1)) (aa (ae 4) aj))))) aj))))
 aq))
def gi:List PV->M PV:=aZ 5 (ar 6 gf)
def fK:af->M Out :=
 (ao (aY 3 (ak aS (ak aS (ak aS (ae 1) (ae 2)) (cI 0)) (ae 2)))
 (ao (retS (wY (c6 (ak jN (ae 3) (cI 0))) (ak aS (ae 0) (ae 2)) (ae 3)))
 aq))
def iq:List PV->M PV:=aZ 3 (ar 4 fK)
def lx:af->M Out :=
 (ao (tD 3 (n9 aj))
 (ao (i8 (jQ zA (aa (ae 1) aj)) (b_ 4 5) (ao (aY 6 (ai iq (aa (ae 0) (aa (ae 1) (aa (ae 4) aj)))))
 (ao (aY 7 (ak aS (ak aS (ae 2) (cI 0)) (ae 4)))
 (ao (aY 8 (ai jR (aa (ae 6) (aa (ae 7) aj))))
 (ao (tm 3 (ai gi (aa (ae 0) (aa (ae 5) (aa (ak aS (ae 8) (cI 1)) (aa (ae 2) (aa (ak aS (ae 8) (cI 2)) aj)))))))
 (ao (aY 2 (ai gi (aa (ae 0) (aa (ae 2) (aa (ak bW (ae 6) (ak aS (ae 8) (cI 0))) (aa (ae 5) (aa (kN (ak bW (ae 7) (ak aS (ae 8) (cI 0)))) aj)))))))
 aq))))))
 (ao (vY [3] (retS (dD (aa (ae 3) (aa (ak aS (ae 2) (cI 1)) aj)))))
 aq)))
def pE:List PV->M PV:=aZ 3 (ar 9 lx)
def kn:af->M Out :=
 (ao (i8 (jQ wW (aa (ae 3) (aa (ai c_ (aa (ae 0) aj)) aj))) (cX 4) (ao (aY 5 (ak bW (ak aS (ak aS (ae 2) (cI 0)) (ae 4)) (ai iq (aa (ae 0) (aa (ae 1) (aa (ae 4) aj))))))
 (ao (aY 2 (ai gi (aa (ae 0) (aa (ae 2) (aa (cI 1) (aa (ak aS (ae 1) (ae 4)) (aa (kN (ae 5)) aj)))))))
 aq)))
 (ao (retS (ae 2))
 aq))
def ng:List PV->M PV:=aZ 4 (ar 6 kn)
def jm:af->M Out :=
 (ao (i8 (jQ BU (aa (ak jJ (ai c_ (aa (ae 1) aj)) (cI 1)) (aa (kN (cI 1)) (aa (kN (cI 1)) aj)))) (cX 2) (ao (aY 3 (ak aS (ae 1) (ae 2)))
 (ao (aY 0 (ai pv (aa (ae 0) (aa (cI 1) (aa (ae 3) (aa (kN (ak bW (ak aS (ae 0) (ae 2)) (ak aS (ae 3) (ae 2)))) aj))))))
 aq)))
 (ao (retS (ae 0))
 aq))
def lH:List PV->M PV:=aZ 2 (ar 4 jm)
def gF:af->M Out :=
 (ao (retS (FI (cq (bV (itemsOf (ae 0)) (cX 0) none (ak nG (ae 0) (cI 0)) 1 [])) (λ_=>M.ok (.bl true))))
 aq)
def kh:List PV->M PV:=aZ 1 (ar 1 gF)
def gC:af->M Out :=
 (ao (retS (ai cW (aa (cq (bV (itemsOf (ae 0)) (cX 0) none (ai eT (aa (cv (λc=>c==aJ) "factors" (ae 0)) (aa (ae 1) (aa (cv (λc=>c==aJ) "number" (ae 0)) aj)))) 1 [1])) aj)))
 aq)
def gE:List PV->M PV:=aZ 2 (ar 2 gC)
def eW:af->M Out :=
 (ao (aY 2 (ai gE (aa (ae 0) (aa (ae 1) aj))))
 (ao (retS (ai cW (aa (cq (bV (jQ zip2 (aa (ae 0) (aa (ae 2) aj))) (b_ 0 1) none (ak bS (ak jJ (cv (λc=>c==aJ) "rest" (ae 0)) (ae 1)) (cv (λc=>c==aJ) "number" (ae 0))) 2 [])) aj)))
 aq))
def eU:List PV->M PV:=aZ 2 (ar 3 eW)
def ip:af->M Out :=
 (ao (i7 (c6 (ak Fi (ae 1) (ai c_ (aa (ae 0) aj)))) (ao (retS (ak aS (ae 0) (ae 1)))
 aq) aq)
 (ao (retS (ak bS (ak bC (ak cJ (ae 1) (cI 2)) (cI 104729)) (cI 65537)))
 aq))
def fF:List PV->M PV:=aZ 2 (ar 2 ip)
def e6:af->M Out :=
 (ao (aY 2 (ak bS (ak cJ (ak cJ (ak bC (ak bS (ae 0) (cI 2147483647)) (cI 48271)) (ak bC (cI 7919) (ae 1))) (cI 13)) (cI 2147483629)))
 (ao (aY 2 (ak bS (ak cJ (ak cJ (ak bC (ae 2) (ae 2)) (ak bC (cI 104729) (ae 1))) (cI 7)) (cI 2147483587)))
 (ao (retS (ak bS (ak bC (ae 2) (ae 2)) (cI 2147483579)))
 aq)))
def cT:List PV->M PV:=aZ 2 (ar 3 e6)
def dM:af->M Out :=
 (ao (tD 2 (n9 aj))
 (ao (i8 (itemsOf (ae 1)) (cX 3) (ao (tm 2 (ak bS (ae 0) (ae 3)))
 (ao (aY 0 (ak bW (ae 0) (ae 3)))
 aq)))
 (ao (vY [2] (retS (ai cW (aa (ae 2) aj))))
 aq)))
def de:List PV->M PV:=aZ 2 (ar 4 dM)
def iu:af->M Out :=
 (ao (i7 (c6 (ak jN (ak bS (ae 0) (cI 3)) (cI 0))) (ao (retS (ak cJ (cI 2) (ak bS (ak bW (ae 0) (cI 3)) (cI 359))))
 aq) aq)
 (ao (retS (ak bC (ak aS (λ_=>M.ok (.lst (([2,3,4,6,8,9,12]:List Int).map PV.int))) (ak bS (ak bW (ae 0) (cI 3)) (cI 7))) (ak aS (λ_=>M.ok (.lst (([1,2,5,10,30]:List Int).map PV.int))) (ak bS (ak bW (ae 0) (cI 21)) (cI 5)))))
 aq))
def dY:List PV->M PV:=aZ 1 (ar 1 iu)
def gy:af->M Out :=
 (ao (i7 (c6 (ak jN (ak bS (ae 0) (cI 2)) (cI 0))) (ao (retS (cq (bV (itemsOf (ai de (aa (ak bW (ae 0) (cI 12)) (aa (ak bC (ef (aa (cI 359) aj)) (ak cJ (cI 1) (ak bS (ak bW (ae 0) (cI 2)) (cI 6)))) aj)))) (cX 0) none (ak cJ (cI 2) (ae 0)) 1 [])))
 aq) aq)
 (ao (aY 1 (ak aS (λ_=>M.ok (.lst (([1,2,3,4,2,3,5,6]:List Int).map PV.int))) (ak bS (ak bW (ae 0) (cI 2)) (cI 8))))
 (ao (retS (cq (bV (jQ uj (aa (ae 1) aj)) (cX 0) none (ai dY (aa (ai cT (aa (ak bW (ae 1) (cI 16)) (aa (ae 0) aj))) aj)) 1 [0])))
 aq)))
def fX:List PV->M PV:=aZ 1 (ar 2 gy)
def eK:af->M Out :=
 (ao (jW (c6 (ak Fw (ae 1) (cI 0))) (ao (Ia 0 1 (aa (ae 1) (aa (ak bS (ae 0) (ae 1)) aj)))
 aq))
 (ao (retS (ae 0))
 aq))
def eA:List PV->M PV:=aZ 2 (ar 2 eK)
def fw:af->M Out :=
 (ao (aY 2 (ak aS (ae 1) (ak bS (ae 0) (ai c_ (aa (ae 1) aj)))))
 (ao (aY 3 (cq (bV (jQ wW (aa (cI 2) (aa (ak cJ (ae 2) (cI 1)) aj))) (cX 0) (some (c6 (ak jN (ak bS (ae 1) (ae 0)) (cI 0)))) (ae 0) 1 [2])))
 (ao (i7 (c6 (ak jN (ak bS (ak bW (ae 0) (cI 6)) (cI 4)) (cI 0))) (ao (retS (ak cJ (cI 2) (ak bS (ak bW (ae 0) (cI 24)) (cI 359))))
 aq) aq)
 (ao (retS (ak aS (ae 3) (ak bS (ak bW (ae 0) (cI 24)) (ai c_ (aa (ae 3) aj)))))
 aq))))
def fc:List PV->M PV:=aZ 2 (ar 4 fw)
def h9:af->M Out :=
 (ao (aY 3 (ai fc (aa (ae 0) (aa (ae 1) aj))))
 (ao (tD 4 (n9 aj))
 (ao (aY 5 (cI 0))
 (ao (i8 (jQ zA (aa (ae 1) aj)) (b_ 6 7) (ao (aY 8 (ai cT (aa (ae 0) (aa (ae 6) aj))))
 (ao (aY 9 (ak bC (ak bW (ae 3) (ai eA (aa (ae 7) (aa (ae 3) aj)))) (ak bS (ae 8) (cI 360))))
 (ao (aY 9 (ak cJ (ae 9) (ak bC (ak bC (ae 3) (ak jJ (ak bS (ak bW (ae 8) (cI 360)) (cI 3)) (cI 1))) (ak bS (ae 0) (ak AR (cI 10) (cI 17))))))
 (ao (tm 4 (ae 9))
 (ao (aY 5 (ak cJ (ae 5) (ak bC (ae 9) (ak aS (ae 2) (ae 6)))))
 aq))))))
 (ao (aY 10 (ak bC (ak jJ (ak bS (ak bW (ae 0) (cI 7)) (cI 3)) (cI 1)) (ak bS (ak bW (ae 0) (cI 21)) (ak AR (cI 10) (cI 17)))))
 (ao (aY 5 (ak cJ (ak bS (ae 5) (ae 3)) (ak bC (ae 3) (ae 10))))
 (ao (i7 (c6 (ak jN (ak bS (ak bW (ae 0) (cI 5)) (cI 4)) (cI 0))) (ao (aY 5 (ak cJ (ak cJ (ae 5) (cI 1)) (ak bS (ak bW (ae 0) (cI 20)) (ae 3))))
 aq) aq)
 (ao (vY [4] (retS (dD (aa (ae 4) (aa (ae 3) (aa (ae 5) aj))))))
 aq))))))))
def dk:List PV->M PV:=aZ 3 (ar 11 h9)
def jf:af->M Out :=
 (ao (i8 (itemsOf (ae 0)) (yP 2 3 4) (ao (aY 5 (ai xq (aa (cq (bV (jQ zip2 (aa (ae 2) (aa (ae 1) aj))) (b_ 0 1) none (ak bC (ae 0) (ae 1)) 2 [])) aj)))
 (ao (i7 (c6 (ak nG (ak bS (ak jJ (ae 5) (ae 4)) (ae 3)) (cI 0))) (ao (retS (λ_=>M.ok (.bl false)))
 aq) aq)
 aq)))
 (ao (retS (λ_=>M.ok (.bl true)))
 aq))
def jy:List PV->M PV:=aZ 2 (ar 6 jf)
def jx:af->M Out :=
 (ao (dy (ai f_ (aa (ae 1) aj)))
 (ao (dy (ai fe (aa (ae 2) (aa (ai c_ (aa (ae 1) aj)) aj))))
 (ao (gJ 0 ay "dial_sizes" (ai cW (aa (ae 1) aj)))
 (ao (gJ 0 ay "lever_settings" (ai cW (aa (cq (bV (itemsOf (ae 2)) (cX 0) none (ai jg (aa (ae 0) (aa (ae 1) aj))) 1 [1])) aj)))
 (ao (gJ 0 ay "lever_prices" (ai fV (aa (ae 2) (aa (ae 3) aj))))
 (ao (gJ 0 ay "least_round" (ai fg (aa (ae 1) aj)))
 aq))))))
def ff:Addr->List PV->M (List (Str×PV)):=lr 4 (oV 4 jx ay)
def bw:af->M Out :=
 (ao (retS (cv (λc=>c==ay) "dial_sizes" (ae 0)))
 aq)
def bc:List PV->M PV:=aZ 1 (ar 1 bw)
def bu:af->M Out :=
 (ao (retS (cv (λc=>c==ay) "lever_settings" (ae 0)))
 aq)
def bh:List PV->M PV:=aZ 1 (ar 1 bu)
def eL:af->M Out :=
 (ao (retS (cv (λc=>c==ay) "least_round" (ae 0)))
 aq)
def gR:List PV->M PV:=aZ 1 (ar 1 eL)
def cV:af->M Out :=
 (ao (retS (λ_=>M.ok (.bl false)))
 aq)
def bX:List PV->M PV:=aZ 1 (ar 1 cV)
def lA:af->M Out :=
 (ao (gJ 0 bU "pulls" (ae 1))
 aq)
def mI:Addr->List PV->M (List (Str×PV)):=lr 2 (oV 2 lA bU)
def gz:af->M Out :=
 (ao (retS (λ_=>M.ok (.bl true)))
 aq)
def gx:List PV->M PV:=aZ 1 (ar 1 gz)
def fE:af->M Out :=
 (ao (retS (dD (aa (λ_=>M.ok (.str "pulls")) (aa (cv (λc=>c==bU) "pulls" (ae 0)) aj))))
 aq)
def cZ:List PV->M PV:=aZ 1 (ar 1 fE)
def pQ:af->M Out :=
 (ao (gJ 0 bQ "weights" (ae 1))
 aq)
def sv:Addr->List PV->M (List (Str×PV)):=lr 2 (oV 2 pQ bQ)
def il:af->M Out :=
 (ao (retS (dD (aa (λ_=>M.ok (.str "weights")) (aa (cv (λc=>c==bQ) "weights" (ae 0)) aj))))
 aq)
def fL:List PV->M PV:=aZ 1 (ar 1 il)
def iP:af->M Out :=
 (ao (aY 1 (bP ay "sizes" bc (cv (λc=>c==aO) "vault" (ae 0)) aj))
 (ao (retS (ai cW (aa (cq (bV (jQ uj (aa (ai c_ (aa (ae 1) aj)) aj)) (cX 0) none (ai iq (aa (ae 2) (aa (cv (λc=>c==aO) "made_rows" (ae 1)) (aa (ae 0) aj)))) 1 [0,1])) aj)))
 aq))
def la:List PV->M PV:=aZ 1 (ar 2 iP)
def kj:af->M Out :=
 (ao (gJ 0 aJ "factors" (wY (c6 (se (λa=>nu a "list") oF oF (ae 1))) (ai sA (aa (ae 1) aj)) (ae 1)))
 (ao (gJ 0 aJ "number" (ae 2))
 (ao (gJ 0 aJ "rest" (ae 3))
 aq)))
def cL:Addr->List PV->M (List (Str×PV)):=lr 4 (oV 4 kj aJ)
def j2:af->M Out :=
 (ao (gJ 0 a_ "shares" (ae 1))
 aq)
def gI:Addr->List PV->M (List (Str×PV)):=lr 2 (oV 2 j2 a_)
def eN:af->M Out :=
 (ao (retS (dD (aa (λ_=>M.ok (.str "shares")) (aa (cv (λc=>c==a_) "shares" (ae 0)) aj))))
 aq)
def cS:List PV->M PV:=aZ 1 (ar 1 eN)
def i5:af->M Out :=
 (ao (retS (ak bC (dD (aa (cI 0) aj)) (ai c_ (aa (bP ay "sizes" bc (ae 0) aj) aj))))
 aq)
def jO:List PV->M PV:=aZ 1 (ar 1 i5)
def da:af->M Out :=
 (ao (aY 2 (bP ay "sizes" bc (ae 0) aj))
 (ao (i7 (y_ (gT (c6 (se (λa=>nu a "tuple") oF oF (ae 1)))) (gT (c6 (ai bM (aa (ae 1) (aa (ai c_ (aa (ae 2) aj)) aj)))))) (ao (retS (λ_=>M.ok (.bl false)))
 aq) aq)
 (ao (retS (ai qu (aa (cq (bV (jQ zip2 (aa (ae 1) (aa (ae 2) aj))) (b_ 0 1) none (lD Ew Fi (cI 0) (ae 0) (ae 1)) 2 [])) aj)))
 aq)))
def bL:List PV->M PV:=aZ 2 (ar 3 da)
def jB:af->M Out :=
 (ao (retS (tf (se (λa=>nu a "tuple") oF oF (ae 1)) (ai bM (aa (ae 1) (aa (ai c_ (aa (bP ay "levers" bh (ae 0) aj) aj)) aj)))))
 aq)
def ly:List PV->M PV:=aZ 2 (ar 2 jB)
def bp:af->M Out :=
 (ao (i7 (gT (c6 (ai bL (aa (ae 0) (aa (ae 1) aj))))) (ao (iQ aM (aa (λ_=>M.ok (.str "this is no setting of the vault")) aj))
 aq) aq)
 aq)
def aC:List PV->M PV:=aZ 2 (ar 2 bp)
def jC:af->M Out :=
 (ao (i7 (gT (c6 (ai ly (aa (ae 0) (aa (ae 1) aj))))) (ao (iQ cM (aa (λ_=>M.ok (.str "these are no pulls of the vault")) aj))
 aq) aq)
 aq)
def mD:List PV->M PV:=aZ 2 (ar 2 jC)
def pA:af->M Out :=
 (ao (aY 4 (cq (bV (jQ zip2 (aa (ae 1) (aa (ae 2) aj))) (b_ 0 1) none (ak cJ (ae 0) (ak bC (ae 2) (ae 1))) 2 [3])))
 (ao (retS (ai jg (aa (ae 4) (aa (bP ay "sizes" bc (ae 0) aj) aj))))
 aq))
def ua:List PV->M PV:=aZ 4 (ar 5 pA)
def pX:af->M Out :=
 (ao (dy (ai aC (aa (ae 0) (aa (ae 1) aj))))
 (ao (dy (ai mD (aa (ae 0) (aa (ae 2) aj))))
 (ao (aY 3 (ae 1))
 (ao (i8 (jQ zip2 (aa (bP ay "levers" bh (ae 0) aj) (aa (ae 2) aj))) (b_ 4 5) (ao (aY 3 (ai ua (aa (ae 0) (aa (ae 3) (aa (ae 4) (aa (ae 5) aj))))))
 aq))
 (ao (retS (ae 3))
 aq)))))
def vB:List PV->M PV:=aZ 3 (ar 6 pX)
def kJ:af->M Out :=
 (ao (dy (ai aC (aa (ae 0) (aa (ae 1) aj))))
 (ao (dy (ai aC (aa (ae 0) (aa (ae 2) aj))))
 (ao (retS (ai ua (aa (ae 0) (aa (ae 2) (aa (ae 1) (aa (kN (cI 1)) aj))))))
 aq)))
def nK:List PV->M PV:=aZ 3 (ar 3 kJ)
def my:af->M Out :=
 (ao (dy (ai aC (aa (ae 0) (aa (ae 1) aj))))
 (ao (dy (ai aC (aa (ae 0) (aa (ae 2) aj))))
 (ao (aY 3 (bP ay "around" gR (ae 0) aj))
 (ao (aY 4 (cq (bV (jQ zip2 (aa (ae 1) (aa (bP ay "sizes" bc (ae 0) aj) aj))) (b_ 0 1) none (ak bC (ae 0) (ak bW (ae 2) (ae 1))) 2 [3])))
 (ao (retS (ai eT (aa (ae 4) (aa (ae 2) (aa (ae 3) aj)))))
 aq)))))
def o8:List PV->M PV:=aZ 3 (ar 5 my)
def eF:af->M Out :=
 (ao (retS (ai qu (aa (cq (bV (itemsOf (bP ay "levers" bh (ae 0) aj)) (cX 0) none (ak jN (ai o8 (aa (ae 1) (aa (ae 2) (aa (ae 0) aj)))) (cI 0)) 1 [0,1])) aj)))
 aq)
def iE:List PV->M PV:=aZ 2 (ar 2 eF)
def jc:af->M Out :=
 (ao (retS (dD (aa (ae 1) (aa (ak bC (dD (aa (cI 0) aj)) (ai c_ (aa (bP ay "levers" bh (ae 0) aj) aj))) aj))))
 aq)
def lq:List PV->M PV:=aZ 2 (ar 2 jc)
def iG:af->M Out :=
 (ao (aY 2 (bP ay "levers" bh (ae 0) aj))
 (ao (retS (dD (aa (ak aS (ae 2) (ae 1)) (aa (ai qt (aa (ai c_ (aa (ae 2) aj)) (aa (ae 1) aj))) aj))))
 aq))
def k8:List PV->M PV:=aZ 2 (ar 3 iG)
def eg:af->M Out :=
 (ao (aY 2 (bP ay "sizes" bc (ae 0) aj))
 (ao (i7 (y_ (gT (c6 (se (λ_=>false) (km kG kq) (km pk pz) (ae 1)))) (gT (c6 (ai bM (aa (cv (λc=>c==aJ) "factors" (ae 1)) (aa (ai c_ (aa (ae 2) aj)) aj)))))) (ao (retS (λ_=>M.ok (.bl false)))
 aq) aq)
 (ao (i7 (y_ (gT (c6 (ai bH (aa (cv (λc=>c==aJ) "number" (ae 1)) (aa (cI 2) (aa (cI 360) aj)))))) (gT (c6 (ai cC (aa (cv (λc=>c==aJ) "rest" (ae 1)) aj))))) (ao (retS (λ_=>M.ok (.bl false)))
 aq) aq)
 (ao (retS (ai qu (aa (cq (bV (jQ zip2 (aa (cv (λc=>c==aJ) "factors" (ae 1)) (aa (ae 2) aj))) (b_ 0 1) none (ak jN (ak bS (ak bC (ae 0) (ae 1)) (cv (λc=>c==aJ) "number" (ae 2))) (cI 0)) 2 [1])) aj)))
 aq))))
def bx:List PV->M PV:=aZ 2 (ar 3 eg)
def cw:af->M Out :=
 (ao (dy (ai aC (aa (ae 0) (aa (ae 1) aj))))
 (ao (i7 (c6 (ak Fw (ai c_ (aa (ae 2) aj)) (cI 6))) (ao (iQ bo (aa (λ_=>M.ok (.str "there are at most six locks")) aj))
 aq) aq)
 (ao (i8 (jQ zA (aa (ae 2) aj)) (b_ 3 4) (ao (i7 (gT (c6 (ai bx (aa (ae 0) (aa (ae 4) aj))))) (ao (gK br "lock" (aa (ae 3) aj))
 aq) aq)
 aq))
 aq)))
def aT:List PV->M PV:=aZ 3 (ar 5 cw)
def gj:af->M Out :=
 (ao (retS (ai (cj ay ff [.bG]) (aa (cq (bV (itemsOf (ae 1)) (cX 0) none (cv (λc=>c==aJ) "number" (ae 0)) 1 [])) (aa (cq (bV (itemsOf (bP ay "levers" bh (ae 0) aj)) (cX 0) none (ai gE (aa (ae 1) (aa (ae 0) aj))) 1 [1])) aj))))
 aq)
def jl:List PV->M PV:=aZ 2 (ar 2 gj)
def rN:af->M Out :=
 (ao (dy (ai aT (aa (ae 0) (aa (ae 1) (aa (ae 2) aj)))))
 (ao (retS (ai qu (aa (cq (bV (itemsOf (ai eU (aa (ae 2) (aa (ae 1) aj)))) (cX 0) none (ak jN (ae 0) (cI 0)) 1 [])) aj)))
 aq))
def mf:List PV->M PV:=aZ 3 (ar 3 rN)
def eJ:af->M Out :=
 (ao (GJ (yP 3 4 5) (ae 1))
 (ao (aY 6 (ak bS (ae 0) (cI 12)))
 (ao (aY 7 (ef (aa (λ_=>M.ok .bG) (aa (ae 1) (aa (ai (cj aJ cL []) (aa (eV (ae 3) (dP (cI 1)) ux) (aa (ae 4) (aa (ae 5) aj)))) (aa (ai (cj aJ cL []) (aa (λ_=>M.ok (.str "factors")) (aa (ae 4) (aa (ae 5) aj)))) (aa (ai (cj aJ cL []) (aa (ak bC (ef (aa (λ_=>M.ok .bG) aj)) (ai c_ (aa (ae 2) aj))) (aa (cI 2) (aa (cI 0) aj)))) aj)))))))
 (ao (aY 7 (ak cJ (ae 7) (ef (aa (ai (cj aJ cL []) (aa (ak bC (ef (aa (λ_=>M.ok (.bl true)) aj)) (ai c_ (aa (ae 2) aj))) (aa (ae 4) (aa (ae 5) aj)))) (aa (ai (cj aJ cL []) (aa (ae 3) (aa (cI 1) (aa (ae 5) aj)))) (aa (ai (cj aJ cL []) (aa (ae 3) (aa (cI 361) (aa (ae 5) aj)))) aj))))))
 (ao (aY 7 (ak cJ (ae 7) (ef (aa (ai (cj aJ cL []) (aa (ae 3) (aa (ai Cj (aa (ae 4) aj)) (aa (ae 5) aj)))) (aa (ai (cj aJ cL []) (aa (ak bC (ef (aa (cI 0) aj)) (ai c_ (aa (ae 2) aj))) (aa (λ_=>M.ok (.bl true)) (aa (ae 5) aj)))) (aa (ai (cj aJ cL []) (aa (ae 3) (aa (ae 4) (aa (λ_=>M.ok .bG) aj)))) aj))))))
 (ao (aY 8 (ak aS (λ_=>M.ok (.lst (([2,3,5,7,11,13,17]:List Int).map PV.int))) (ak bS (ak bW (ae 0) (cI 12)) (cI 7))))
 (ao (jW (c6 (ak jN (ak bS (ak aS (ae 2) (cI 0)) (ae 8)) (cI 0))) (ao (aY 8 (ak cJ (ae 8) (cI 1)))
 aq))
 (ao (retS (ak aS (ak cJ (ae 7) (ef (aa (ai (cj aJ cL []) (aa (ak cJ (ef (aa (cI 1) aj)) (ak bC (ef (aa (cI 0) aj)) (ak jJ (ai c_ (aa (ae 2) aj)) (cI 1)))) (aa (ae 8) (aa (cI 0) aj)))) aj))) (ae 6)))
 aq))))))))
def dn:List PV->M PV:=aZ 3 (ar 9 eJ)
def ir:af->M Out :=
 (ao (i7 (c6 (ak jN (ak bS (ae 1) (cI 2)) (cI 0))) (ao (retS (ai (cj aJ cL []) (aa (ai cW (aa (ak aS (ae 0) (cI 0)) aj)) (aa (ak aS (ae 0) (cI 1)) (aa (ak aS (ae 0) (cI 2)) aj)))))
 aq) aq)
 (ao (tD 2 (B_ (ak aS (ae 0) (cI 0))))
 (ao (aY 3 (Bl 2 (ai (cj aJ cL []) (aa (ae 2) (aa (ak aS (ae 0) (cI 1)) (aa (ak aS (ae 0) (cI 2)) aj))))))
 (ao (HR 2)
 (ao (retS (ae 3))
 aq)))))
def fH:List PV->M PV:=aZ 2 (ar 4 ir)
def dN:af->M Out :=
 (ao (dy (ai aC (aa (ae 1) (aa (ae 2) aj))))
 (ao (dy (ai aC (aa (ae 1) (aa (ae 3) aj))))
 (ao (retS (λ_=>M.ok (.bl false)))
 aq)))
def bK:List PV->M PV:=aZ 4 (ar 4 dN)
def j0:af->M Out :=
 (ao (dy (ai aC (aa (ae 1) (aa (ae 2) aj))))
 (ao (dy (ai aC (aa (ae 1) (aa (ae 3) aj))))
 (ao (retS (tf (ai ly (aa (ae 1) (aa (cv (λc=>c==bU) "pulls" (ae 0)) aj))) (ak jN (ai vB (aa (ae 1) (aa (ae 2) (aa (cv (λc=>c==bU) "pulls" (ae 0)) aj)))) (ae 3))))
 aq)))
def hX:List PV->M PV:=aZ 4 (ar 4 j0)
def iD:af->M Out :=
 (ao (aY 4 (ai nK (aa (ae 1) (aa (ae 2) (aa (ae 3) aj)))))
 (ao (i7 (y_ (gT (c6 (ai bL (aa (ae 1) (aa (cv (λc=>c==bQ) "weights" (ae 0)) aj))))) (gT (c6 (ai iE (aa (ae 1) (aa (cv (λc=>c==bQ) "weights" (ae 0)) aj)))))) (ao (retS (λ_=>M.ok (.bl false)))
 aq) aq)
 (ao (retS (ak nG (ai o8 (aa (ae 1) (aa (cv (λc=>c==bQ) "weights" (ae 0)) (aa (ae 4) aj)))) (cI 0)))
 aq)))
def fM:List PV->M PV:=aZ 4 (ar 5 iD)
def mr:af->M Out :=
 (ao (aY 2 (bP ay "sizes" bc (ae 1) aj))
 (ao (aY 3 (cq (bV (itemsOf (ae 2)) (cX 0) none (ai lq (aa (ae 1) (aa (ai jO (aa (ae 1) aj)) aj))) 1 [1])))
 (ao (tD 4 (n9 aj))
 (ao (i8 (jQ uj (aa (ai c_ (aa (bP ay "levers" bh (ae 1) aj) aj)) aj)) (cX 5) (ao (aY 6 (ai pE (aa (ae 2) (aa (ae 3) (aa (ai k8 (aa (ae 1) (aa (ae 5) aj))) aj)))))
 (ao (aY 3 (ak aS (ae 6) (cI 0)))
 (ao (tm 4 (AV 4 (ai lH (aa (ak aS (ae 6) (cI 1)) (aa (ae 4) aj)))))
 aq))))
 (ao (gJ 0 aO "vault" (ae 1))
 (ao (gJ 0 aO "made_rows" (cq (bV (jQ zA (aa (ae 3) aj)) (b_ 0 1) none (ai ng (aa (ae 2) (aa (ae 3) (aa (ae 1) (aa (ak cJ (ae 0) (cI 1)) aj))))) 2 [2,3])))
 (ao (vY [4] (gJ 0 aO "idle_rows" (ae 4)))
 aq)))))))
def o3:Addr->List PV->M (List (Str×PV)):=lr 2 (oV 7 mr aO)
def cO:af->M Out :=
 (ao (dy (ai aC (aa (cv (λc=>c==aO) "vault" (ae 0)) (aa (ae 1) aj))))
 (ao (retS (ai ng (aa (bP ay "sizes" bc (cv (λc=>c==aO) "vault" (ae 0)) aj) (aa (cv (λc=>c==aO) "made_rows" (ae 0)) (aa (ai lq (aa (cv (λc=>c==aO) "vault" (ae 0)) (aa (ae 1) aj))) (aa (cI 0) aj))))))
 aq))
def dq:List PV->M PV:=aZ 2 (ar 2 cO)
def iT:af->M Out :=
 (ao (retS (ak aS (bP aO "brought_down" dq (ae 0) (aa (ae 1) aj)) (cI 0)))
 aq)
def k_:List PV->M PV:=aZ 2 (ar 2 iT)
def e9:af->M Out :=
 (ao (aY 2 (bP aO "brought_down" dq (ae 0) (aa (ae 1) aj)))
 (ao (i7 (c6 (ak nG (ak aS (ae 2) (cI 0)) (ai jO (aa (cv (λc=>c==aO) "vault" (ae 0)) aj)))) (ao (retS (λ_=>M.ok .bG))
 aq) aq)
 (ao (retS (ai lH (aa (ai cW (aa (cq (bV (itemsOf (ak aS (ae 2) (cI 1))) (cX 0) none (kN (ae 0)) 1 [])) aj)) (aa (cv (λc=>c==aO) "idle_rows" (ae 0)) aj))))
 aq)))
def iV:List PV->M PV:=aZ 2 (ar 3 e9)
def dS:af->M Out :=
 (ao (aY 2 (bP ay "sizes" bc (cv (λc=>c==aO) "vault" (ae 0)) aj))
 (ao (i7 (gT (c6 (ai bH (aa (ae 1) (aa (cI 0) (aa (ak jJ (ai c_ (aa (ae 2) aj)) (cI 1)) aj)))))) (ao (gK bY "dial" (aa (ae 1) aj))
 aq) aq)
 (ao (aY 3 (cq (bV (jQ zip2 (aa (ae 2) (aa (bP aO "steps" la (ae 0) aj) aj))) (b_ 0 1) none (ak bW (ae 0) (ae 1)) 2 [])))
 (ao (tD 4 (Jy (ef (aa (cI 0) aj)) (ai c_ (aa (ae 2) aj))))
 (ao (MG 4 (ae 1) (ak bS (ak aS (ae 3) (ae 1)) (ak aS (ae 2) (ae 1))))
 (ao (i8 (jQ BU (aa (ak jJ (ae 1) (cI 1)) (aa (kN (cI 1)) (aa (kN (cI 1)) aj)))) (cX 5) (ao (aY 6 (AV 4 (ai o8 (aa (cv (λc=>c==aO) "vault" (ae 0)) (aa (ai cW (aa (ae 4) aj)) (aa (ak aS (ak aS (cv (λc=>c==aO) "made_rows" (ae 0)) (ae 5)) (cI 0)) aj))))))
 (ao (aY 7 (ak bW (bP ay "around" gR (cv (λc=>c==aO) "vault" (ae 0)) aj) (ak aS (ae 3) (ae 5))))
 (ao (MG 4 (ae 5) (ak bS (kN (ak bW (ae 6) (ae 7))) (ak aS (ae 3) (ae 5))))
 aq))))
 (ao (vY [4] (retS (ai cW (aa (ae 4) aj))))
 aq)))))))
def gG:List PV->M PV:=aZ 2 (ar 8 dS)
def iA:af->M Out :=
 (ao (dy (ai aT (aa (ae 1) (aa (ae 2) (aa (ae 3) aj)))))
 (ao (i7 (c6 (ak jN (ai c_ (aa (ae 3) aj)) (cI 0))) (ao (retS (λ_=>M.ok (.bl false)))
 aq) aq)
 (ao (aY 4 (ai jl (aa (ae 1) (aa (ae 3) aj))))
 (ao (retS (bP bQ "shows" fM (ai (cj bQ sv []) (aa (cv (λc=>c==a_) "shares" (ae 0)) aj)) (aa (ae 4) (aa (ai jO (aa (ae 4) aj)) (aa (ai eU (aa (ae 3) (aa (ae 2) aj))) aj)))))
 aq))))
def dW:List PV->M PV:=aZ 4 (ar 5 iA)
def tJ:af->M Out :=
 (ao (aY 3 (ai nK (aa (ae 0) (aa (ae 1) (aa (ae 2) aj)))))
 (ao (aY 4 (ai (cj aO o3 []) (aa (ae 0) aj)))
 (ao (aY 5 (bP aO "pulls_to" iV (ae 4) (aa (ae 3) aj)))
 (ao (i7 (c6 (ak o5 (ae 5) (λ_=>M.ok .bG))) (ao (retS (ai (cj bU mI []) (aa (ae 5) aj)))
 aq) aq)
 (ao (retS (ai (cj bQ sv []) (aa (bP aO "weights_at" gG (ae 4) (aa (ai kh (aa (bP aO "least" k_ (ae 4) (aa (ae 3) aj)) aj)) aj)) aj)))
 aq)))))
def x9:List PV->M PV:=aZ 3 (ar 6 tJ)
def dX:af->M Out :=
 (ao (dy (ai aT (aa (ae 0) (aa (ae 1) (aa (ae 2) aj)))))
 (ao (i7 (c6 (ak jN (ai c_ (aa (ae 2) aj)) (cI 0))) (ao (retS (ai (cj bU mI []) (aa (ak bC (dD (aa (cI 0) aj)) (ai c_ (aa (bP ay "levers" bh (ae 0) aj) aj))) aj)))
 aq) aq)
 (ao (aY 3 (ai jl (aa (ae 0) (aa (ae 2) aj))))
 (ao (aY 4 (ai x9 (aa (ae 3) (aa (ai jO (aa (ae 3) aj)) (aa (ai eU (aa (ae 2) (aa (ae 1) aj))) aj)))))
 (ao (retS (wY (c6 (eY [(bU,gx),(bQ,bX),(a_,bX)] "brings" (ae 4) aj)) (ae 4) (ai (cj a_ gI []) (aa (cv (λc=>c==bQ) "weights" (ae 4)) aj))))
 aq)))))
def c8:List PV->M PV:=aZ 3 (ar 5 dX)
def iy:af->M Out :=
 (ao (retS (bP a_ "bars" dW (ai (cj a_ gI []) (aa (dD (aa (cI 0) aj)) aj)) (aa (ae 0) (aa (ae 1) (aa (ae 2) aj)))))
 aq)
def fx:List PV->M PV:=aZ 3 (ar 3 iy)
def gb:af->M Out :=
 (ao (aY 3 (ai (cj a_ gI []) (aa (ae 2) aj)))
 (ao (aY 4 (λ_=>M.ok (.bl false)))
 (ao (uH (dy (eY [(bU,hX),(bQ,fM),(a_,bK)] "shows" (ae 3) (aa (ae 0) (aa (ae 1) (aa (ak cJ (ae 1) (dD (aa (cI 0) aj))) aj))))) [(km gv fW,none,(ao (aY 4 (λ_=>M.ok (.bl true)))
 aq))])
 (ao (i7 (y_ (gT (c6 (se (λ_=>false) (km i6 iU) (km mB mj) (ae 3)))) (y_ (c6 (ak nG (cv (λc=>c==a_) "shares" (ae 3)) (ae 2))) (c6 (ak mz (eY [(bU,gx),(bQ,bX),(a_,bX)] "brings" (ae 3) aj) (λ_=>M.ok (.bl false)))))) (ao (retS (λ_=>M.ok (.bl false)))
 aq) aq)
 (ao (retS (tf (ae 4) (tf (ak A0 (eY [(bU,hX),(bQ,fM),(a_,bK)] "shows" (ae 3) (aa (ae 0) (aa (ae 1) (aa (ae 1) aj)))) (λ_=>M.ok (.bl false))) (ak jN (eY [(bU,cZ),(bQ,fL),(a_,cS)] "words" (ae 3) aj) (dD (aa (λ_=>M.ok (.str "shares")) (aa (ae 2) aj)))))))
 aq)))))
def gu:List PV->M PV:=aZ 3 (ar 5 gb)
def dZ:af->M Out :=
 (ao (aY 4 (dD (aa (λ_=>M.ok (.str "told")) (aa (λ_=>M.ok .bG) (aa (ef aj) aj)))))
 (ao (uH (dy (pW [(kY,mf),(cy,c8),(cz,fx)] (ae 0) (aa (ae 1) (aa (ae 2) (aa (ae 3) aj))))) [(km nr nN,some 5,(ao (aY 4 (dD (aa (λ_=>M.ok (.str "no lock")) (aa (Nm yB "lock" (ae 5)) (aa (ef (aa (se (λ_=>false) (km jj ju) (km jD ja) (ae 5)) (aa (se (λ_=>false) (km lR lG) (km lh lJ) (ae 5)) (aa (se (λ_=>false) (km ku kC) (km kE kI) (ae 5)) aj)))) aj)))))
 aq)),(km iN iI,some 5,(ao (aY 4 (dD (aa (F6 me "word" (ae 5)) (aa (λ_=>M.ok .bG) (aa (ef (aa (se (λ_=>false) (km mU mL) (km mX nt) (ae 5)) (aa (se (λ_=>false) (km ku kC) (km kE kI) (ae 5)) (aa (Dy (KU Nv (ae 5))) aj)))) aj)))))
 aq))])
 (ao (retS (ae 4))
 aq)))
def cx:List PV->M PV:=aZ 4 (ar 6 dZ)
def eI:af->M Out :=
 (ao (aY 6 (ak bS (ak bW (ae 3) (cI 84)) (ai c_ (aa (ae 2) aj))))
 (ao (aY 7 (eV (ae 1) (dP (ak cJ (ae 6) (cI 1))) ux))
 (ao (aY 8 (ak cJ (ak cJ (eV (ae 1) ux (dP (ae 6))) (ef (aa (ai dn (aa (ae 3) (aa (ak aS (ae 2) (ae 6)) (aa (ae 4) aj)))) aj))) (ak aS (ef (aa (ae 7) (aa (ak bC (ef (aa (λ_=>M.ok .bG) aj)) (ai c_ (aa (ae 7) aj))) aj))) (ak bS (ae 3) (cI 2)))))
 (ao (aY 9 (ak aS (ef (aa (ak bC (dD (aa (cI 0) aj)) (ak cJ (ai c_ (aa (ae 4) aj)) (cI 1))) (aa (ai cW (aa (ae 4) aj)) (aa (ai sA (aa (ae 5) aj)) (aa (λ_=>M.ok .bG) aj))))) (ak bS (ae 3) (cI 4))))
 (ao (aY 10 (ef (aa (λ_=>M.ok (.bl false)) (aa (λ_=>M.ok (.bl false)) (aa (λ_=>M.ok (.bl false)) aj)))))
 (ao (i8 (itemsOf (ef (aa (λ_=>M.ok (.fn kY)) (aa (λ_=>M.ok (.fn cy)) (aa (λ_=>M.ok (.fn cz)) aj))))) (cX 11) (ao (i7 (c6 (ak EY (ai cx (aa (ae 11) (aa (ae 0) (aa (ae 5) (aa (ae 8) aj))))) (dD (aa (λ_=>M.ok (.str "no lock")) (aa (ae 6) (aa (ae 10) aj)))))) (ao (retS (λ_=>M.ok (.bl false)))
 aq) aq)
 (ao (i7 (c6 (ak EY (ai cx (aa (ae 11) (aa (ae 0) (aa (ae 5) (aa (eV (ak bC (ae 8) (cI 7)) ux (dP (cI 7))) aj))))) (dD (aa (λ_=>M.ok (.str "too many")) (aa (λ_=>M.ok .bG) (aa (ae 10) aj)))))) (ao (retS (λ_=>M.ok (.bl false)))
 aq) aq)
 (ao (i7 (c6 (ak EY (ai cx (aa (ae 11) (aa (ae 0) (aa (ae 9) (aa (eV (ak bC (ae 8) (cI 7)) ux (dP (cI 7))) aj))))) (dD (aa (λ_=>M.ok (.str "no setting")) (aa (λ_=>M.ok .bG) (aa (ae 10) aj)))))) (ao (retS (λ_=>M.ok (.bl false)))
 aq) aq)
 aq))))
 (ao (retS (λ_=>M.ok (.bl true)))
 aq)))))))
def eH:List PV->M PV:=aZ 6 (ar 12 eI)
def CG:af->M Out :=
 (ao (aY 1 (ai fF (aa (ae 0) (aa (cI 0) aj))))
 (ao (aY 2 (ai fX (aa (ae 1) aj)))
 (ao (aY 3 (ai (cj ay ff [.bG]) (aa (ae 2) (aa (ef aj) aj))))
 (ao (aY 4 (ai cW (aa (cq (bV (jQ zA (aa (ae 2) aj)) (b_ 0 1) none (ak bS (ai cT (aa (ae 2) (aa (ak cJ (cI 50) (ae 0)) aj))) (ae 1)) 2 [1])) aj)))
 (ao (aY 5 (cq (bV (itemsOf (eV (ae 0) (dP (cI 2)) (dP (cI 8)))) (cX 0) none (ai dk (aa (ae 0) (aa (ae 1) (aa (ae 2) aj)))) 1 [2,4])))
 (ao (aY 6 (cq (bV (jQ zA (aa (ae 5) aj)) (b_ 0 1) none (ai fH (aa (ae 1) (aa (ae 0) aj))) 2 [])))
 (ao (i8 (jQ zip2 (aa (ae 6) (aa (ae 5) aj))) (b_ 7 8) (ao (i7 (y_ (c6 (ak nG (ai sA (aa (cv (λc=>c==aJ) "factors" (ae 7)) aj)) (ak aS (ae 8) (cI 0)))) (y_ (c6 (ak nG (cv (λc=>c==aJ) "number" (ae 7)) (ak aS (ae 8) (cI 1)))) (c6 (ak nG (cv (λc=>c==aJ) "rest" (ae 7)) (ak aS (ae 8) (cI 2)))))) (ao (retS (λ_=>M.ok (.bl false)))
 aq) aq)
 aq))
 (ao (i8 (itemsOf (ak cJ (ef (aa (cI 0) aj)) (eV (ae 0) (dP (cI 1)) (dP (cI 63))))) (cX 9) (ao (aY 10 (ai de (aa (ae 9) (aa (ae 2) aj))))
 (ao (i8 (itemsOf (ef (aa (ae 4) (aa (ae 10) aj)))) (cX 11) (ao (aY 12 (ai mf (aa (ae 3) (aa (ae 11) (aa (ak aS (ef (aa (ae 6) (aa (ai cW (aa (ae 6) aj)) aj))) (ak bS (ae 9) (cI 2))) aj)))))
 (ao (i7 (y_ (gT (c6 (se (λa=>nu a "bool") oF oF (ae 12)))) (c6 (ak nG (ae 12) (ai jy (aa (ae 5) (aa (ae 11) aj)))))) (ao (retS (λ_=>M.ok (.bl false)))
 aq) aq)
 aq)))
 aq)))
 (ao (i7 (gT (c6 (ai gu (aa (ae 3) (aa (ae 4) (aa (dD (aa (ae 1) (aa (λ_=>M.ok (.str "x")) aj))) aj)))))) (ao (retS (λ_=>M.ok (.bl false)))
 aq) aq)
 (ao (i7 (c6 (ak jN (ae 5) (ef aj))) (ao (retS (tf (ai mf (aa (ae 3) (aa (ae 4) (aa (dD aj) aj)))) (ak jN (eY [(bU,cZ),(bQ,fL),(a_,cS)] "words" (ai c8 (aa (ae 3) (aa (ae 4) (aa (ef aj) aj)))) aj) (dD (aa (λ_=>M.ok (.str "pulls")) (aa (dD aj) aj))))))
 aq) aq)
 (ao (retS (ai eH (aa (ae 3) (aa (ae 6) (aa (ae 5) (aa (ai fF (aa (ae 0) (aa (cI 1) aj))) (aa (ae 2) (aa (ae 4) aj))))))))
 aq)))))))))))
def rQ:List PV->M PV:=aZ 1 (ar 13 CG)
end wq
namespace wq
open PySem L2 PyProof.Rows
local macro_rules | `(tactic| walk_at "s")=>`(tactic| exact⟨rfl,rfl,rfl,by decide +kernel,rfl,by decide +kernel,by decide +kernel⟩)
local macro_rules | `(tactic| walk_at "l")=>`(tactic| first | exact .inl rfl | exact .inr rfl)
local macro_rules | `(tactic| walk_at "pp")=>`(tactic| all_goals repeat' (first | ((with_reducible show kO _ _ (tS _ (ao _ _)));refine CH ?_ ?_) | ((with_reducible show kO _ _ (tS _ aq));exact DB) | ((with_reducible show PE _ _ (tE _ (ae _)));exact vr _) | ((with_reducible show PA _ _ (tL _ (aa _ _)));refine yN ?_ ?_ (FV rfl)) | ((with_reducible show PA _ _ (tL _ aj));exact A3) | ((with_reducible show PE _ _ (tE _ (λ_=>M.ok (.int _))));first | exact Bb | exact kF (Kr (by rfl) (by assumption)) λ_=>.int _) | ((with_reducible show PE _ _ (tE _ (λ_=>M.ok (.bl _))));exact Ke) | ((with_reducible show PE _ _ (tE _ (λ_=>M.ok .bG)));exact G7) | ((with_reducible show PE _ _ (tE _ (λ_=>M.ok (.str _))));exact IQ) | ((with_reducible show PE _ _ (tE _ (ak cJ _ _)));refine mQ Fm HN ?_ ?_) | ((with_reducible show PE _ _ (tE _ (ak jJ _ _)));refine mQ Gy GL ?_ ?_) | ((with_reducible show PE _ _ (tE _ (ak bC _ _)));refine mQ DR GZ ?_ ?_) | ((with_reducible show PE _ _ (tE _ (ak bW _ _)));refine mQ C1 Ba ?_ ?_) | ((with_reducible show PE _ _ (tE _ (ak bS _ _)));refine mQ DP Ef ?_ ?_) | ((with_reducible show PE _ _ (tE _ (ak AR _ _)));refine mQ H0 DA ?_ ?_) | ((with_reducible show PE _ _ (tE _ (ak aS _ _)));refine Gf ?_ ?_ ?_) | ((with_reducible show ub _);exact λ_ _=>rfl) | ((with_reducible show PT _ _ (tT _ (c6 (ak jN _ _))));refine gM (CZ (ck.units (by assumption))) FQ ?_ ?_ (cH _)) | ((with_reducible show PE _ _ (tE _ (ak jN _ _)));refine gH (CZ (ck.units (by assumption))) FQ ?_ ?_ (cH _)) | ((with_reducible show PT _ _ (tT _ (c6 (ak nG _ _))));refine gM (Cs (ck.units (by assumption))) F0 ?_ ?_ (cH _)) | ((with_reducible show PE _ _ (tE _ (ak nG _ _)));refine gH (Cs (ck.units (by assumption))) F0 ?_ ?_ (cH _)) | ((with_reducible show PT _ _ (tT _ (c6 (ak Fi _ _))));refine gM Be w6 ?_ ?_ (cH _)) | ((with_reducible show PE _ _ (tE _ (ak Fi _ _)));refine gH Be w6 ?_ ?_ (cH _)) | ((with_reducible show PT _ _ (tT _ (c6 (ak Ew _ _))));refine gM vj pD ?_ ?_ (cH _)) | ((with_reducible show PE _ _ (tE _ (ak Ew _ _)));refine gH vj pD ?_ ?_ (cH _)) | ((with_reducible show PT _ _ (tT _ (c6 (ak Fw _ _))));refine gM Fy B2 ?_ ?_ (cH _)) | ((with_reducible show PE _ _ (tE _ (ak Fw _ _)));refine gH Fy B2 ?_ ?_ (cH _)) | ((with_reducible show PT _ _ (tT _ (c6 (ak Jf _ _))));refine gM Ga B6 ?_ ?_ (cH _)) | ((with_reducible show PE _ _ (tE _ (ak Jf _ _)));refine gH Ga B6 ?_ ?_ (cH _)) | ((with_reducible show PT _ _ (tT _ (c6 (ak Dj _ _))));refine gM Bv BL ?_ ?_ (cH _)) | ((with_reducible show PE _ _ (tE _ (ak Dj _ _)));refine gH Bv BL ?_ ?_ (cH _)) | ((with_reducible show PT _ _ (tT _ (c6 (ak o5 _ _))));refine gM xZ yS ?_ ?_ (cH _)) | ((with_reducible show PE _ _ (tE _ (ak o5 _ _)));refine gH xZ yS ?_ ?_ (cH _)) | ((with_reducible show PT _ _ (tT _ (gT _)));refine GB ?_) | ((with_reducible show PT _ _ (tT _ (c6 (ai _ _))));refine qi ?_) | ((with_reducible show PT _ _ (tT _ (c6 (se _ _ _ _))));refine qi ?_) | ((with_reducible show PT _ _ (tT _ (c6 (bP _ _ _ _ _))));refine qi ?_) | ((with_reducible show PT _ _ (tT _ (c6 (ae _))));refine qi ?_) | ((with_reducible show PS _ _ (tS _ (retS _)));refine Ij ?_) | ((with_reducible show PS _ _ (tS _ (aY _ _)));refine Hz (by assumption) rfl (by walk_at "l") ?_) | ((with_reducible show PS _ _ (tS _ (i7 _ _ _)));refine Kv ?_ ?_ ?_) | ((with_reducible show PS _ _ (tS _ (tm _ _)));refine Aa rfl (by first | exact .inl rfl | exact .inr (.inl rfl)) ?_) | ((with_reducible show PS _ _ (tS _ (tD _ _)));refine E4 (by assumption) rfl (by walk_at "l") ?_) | ((with_reducible show PE _ _ (tO _ (n9 _)));refine Ie ?_) | ((with_reducible show PS _ _ (tS _ (vY _ _)));refine Ib _ ?_) | ((with_reducible show PS _ _ (tS _ (dy _)));refine DS ?_) | ((with_reducible show PS _ _ (tS _ (iQ _ _)));refine zL.raise (by assumption) (by assumption) rfl (by rfl) ?_) | ((with_reducible show PS _ _ (tS _ (gK _ _ _)));refine oP.raise (by assumption) (by assumption) (by lia) (by assumption) rfl (by rfl) ?_) | ((with_reducible show PE _ _ (tE _ (dD _)));refine HC ?_) | ((with_reducible show PE _ _ (tE _ (ef _)));refine Cv ?_) | ((with_reducible show PE _ _ (tE _ (kN _)));refine HB ?_) | ((with_reducible show PE _ _ (tE _ (wY _ _ _)));refine GV ?_ ?_ ?_) | ((with_reducible show PE _ _ (tE _ (cv _ _ _)));refine GP ?_ (by assumption) rfl) | ((with_reducible show PE _ _ (tE _ (ai c_ _)));refine l_ zP IY (by rfl) (by assumption) PySem.boot_len ?_) | ((with_reducible show PE _ _ (tE _ (ai cW _)));refine nh rl Bz (by rfl) (by assumption) lX ?_) | ((with_reducible show PE _ _ (tE _ (ai sA _)));refine nh lW D_ (by rfl) (by assumption) pq ?_) | ((with_reducible show PE _ _ (tE _ (ai xq _)));refine l_ (zo rfl) G9 (by rfl) (by assumption) GU ?_) | ((with_reducible show PE _ _ (tE _ (ai qu _)));refine l_ (zz rfl) ID (by rfl) (by assumption) GQ ?_) | ((with_reducible show PE _ _ (tE _ (ai (cj _ _ _) _)));refine qP.make (by assumption) (by assumption) (by lia) (by rfl) (by first | assumption | exact rX) ?_) | ((with_reducible show PE _ _ (tE _ (ai _ _)));refine cm.call (by assumption) (by assumption) (by lia) (by rfl) (by first | assumption | exact rX) ?_) | ((with_reducible show PE _ _ (tE _ (bP _ _ _ _ aj)));refine fR.AQ (by assumption) (by assumption) (by lia) (by first | assumption | exact rX) ?_) | ((with_reducible show PE _ _ (tE _ (bP _ _ _ _ _)));refine fR.call (by assumption) (by assumption) (by lia) (by first | assumption | exact rX) ?_ ?_) | ((with_reducible show PT _ _ (tT _ (c6 (ak A0 _ _))));refine gM yR yK ?_ ?_ (cH _)) | ((with_reducible show PE _ _ (tE _ (ak A0 _ _)));refine gH yR yK ?_ ?_ (cH _)) | ((with_reducible show PT _ _ (tT _ (c6 (ak mz _ _))));refine gM p4 qH ?_ ?_ (cH _)) | ((with_reducible show PE _ _ (tE _ (ak mz _ _)));refine gH p4 qH ?_ ?_ (cH _)) | ((with_reducible show PT _ _ (tT _ (c6 (ak EY _ _))));refine gM (Cz (ck.units (by assumption))) Cp ?_ ?_ (cH _)) | ((with_reducible show PE _ _ (tE _ (ak EY _ _)));refine gH (Cz (ck.units (by assumption))) Cp ?_ ?_ (cH _)) | ((with_reducible show PT _ _ (tT _ (c6 (eY _ _ _ _))));refine qi ?_) | ((with_reducible show PE _ _ (tE _ (eY _ _ _ aj)));refine w8.AQ (by assumption) (by repeat' (first | exact w8.nil | refine w8.cons (by assumption) (by lia) ?_)) (by first | assumption | exact rX) ?_) | ((with_reducible show PE _ _ (tE _ (eY _ _ _ _)));refine w8.call (by assumption) (by repeat' (first | exact w8.nil | refine w8.cons (by assumption) (by lia) ?_)) (by first | assumption | exact rX) ?_ ?_)))
def top(i:Nat):Stmt:=PySem.Challenge.pw_dialvault_k57_locks_met.main.body.getD i (.Pass ⟨0,0,0,0⟩)
structure Txt (K:R5) (mg:Str->Option Value):Prop where
 md:mg "ValueError" = none
 Ka:mg "all" = none
 wO:mg "bool" = none
 cR:mg "enumerate" = none
 FY:mg "int" = none
 bb:mg "isinstance" = none
 J1:mg "len" = none
 tP:mg "list" = none
 F9:mg "max" = none
 fj:mg "range" = none
 FG:mg "str" = none
 J_:mg "sum" = none
 pb:mg "tuple" = none
 iZ:mg "zip" = none
 pS:∃ u,mg "LEAST_NUMBER" = some u/\RelV (.int 2) u
 rB:∃ u,mg "LEAST_PRICE" = some u/\RelV (.int 1) u
 tZ:∃ u,mg "LEAST_SIZE" = some u/\RelV (.int 2) u
 s_:∃ u,mg "MOST_DIALS" = some u/\RelV (.int 6) u
 rf:∃ u,mg "MOST_LEVERS" = some u/\RelV (.int 8) u
 tY:∃ u,mg "MOST_LOCKS" = some u/\RelV (.int 6) u
 qM:∃ u,mg "MOST_NUMBER" = some u/\RelV (.int 360) u
 sL:∃ u,mg "MOST_PRICE" = some u/\RelV (.int 1000) u
 vD:∃ u,mg "MOST_SIZE" = some u/\RelV (.int 360) u
 F3:iK K bQ
 sM:iK K aJ
 pB:iK K aO
 Cf:iK K a_
 l4:iK K ay
 FR:iK K bU
 zj:zL K mg cM "NoPulls"
 vp:zL K mg aM "NoSetting"
 zy:zL K mg bo "TooMany"
 qD:Jn K mg "NoLock" br nr nN
 kd:Jn K mg "NoSetting" aM gv fW
 jq:Jn K mg "VaultError" mn iN iI
 cL:Dv K mg "Lock" aJ pk pz kG kq
 qB:Dv K mg "NoGear" l9 kE kI ku kC
 uL:Dv K mg "NoLock" br mX nt mU mL
 n6:Dv K mg "NoSetting" aM jD ja jj ju
 yr:Dv K mg "Paper" oY mB mj i6 iU
 si:Dv K mg "TooMany" bo lh lJ lR lG
 yC:∀ C∈yB,dG K C/\bf K C "lock"
 jP:mg "_law_bars" = some (.ref cz)
 BK:mg "met" = some (.ref kY)
 jS:mg "open_from" = some (.ref cy)
 me:xh K "word" me
 Nq:∀ C∈Nv,dG K C/\Sb K (.ref C) (.type "ValueError")=some true
 lb:bf K bQ "weights"
 kf:bf K aJ "factors"
 kZ:bf K aJ "number"
 nS:bf K aJ "rest"
 gY:bf K aO "idle_rows"
 g_:bf K aO "made_rows"
 kW:bf K aO "vault"
 kX:bf K a_ "shares"
 gQ:bf K ay "dial_sizes"
 fS:bf K ay "least_round"
 fG:bf K ay "lever_prices"
 eE:bf K ay "lever_settings"
 oj:bf K bU "pulls"
 sO:∀ C,(C==ay)=true->iK K C/\bf K C "dial_sizes"
 zE:∀ C,(C==aJ)=true->iK K C/\bf K C "factors"
 vJ:∀ C,(C==aO)=true->iK K C/\bf K C "idle_rows"
 qV:∀ C,(C==ay)=true->iK K C/\bf K C "least_round"
 pT:∀ C,(C==ay)=true->iK K C/\bf K C "lever_prices"
 mZ:∀ C,(C==ay)=true->iK K C/\bf K C "lever_settings"
 vW:∀ C,(C==aO)=true->iK K C/\bf K C "made_rows"
 Bn:∀ C,(C==aJ)=true->iK K C/\bf K C "number"
 EB:∀ C,(C==bU)=true->iK K C/\bf K C "pulls"
 Iv:∀ C,(C==aJ)=true->iK K C/\bf K C "rest"
 Dr:∀ C,(C==a_)=true->iK K C/\bf K C "shares"
 EH:∀ C,(C==aO)=true->iK K C/\bf K C "vault"
 zM:∀ C,(C==bQ)=true->iK K C/\bf K C "weights"
local macro_rules | `(tactic| walk_at "t")=>`(tactic| (have z:=‹Txt _ _›;cases z))
variable{P:Program}{w:World}{K:R5}{mg:Str->Option Value}{base:Heap}{f:Addr}{fd:FuncData}{dv:Value}
theorem vK(F:aV K "is_whole" "is_whole" (top 12) dv f fd)(T:Txt K mg)  : aL P w K mg base (bI P w) 1 f fd ["thing"] (cP 1 cC) :=
 F.dm ["thing"] λnd _ _ _ _ _ _ hr O=>by
 unfold gL;walk_at "t";walk_at "pp";refine(lu ?_ (nL ?_));walk_at "pp";refine(m8 (T := "int") (by rfl) T.bb (f7 (v:=.ty "int") (by rfl) T.FY Hi rfl) (by decide) nA nA ?_);walk_at "pp";refine(A9 ?_);walk_at "pp";refine(m8 (T := "bool") (by rfl) T.bb (f7 (v:=.ty "bool") (by rfl) T.wO yH rfl) (by decide) nA nA ?_);walk_at "pp"
theorem vb:((["number"]:List Str)++([]:List Str)).Nodup:=by decide +kernel
theorem Ae(F:aV K "is_row" "is_row" (top 13) dv f fd)(T:Txt K mg)(OA:cm P w K mg base 1 "is_whole" 1 (ar 1 gL)):aL P w K mg base (bI P w) 2 f fd ["thing", "length"] (cP 2 bM) :=
 F.dm ["thing", "length"] λnd _ _ _ _ _ _ hr O=>by
 unfold fI;walk_at "t";walk_at "pp";refine(ke ?_ (jo ?_)).pt;walk_at "pp";refine(DI (Ts:=["list", "tuple"]) (by rfl) T.bb (BI (dj (f7 (v:=.ty "list") (by rfl) T.tP pq rfl) (dj (f7 (v:=.ty "tuple") (by rfl) T.pb lX rfl) jw))) (fun σ H R h=>⟨by show 2<=sizeLine;decide,h⟩) (by decide) nA ?_);walk_at "pp";refine(cD (bq (g:=(aH 0)) (ts:=["number"]) (fs:=[]) (js:=[]) (cl:=[]) rfl rfl rfl rfl rfl rfl .nil .nil (dg ?_) cG (λ_ _ _ _ _=>(aQ (i:=0) vb)) (λ_=>bA) bz (λ_ _ _ _ _=>?_)));walk_at "pp"
theorem zX(F:aV K "common" "common" (top 14) dv f fd)(T:Txt K mg)  : aL P w K mg base (bI P w) 1 f fd ["one", "other"] (cP 2 jR) :=
 F.dm ["one", "other", "row", "behind", "times", "rest"] λnd _ _ _ _ _ _ hr O=>by
 unfold ka;walk_at "t";walk_at "pp";refine(p5 O ?_ ?_);walk_at "pp"
theorem pG(F:aV K "multiple_of" "multiple_of" (top 15) dv f fd)(T:Txt K mg)(Px:cm P w K mg base 1 "common" 2 (ar 6 ka)):aL P w K mg base (bI P w) 2 f fd ["numbers"] (cP 1 fg) :=
 F.dm ["numbers", "multiple", "number"] λnd _ _ _ _ _ _ hr O=>by
 unfold fq;walk_at "t";walk_at "pp";refine(cF (g:=(aH 2)) O rfl (dg ?_) cG (aQ (i:=2) nd) bA ?_);walk_at "pp"
theorem rh:((["other"]:List Str)++(["place"]:List Str)).Nodup:=by decide +kernel
theorem u4(F:aV K "unit_row" "unit_row" (top 16) dv f fd)(T:Txt K mg)  : aL P w K mg base (bI P w) 1 f fd ["length", "place"] (cP 2 qt) :=
 F.dm ["length", "place"] λnd _ _ _ _ _ _ hr O=>by
 unfold lz;walk_at "t";walk_at "pp";refine(cD (bq (g:=(aH 0)) (ts:=["other"]) (fs:=["place"]) (js:=[1]) rfl rfl rfl rfl rfl rfl (.cons rfl .nil) (.cons rfl rfl (by walk_at "l") rfl rfl .nil) (i9 (by rfl) T.fj ?_) j7 (λ_ _ _ _ _=>(aQ (i:=0) rh)) (λ_=>bA) bz (λ_ _ _ _ _=>?_)));walk_at "pp"
theorem kT:((["number", "other"]:List Str)++([]:List Str)).Nodup:=by decide +kernel
theorem u5(F:aV K "rest_sum" "rest_sum" (top 17) dv f fd)(T:Txt K mg)  : aL P w K mg base (bI P w) 1 f fd ["numbers", "others", "by"] (cP 3 eT) :=
 F.dm ["numbers", "others", "by"] λnd _ _ _ _ _ _ hr O=>by
 unfold gD;walk_at "t";walk_at "pp";refine(cD (bq (g:=(fN K 2 (bg (aH 0) (bg (aH 1) fP)))) (ts:=["number", "other"]) (fs:=[]) (js:=[]) (cl:=[]) rfl rfl rfl rfl rfl rfl .nil .nil (fQ (by rfl) T.iZ ?_) dO (λ_ _ _ _ _=>(cK (n:=2) rfl (aB (aQ (i:=0) kT) (aB (aQ (i:=1) kT) bO)))) (λ_=>cb) bT (λ_ _ _ _ _=>?_)));walk_at "pp"
theorem sW(F:aV K "is_within" "is_within" (top 26) dv f fd)(T:Txt K mg)(OA:cm P w K mg base 1 "is_whole" 1 (ar 1 gL)):aL P w K mg base (bI P w) 2 f fd ["thing", "least", "most"] (cP 3 bH) :=
 F.dm ["thing", "least", "most"] λnd _ _ _ _ _ _ hr O=>by
 unfold cN;walk_at "t";walk_at "pp";refine(lu ?_ (nL ?_));walk_at "pp";refine(uP vj pD vj pD ?_ ?_ ?_);walk_at "pp"
theorem qJ(F:aV K "need_sizes" "need_sizes" (top 27) dv f fd)(T:Txt K mg)(PF:oP P w K mg base bY "NoDial" "dial")(Ol:cm P w K mg base 2 "is_within" 3 (ar 3 cN)):aL P w K mg base (bI P w) 3 f fd ["sizes"] (cP 1 f_) :=
 F.dm ["sizes", "dial", "size"] λnd _ _ _ _ _ _ hr O=>by
 unfold gq;walk_at "t";walk_at "pp";refine(cF (g:=(fN K 2 (bg (aH 1) (bg (aH 2) fP)))) O rfl (jX (by rfl) T.cR ?_) iw (cK (n:=2) rfl (aB (aQ (i:=1) nd) (aB (aQ (i:=2) nd) bO))) cb ?_);walk_at "pp"
theorem qh(F:aV K "need_levers" "need_levers" (top 28) dv f fd)(T:Txt K mg)(OE:cm P w K mg base 2 "is_row" 2 (ar 2 fI))(Qd:oP P w K mg base cf "NoLever" "lever"):aL P w K mg base (bI P w) 3 f fd ["levers", "dials"] (cP 2 fe) :=
 F.dm ["levers", "dials", "place", "lever"] λnd _ _ _ _ _ _ hr O=>by
 unfold e_;walk_at "t";walk_at "pp";refine(cF (g:=(fN K 2 (bg (aH 2) (bg (aH 3) fP)))) O rfl (jX (by rfl) T.cR ?_) iw (cK (n:=2) rfl (aB (aQ (i:=2) nd) (aB (aQ (i:=3) nd) bO))) cb ?_);walk_at "pp"
theorem qO(F:aV K "prices_for" "prices_for" (top 29) dv f fd)(T:Txt K mg)(Qe:oP P w K mg base bR "NoPrice" "lever")(Ol:cm P w K mg base 2 "is_within" 3 (ar 3 cN)):aL P w K mg base (bI P w) 3 f fd ["levers", "prices"] (cP 2 fV) :=
 F.dm ["levers", "prices", "place"] λnd _ _ _ _ _ _ hr O=>by
 unfold gm;walk_at "t";walk_at "pp";refine(cF (g:=(aH 2)) O rfl (i9 (by rfl) T.fj ?_) j7 (aQ (i:=2) nd) bA ?_);walk_at "pp";refine(l_ (Al rfl) Fs (by rfl) T.F9 Ik ?_);walk_at "pp";refine(ke ?_ (jo ?_)).pt;walk_at "pp"
theorem qg:((["number", "size"]:List Str)++([]:List Str)).Nodup:=by decide +kernel
theorem A_(F:aV K "rests" "rests" (top 30) dv f fd)(T:Txt K mg)  : aL P w K mg base (bI P w) 1 f fd ["numbers", "sizes"] (cP 2 jg) :=
 F.dm ["numbers", "sizes"] λnd _ _ _ _ _ _ hr O=>by
 unfold kA;walk_at "t";walk_at "pp";refine(cD (bq (g:=(fN K 2 (bg (aH 0) (bg (aH 1) fP)))) (ts:=["number", "size"]) (fs:=[]) (js:=[]) (cl:=[]) rfl rfl rfl rfl rfl rfl .nil .nil (fQ (by rfl) T.iZ ?_) dO (λ_ _ _ _ _=>(cK (n:=2) rfl (aB (aQ (i:=0) qg) (aB (aQ (i:=1) qg) bO)))) (λ_=>cb) bT (λ_ _ _ _ _=>?_)));walk_at "pp"
theorem pV:((["one", "two"]:List Str)++(["times", "others"]:List Str)).Nodup:=by decide +kernel
theorem Bw(F:aV K "mixed" "mixed" (top 46) dv f fd)(T:Txt K mg)  : aL P w K mg base (bI P w) 1 f fd ["row", "times", "other", "others"] (cP 4 pv) :=
 F.dm ["row", "times", "other", "others"] λnd _ _ _ _ _ _ hr O=>by
 unfold oZ;walk_at "t";walk_at "pp";refine(cD (bq (g:=(fN K 2 (bg (aH 0) (bg (aH 1) fP)))) (ts:=["one", "two"]) (fs:=["times", "others"]) (js:=[1,3]) rfl rfl rfl rfl rfl rfl (.cons rfl (.cons rfl .nil)) (.cons rfl rfl (by walk_at "l") rfl rfl (.cons rfl rfl (by walk_at "l") rfl rfl .nil)) (fQ (by rfl) T.iZ ?_) dO (λ_ _ _ _ _=>(cK (n:=2) rfl (aB (aQ (i:=0) pV) (aB (aQ (i:=1) pV) bO)))) (λ_=>cb) bT (λ_ _ _ _ _=>?_)));walk_at "pp"
theorem q_(F:aV K "mixed_made" "mixed_made" (top 47) dv f fd)(T:Txt K mg)(PY:cm P w K mg base 1 "mixed" 4 (ar 4 oZ))(Pe:cm P w K mg base 1 "rests" 2 (ar 2 kA)):aL P w K mg base (bI P w) 2 f fd ["sizes", "made", "times", "other", "others"] (cP 5 gi) :=
 F.dm ["sizes", "made", "times", "other", "others", "doing"] λnd _ _ _ _ _ _ hr O=>by
 unfold gf;walk_at "t";walk_at "pp"
theorem sQ(F:aV K "step_size" "step_size" (top 50) dv f fd)(T:Txt K mg)  : aL P w K mg base (bI P w) 1 f fd ["sizes", "made_rows", "dial"] (cP 3 iq) :=
 F.dm ["sizes", "made_rows", "dial", "notch"] λnd _ _ _ _ _ _ hr O=>by
 unfold fK;walk_at "t";walk_at "pp"
theorem uC(F:aV K "taken_in" "taken_in" (top 51) dv f fd)(T:Txt K mg)(Ou:cm P w K mg base 1 "step_size" 3 (ar 4 fK))(Px:cm P w K mg base 1 "common" 2 (ar 6 ka))(ON:cm P w K mg base 2 "mixed_made" 5 (ar 6 gf)):aL P w K mg base (bI P w) 3 f fd ["sizes", "made_rows", "left"] (cP 3 pE) :=
 F.dm ["sizes", "made_rows", "left", "wider", "dial", "made", "step", "notch", "found"] λnd _ _ _ _ _ _ hr O=>by
 unfold lx;walk_at "t";walk_at "pp";refine(cF (g:=(fN K 2 (bg (aH 4) (bg (aH 5) fP)))) O rfl (jX (by rfl) T.cR ?_) iw (cK (n:=2) rfl (aB (aQ (i:=4) nd) (aB (aQ (i:=5) nd) bO))) cb ?_);walk_at "pp"
theorem w5(F:aV K "lowered" "lowered" (top 52) dv f fd)(T:Txt K mg)(Ou:cm P w K mg base 1 "step_size" 3 (ar 4 fK))(ON:cm P w K mg base 2 "mixed_made" 5 (ar 6 gf)):aL P w K mg base (bI P w) 3 f fd ["sizes", "made_rows", "made", "first"] (cP 4 ng) :=
 F.dm ["sizes", "made_rows", "made", "first", "dial", "times"] λnd _ _ _ _ _ _ hr O=>by
 unfold kn;walk_at "t";walk_at "pp";refine(cF (g:=(aH 4)) O rfl (rG (by rfl) T.fj ?_) vt (aQ (i:=4) nd) bA ?_);walk_at "pp"
theorem uV(F:aV K "in_spans" "in_spans" (top 53) dv f fd)(T:Txt K mg)(PY:cm P w K mg base 1 "mixed" 4 (ar 4 oZ)):aL P w K mg base (bI P w) 2 f fd ["pulls", "idle_rows"] (cP 2 lH) :=
 F.dm ["pulls", "idle_rows", "lever", "row"] λnd _ _ _ _ _ _ hr O=>by
 unfold jm;walk_at "t";walk_at "pp";refine(cF (g:=(aH 2)) O rfl (rT (by rfl) T.fj ?_) vd (aQ (i:=2) nd) bA ?_);walk_at "pp"
theorem mF:((["notch"]:List Str)++([]:List Str)).Nodup:=by decide +kernel
theorem oS(F:aV K "first_turned" "first_turned" (top 55) dv f fd)(T:Txt K mg)  : aL P w K mg base (bI P w) 1 f fd ["setting"] (cP 1 kh) :=
 F.dm ["setting"] λnd _ _ _ _ _ _ hr O=>by
 unfold gF;walk_at "t";walk_at "pp";refine(CT ?_ ?_);walk_at "pp";refine(cD (bq (g:=(aH 0)) (ts:=["notch"]) (fs:=[]) (js:=[]) (cl:=[]) rfl rfl rfl rfl rfl rfl .nil .nil (dg ?_) cG (λ_ _ _ _ _=>(aQ (i:=0) mF)) (λ_=>bA) bz (λ_ _ _ _ _=>?_)));walk_at "pp"
theorem rm:((["lock"]:List Str)++(["setting"]:List Str)).Nodup:=by decide +kernel
theorem uG(F:aV K "turns_of" "turns_of" (top 64) dv f fd)(T:Txt K mg)(O3:cm P w K mg base 1 "rest_sum" 3 (ar 3 gD)):aL P w K mg base (bI P w) 2 f fd ["locks", "setting"] (cP 2 gE) :=
 F.dm ["locks", "setting"] λnd _ _ _ _ _ _ hr O=>by
 unfold gC;walk_at "t";walk_at "pp";refine(cD (bq (g:=(aH 0)) (ts:=["lock"]) (fs:=["setting"]) (js:=[1]) rfl rfl rfl rfl rfl rfl (.cons rfl .nil) (.cons rfl rfl (by walk_at "l") rfl rfl .nil) (dg ?_) cG (λ_ _ _ _ _=>(aQ (i:=0) rm)) (λ_=>bA) bz (λ_ _ _ _ _=>?_)));walk_at "pp"
theorem kR:((["lock", "turn"]:List Str)++([]:List Str)).Nodup:=by decide +kernel
theorem vg(F:aV K "wants_of" "wants_of" (top 65) dv f fd)(T:Txt K mg)(O4:cm P w K mg base 2 "turns_of" 2 (ar 2 gC)):aL P w K mg base (bI P w) 3 f fd ["locks", "setting"] (cP 2 eU) :=
 F.dm ["locks", "setting", "turns"] λnd _ _ _ _ _ _ hr O=>by
 unfold eW;walk_at "t";walk_at "pp";refine(cD (bq (g:=(fN K 2 (bg (aH 0) (bg (aH 1) fP)))) (ts:=["lock", "turn"]) (fs:=[]) (js:=[]) (cl:=[]) rfl rfl rfl rfl rfl rfl .nil .nil (fQ (by rfl) T.iZ ?_) dO (λ_ _ _ _ _=>(cK (n:=2) rfl (aB (aQ (i:=0) kR) (aB (aQ (i:=1) kR) bO)))) (λ_=>cb) bT (λ_ _ _ _ _=>?_)));walk_at "pp"
theorem t9(F:aV K "_law_cell" "_law_cell" (top 71) dv f fd)(T:Txt K mg)  : aL P w K mg base (bI P w) 1 f fd ["_law_script", "_law_k"] (cP 2 fF) :=
 F.dm ["_law_script", "_law_k"] λnd _ _ _ _ _ _ hr O=>by
 unfold ip;walk_at "t";walk_at "pp"
theorem v_(F:aV K "_law_mix" "_law_mix" (top 72) dv f fd)(T:Txt K mg)  : aL P w K mg base (bI P w) 1 f fd ["_law_cell_here", "_law_k"] (cP 2 cT) :=
 F.dm ["_law_cell_here", "_law_k", "_law_number_here"] λnd _ _ _ _ _ _ hr O=>by
 unfold e6;walk_at "t";walk_at "pp"
theorem qd(F:aV K "_law_digits" "_law_digits" (top 73) dv f fd)(T:Txt K mg)  : aL P w K mg base (bI P w) 1 f fd ["_law_cell_here", "_law_sizes_here"] (cP 2 de) :=
 F.dm ["_law_cell_here", "_law_sizes_here", "_law_row", "_law_size_here"] λnd _ _ _ _ _ _ hr O=>by
 unfold dM;walk_at "t";walk_at "pp";refine(cF (g:=(aH 3)) O rfl (dg ?_) cG (aQ (i:=3) nd) bA ?_);walk_at "pp"
theorem t5(F:aV K "_law_size" "_law_size" (top 74) dv f fd)(T:Txt K mg)  : aL P w K mg base (bI P w) 1 f fd ["_law_number_here"] (cP 1 dY) :=
 F.dm ["_law_number_here"] λnd _ _ _ _ _ _ hr O=>by
 unfold iu;walk_at "t";walk_at "pp";exact(pe [2,3,4,6,8,9,12]);walk_at "pp";exact(pe [1,2,5,10,30]);walk_at "pp"
theorem oX:((["_law_number_here"]:List Str)++([]:List Str)).Nodup:=by decide +kernel
theorem oB:((["_law_k"]:List Str)++(["_law_cell_here"]:List Str)).Nodup:=by decide +kernel
theorem qQ(F:aV K "_law_sizes" "_law_sizes" (top 75) dv f fd)(T:Txt K mg)(OD:cm P w K mg base 1 "_law_digits" 2 (ar 4 dM))(Oz:cm P w K mg base 1 "_law_mix" 2 (ar 3 e6))(PQ:cm P w K mg base 1 "_law_size" 1 (ar 1 iu)):aL P w K mg base (bI P w) 2 f fd ["_law_cell_here"] (cP 1 fX) :=
 F.dm ["_law_cell_here", "_law_many"] λnd _ _ _ _ _ _ hr O=>by
 unfold gy;walk_at "t";walk_at "pp";refine(cD (bq (g:=(aH 0)) (ts:=["_law_number_here"]) (fs:=[]) (js:=[]) (cl:=[]) rfl rfl rfl rfl rfl rfl .nil .nil (dg ?_) cG (λ_ _ _ _ _=>(aQ (i:=0) oX)) (λ_=>bA) bz (λ_ _ _ _ _=>?_)));walk_at "pp";exact(pe [1,2,3,4,2,3,5,6]);walk_at "pp";refine(cD (bq (g:=(aH 0)) (ts:=["_law_k"]) (fs:=["_law_cell_here"]) (js:=[0]) rfl rfl rfl rfl rfl rfl (.cons rfl .nil) (.cons rfl rfl (by walk_at "l") rfl rfl .nil) (i9 (by rfl) T.fj ?_) j7 (λ_ _ _ _ _=>(aQ (i:=0) oB)) (λ_=>bA) bz (λ_ _ _ _ _=>?_)));walk_at "pp"
theorem oH(F:aV K "_law_divisor" "_law_divisor" (top 76) dv f fd)(T:Txt K mg)  : aL P w K mg base (bI P w) 1 f fd ["_law_one", "_law_other"] (cP 2 eA) :=
 F.dm ["_law_one", "_law_other"] λnd _ _ _ _ _ _ hr O=>by
 unfold eK;walk_at "t";walk_at "pp";refine(p5 O ?_ ?_);walk_at "pp";refine(Gj (i:=0) (j:=1) rfl nd rfl rfl (by decide) rfl rfl ?_ ?_);walk_at "pp";exact rfl;walk_at "pp"
theorem mM:((["_law_number_here"]:List Str)++(["_law_size_here"]:List Str)).Nodup:=by decide +kernel
theorem pL(F:aV K "_law_number" "_law_number" (top 77) dv f fd)(T:Txt K mg)  : aL P w K mg base (bI P w) 1 f fd ["_law_cell_here", "_law_sizes_here"] (cP 2 fc) :=
 F.dm ["_law_cell_here", "_law_sizes_here", "_law_size_here", "_law_some"] λnd _ _ _ _ _ _ hr O=>by
 unfold fw;walk_at "t";walk_at "pp";refine(Ck (i:=3) (g:=(aH 0)) (ts:=["_law_number_here"]) (fs:=["_law_size_here"]) (js:=[2]) rfl rfl rfl rfl rfl rfl (.cons rfl .nil) (.cons rfl rfl (by walk_at "l") rfl rfl .nil) (rG (by rfl) T.fj ?_) vt (λ_ _ _ _ _=>(aQ (i:=0) mM)) (λ_=>bA) bz (λ_ _ _ _ _=>?_) (λ_ _ _ _ _=>?_) nd rfl (by walk_at "l"));walk_at "pp"
theorem uo(F:aV K "_law_lock" "_law_lock" (top 78) dv f fd)(T:Txt K mg)(Pj:cm P w K mg base 1 "_law_number" 2 (ar 4 fw))(Oz:cm P w K mg base 1 "_law_mix" 2 (ar 3 e6))(O8:cm P w K mg base 1 "_law_divisor" 2 (ar 2 eK)):aL P w K mg base (bI P w) 2 f fd ["_law_cell_here", "_law_sizes_here", "_law_setting"] (cP 3 dk) :=
 F.dm ["_law_cell_here", "_law_sizes_here", "_law_setting", "_law_number_here", "_law_factors", "_law_total", "_law_k", "_law_size_here", "_law_more", "_law_factor", "_law_far"] λnd _ _ _ _ _ _ hr O=>by
 unfold h9;walk_at "t";walk_at "pp";refine(cF (g:=(fN K 2 (bg (aH 6) (bg (aH 7) fP)))) O rfl (jX (by rfl) T.cR ?_) iw (cK (n:=2) rfl (aB (aQ (i:=6) nd) (aB (aQ (i:=7) nd) bO))) cb ?_);walk_at "pp"
theorem kS:((["_law_factor", "_law_notch"]:List Str)++([]:List Str)).Nodup:=by decide +kernel
theorem vN(F:aV K "_law_met" "_law_met" (top 79) dv f fd)(T:Txt K mg)  : aL P w K mg base (bI P w) 1 f fd ["_law_locks", "_law_setting"] (cP 2 jy) :=
 F.dm ["_law_locks", "_law_setting", "_law_factors", "_law_number_here", "_law_rest", "_law_total"] λnd _ _ _ _ _ _ hr O=>by
 unfold jf;walk_at "t";walk_at "pp";refine(cF (g:=(fN K 3 (bg (aH 2) (bg (aH 3) (bg (aH 4) fP))))) O rfl (dg ?_) cG (cK (n:=3) rfl (aB (aQ (i:=2) nd) (aB (aQ (i:=3) nd) (aB (aQ (i:=4) nd) bO)))) yJ ?_);walk_at "pp";refine(cD (bq (g:=(fN K 2 (bg (aH 0) (bg (aH 1) fP)))) (ts:=["_law_factor", "_law_notch"]) (fs:=[]) (js:=[]) (cl:=[]) rfl rfl rfl rfl rfl rfl .nil .nil (fQ (by rfl) T.iZ ?_) dO (λ_ _ _ _ _=>(cK (n:=2) rfl (aB (aQ (i:=0) kS) (aB (aQ (i:=1) kS) bO)))) (λ_=>cb) bT (λ_ _ _ _ _=>?_)));walk_at "pp"
theorem k9:bj ["self", "sizes", "levers", "prices"] ["self", "sizes", "levers", "prices"] (aE (inClass (top 25) 0)):=.of
theorem oM:((["lever"]:List Str)++(["sizes"]:List Str)).Nodup:=by decide +kernel
theorem qT(F:aV K "__init__" "Vault.__init__" (inClass (top 25) 0) dv f fd)(T:Txt K mg)(Pz:cm P w K mg base 3 "need_sizes" 1 (ar 3 gq))(Pl:cm P w K mg base 3 "need_levers" 2 (ar 4 e_))(Pe:cm P w K mg base 1 "rests" 2 (ar 2 kA))(PC:cm P w K mg base 3 "prices_for" 2 (ar 3 gm))(Pk:cm P w K mg base 2 "multiple_of" 1 (ar 3 fq)):aL P w K mg base (bI P w) 4 f fd ["self", "sizes", "levers", "prices"] (Ap 4 ay ff) :=
 F.I0 k9 (by decide) λ_ _ _ _ _ _ hr O=>by
 unfold jx;have:=k9.nd;have T2:=T;cases T2;walk_at "pp";refine(eR (i:=0) rfl (by first | exact .inl rfl | exact .inr (.inl rfl)) T.l4 T.gQ ?_);walk_at "pp";refine(eR (i:=0) rfl (by first | exact .inl rfl | exact .inr (.inl rfl)) T.l4 T.eE ?_);walk_at "pp";refine(cD (bq (g:=(aH 0)) (ts:=["lever"]) (fs:=["sizes"]) (js:=[1]) rfl rfl rfl rfl rfl rfl (.cons rfl .nil) (.cons rfl rfl (by walk_at "l") rfl rfl .nil) (dg ?_) cG (λ_ _ _ _ _=>(aQ (i:=0) oM)) (λ_=>bA) bz (λ_ _ _ _ _=>?_)));walk_at "pp";refine(eR (i:=0) rfl (by first | exact .inl rfl | exact .inr (.inl rfl)) T.l4 T.fG ?_);walk_at "pp";refine(eR (i:=0) rfl (by first | exact .inl rfl | exact .inr (.inl rfl)) T.l4 T.fS ?_);walk_at "pp"
theorem qx(F:aV K "sizes" "Vault.sizes" (inClass (top 25) 1) dv f fd)(T:Txt K mg)  : aL P w K mg base (bI P w) 1 f fd ["self"] (cP 1 bc) :=
 F.dm ["self"] λnd _ _ _ _ _ _ hr O=>by
 unfold bw;walk_at "t";walk_at "pp"
theorem oC(F:aV K "levers" "Vault.levers" (inClass (top 25) 2) dv f fd)(T:Txt K mg)  : aL P w K mg base (bI P w) 1 f fd ["self"] (cP 1 bh) :=
 F.dm ["self"] λnd _ _ _ _ _ _ hr O=>by
 unfold bu;walk_at "t";walk_at "pp"
theorem oN(F:aV K "around" "Vault.around" (inClass (top 25) 4) dv f fd)(T:Txt K mg)  : aL P w K mg base (bI P w) 1 f fd ["self"] (cP 1 gR) :=
 F.dm ["self"] λnd _ _ _ _ _ _ hr O=>by
 unfold eL;walk_at "t";walk_at "pp"
theorem jF(F:aV K "brings" "Paper.brings" (inClass (top 42) 0) dv f fd)(T:Txt K mg)  : aL P w K mg base (bI P w) 1 f fd ["self"] (cP 1 bX) :=
 F.dm ["self"] λnd _ _ _ _ _ _ hr O=>by
 unfold cV;walk_at "t";walk_at "pp"
theorem nZ:bj ["self", "pulls"] ["self", "pulls"] (aE (inClass (top 43) 0)):=.of
theorem vx(F:aV K "__init__" "Way.__init__" (inClass (top 43) 0) dv f fd)(T:Txt K mg)  : aL P w K mg base (bI P w) 1 f fd ["self", "pulls"] (Ap 2 bU mI) :=
 F.I0 nZ (by decide) λ_ _ _ _ _ _ hr O=>by
 unfold lA;have:=nZ.nd;have T2:=T;cases T2;walk_at "pp";refine(eR (i:=0) rfl (by first | exact .inl rfl | exact .inr (.inl rfl)) T.FR T.oj ?_);walk_at "pp"
theorem qY(F:aV K "brings" "Way.brings" (inClass (top 43) 1) dv f fd)(T:Txt K mg)  : aL P w K mg base (bI P w) 1 f fd ["self"] (cP 1 gx) :=
 F.dm ["self"] λnd _ _ _ _ _ _ hr O=>by
 unfold gz;walk_at "t";walk_at "pp"
theorem tK(F:aV K "words" "Way.words" (inClass (top 43) 3) dv f fd)(T:Txt K mg)  : aL P w K mg base (bI P w) 1 f fd ["self"] (cP 1 cZ) :=
 F.dm ["self"] λnd _ _ _ _ _ _ hr O=>by
 unfold fE;walk_at "t";walk_at "pp"
theorem nV:bj ["self", "weights"] ["self", "weights"] (aE (inClass (top 44) 0)):=.of
theorem u7(F:aV K "__init__" "Bar.__init__" (inClass (top 44) 0) dv f fd)(T:Txt K mg)  : aL P w K mg base (bI P w) 1 f fd ["self", "weights"] (Ap 2 bQ sv) :=
 F.I0 nV (by decide) λ_ _ _ _ _ _ hr O=>by
 unfold pQ;have:=nV.nd;have T2:=T;cases T2;walk_at "pp";refine(eR (i:=0) rfl (by first | exact .inl rfl | exact .inr (.inl rfl)) T.F3 T.lb ?_);walk_at "pp"
theorem ui(F:aV K "words" "Bar.words" (inClass (top 44) 2) dv f fd)(T:Txt K mg)  : aL P w K mg base (bI P w) 1 f fd ["self"] (cP 1 fL) :=
 F.dm ["self"] λnd _ _ _ _ _ _ hr O=>by
 unfold il;walk_at "t";walk_at "pp"
theorem nB:((["dial"]:List Str)++(["self", "sizes"]:List Str)).Nodup:=by decide +kernel
theorem pF(F:aV K "steps" "Rungs.steps" (inClass (top 54) 1) dv f fd)(T:Txt K mg)(Od:fR P w K mg base ay 1 "sizes" 1 (ar 1 bw))(Ou:cm P w K mg base 1 "step_size" 3 (ar 4 fK)):aL P w K mg base (bI P w) 2 f fd ["self"] (cP 1 la) :=
 F.dm ["self", "sizes"] λnd _ _ _ _ _ _ hr O=>by
 unfold iP;walk_at "t";walk_at "pp";refine(cD (bq (g:=(aH 0)) (ts:=["dial"]) (fs:=["self", "sizes"]) (js:=[0,1]) rfl rfl rfl rfl rfl rfl (.cons rfl (.cons rfl .nil)) (.cons rfl rfl (by walk_at "l") rfl rfl (.cons rfl rfl (by walk_at "l") rfl rfl .nil)) (i9 (by rfl) T.fj ?_) j7 (λ_ _ _ _ _=>(aQ (i:=0) nB)) (λ_=>bA) bz (λ_ _ _ _ _=>?_)));walk_at "pp"
theorem mw:bj ["self", "factors", "number", "rest"] ["self", "factors", "number", "rest"] (aE (inClass (top 61) 0)):=.of
theorem sT(F:aV K "__init__" "Lock.__init__" (inClass (top 61) 0) dv f fd)(T:Txt K mg)  : aL P w K mg base (bI P w) 1 f fd ["self", "factors", "number", "rest"] (Ap 4 aJ cL) :=
 F.I0 mw (by decide) λ_ _ _ _ _ _ hr O=>by
 unfold kj;have:=mw.nd;have T2:=T;cases T2;walk_at "pp";refine(eR (i:=0) rfl (by first | exact .inl rfl | exact .inr (.inl rfl)) T.sM T.kf ?_);walk_at "pp";refine(m8 (T := "list") (by rfl) T.bb (f7 (v:=.ty "list") (by rfl) T.tP pq rfl) (by decide) nA nA ?_);walk_at "pp";refine(eR (i:=0) rfl (by first | exact .inl rfl | exact .inr (.inl rfl)) T.sM T.kZ ?_);walk_at "pp";refine(eR (i:=0) rfl (by first | exact .inl rfl | exact .inr (.inl rfl)) T.sM T.nS ?_);walk_at "pp"
theorem lY:bj ["self", "shares"] ["self", "shares"] (aE (inClass (top 69) 0)):=.of
theorem tw(F:aV K "__init__" "Shut.__init__" (inClass (top 69) 0) dv f fd)(T:Txt K mg)  : aL P w K mg base (bI P w) 1 f fd ["self", "shares"] (Ap 2 a_ gI) :=
 F.I0 lY (by decide) λ_ _ _ _ _ _ hr O=>by
 unfold j2;have:=lY.nd;have T2:=T;cases T2;walk_at "pp";refine(eR (i:=0) rfl (by first | exact .inl rfl | exact .inr (.inl rfl)) T.Cf T.kX ?_);walk_at "pp"
theorem qK(F:aV K "words" "Shut.words" (inClass (top 69) 1) dv f fd)(T:Txt K mg)  : aL P w K mg base (bI P w) 1 f fd ["self"] (cP 1 cS) :=
 F.dm ["self"] λnd _ _ _ _ _ _ hr O=>by
 unfold eN;walk_at "t";walk_at "pp"
theorem Af(F:aV K "nought" "nought" (top 31) dv f fd)(T:Txt K mg)(Od:fR P w K mg base ay 1 "sizes" 1 (ar 1 bw)):aL P w K mg base (bI P w) 2 f fd ["vault"] (cP 1 jO) :=
 F.dm ["vault"] λnd _ _ _ _ _ _ hr O=>by
 unfold i5;walk_at "t";walk_at "pp"
theorem jH:((["notch", "size"]:List Str)++([]:List Str)).Nodup:=by decide +kernel
theorem rC(F:aV K "is_setting" "is_setting" (top 32) dv f fd)(T:Txt K mg)(Od:fR P w K mg base ay 1 "sizes" 1 (ar 1 bw))(OE:cm P w K mg base 2 "is_row" 2 (ar 2 fI)):aL P w K mg base (bI P w) 3 f fd ["vault", "thing"] (cP 2 bL) :=
 F.dm ["vault", "thing", "sizes"] λnd _ _ _ _ _ _ hr O=>by
 unfold da;walk_at "t";walk_at "pp";refine(ke ?_ (jo ?_)).pt;walk_at "pp";refine(m8 (T := "tuple") (by rfl) T.bb (f7 (v:=.ty "tuple") (by rfl) T.pb lX rfl) (by decide) nA nA ?_);walk_at "pp";refine(cD (bq (g:=(fN K 2 (bg (aH 0) (bg (aH 1) fP)))) (ts:=["notch", "size"]) (fs:=[]) (js:=[]) (cl:=[]) rfl rfl rfl rfl rfl rfl .nil .nil (fQ (by rfl) T.iZ ?_) dO (λ_ _ _ _ _=>(cK (n:=2) rfl (aB (aQ (i:=0) jH) (aB (aQ (i:=1) jH) bO)))) (λ_=>cb) bT (λ_ _ _ _ _=>?_)));walk_at "pp";refine(uP vj pD Be w6 ?_ ?_ ?_);walk_at "pp"
theorem vF(F:aV K "is_pulls" "is_pulls" (top 33) dv f fd)(T:Txt K mg)(Oe:fR P w K mg base ay 1 "levers" 1 (ar 1 bu))(OE:cm P w K mg base 2 "is_row" 2 (ar 2 fI)):aL P w K mg base (bI P w) 3 f fd ["vault", "thing"] (cP 2 ly) :=
 F.dm ["vault", "thing"] λnd _ _ _ _ _ _ hr O=>by
 unfold jB;walk_at "t";walk_at "pp";refine(lu ?_ (nL ?_));walk_at "pp";refine(m8 (T := "tuple") (by rfl) T.bb (f7 (v:=.ty "tuple") (by rfl) T.pb lX rfl) (by decide) nA nA ?_);walk_at "pp"
theorem oy(F:aV K "need_setting" "need_setting" (top 34) dv f fd)(T:Txt K mg)(OL:cm P w K mg base 3 "is_setting" 2 (ar 3 da)):aL P w K mg base (bI P w) 4 f fd ["vault", "thing"] (cP 2 aC) :=
 F.dm ["vault", "thing"] λnd _ _ _ _ _ _ hr O=>by
 unfold bp;walk_at "t";walk_at "pp"
theorem rD(F:aV K "need_pulls" "need_pulls" (top 35) dv f fd)(T:Txt K mg)(O1:cm P w K mg base 3 "is_pulls" 2 (ar 2 jB)):aL P w K mg base (bI P w) 4 f fd ["vault", "thing"] (cP 2 mD) :=
 F.dm ["vault", "thing"] λnd _ _ _ _ _ _ hr O=>by
 unfold jC;walk_at "t";walk_at "pp"
theorem pH:((["notch", "turn"]:List Str)++(["times"]:List Str)).Nodup:=by decide +kernel
theorem A7(F:aV K "added" "added" (top 36) dv f fd)(T:Txt K mg)(Od:fR P w K mg base ay 1 "sizes" 1 (ar 1 bw))(Pe:cm P w K mg base 1 "rests" 2 (ar 2 kA)):aL P w K mg base (bI P w) 2 f fd ["vault", "setting", "other", "times"] (cP 4 ua) :=
 F.dm ["vault", "setting", "other", "times", "numbers"] λnd _ _ _ _ _ _ hr O=>by
 unfold pA;walk_at "t";walk_at "pp";refine(mG (i:=4) (g:=(fN K 2 (bg (aH 0) (bg (aH 1) fP)))) (ts:=["notch", "turn"]) (fs:=["times"]) (js:=[3]) rfl rfl rfl rfl rfl rfl (.cons rfl .nil) (.cons rfl rfl (by walk_at "l") rfl rfl .nil) (fQ (by rfl) T.iZ ?_) dO (λ_ _ _ _ _=>(cK (n:=2) rfl (aB (aQ (i:=0) pH) (aB (aQ (i:=1) pH) bO)))) (λ_=>cb) bT (λ_ _ _ _ _=>?_) nd rfl (by walk_at "l"));walk_at "pp"
theorem yY(F:aV K "turned" "turned" (top 37) dv f fd)(T:Txt K mg)(Oh:cm P w K mg base 4 "need_setting" 2 (ar 2 bp))(Py:cm P w K mg base 4 "need_pulls" 2 (ar 2 jC))(Oe:fR P w K mg base ay 1 "levers" 1 (ar 1 bu))(PX:cm P w K mg base 2 "added" 4 (ar 5 pA)):aL P w K mg base (bI P w) 5 f fd ["vault", "setting", "pulls"] (cP 3 vB) :=
 F.dm ["vault", "setting", "pulls", "reached", "lever", "times"] λnd _ _ _ _ _ _ hr O=>by
 unfold pX;walk_at "t";walk_at "pp";refine(cF (g:=(fN K 2 (bg (aH 4) (bg (aH 5) fP)))) O rfl (fQ (by rfl) T.iZ ?_) dO (cK (n:=2) rfl (aB (aQ (i:=4) nd) (aB (aQ (i:=5) nd) bO))) cb ?_);walk_at "pp"
theorem xF(F:aV K "between" "between" (top 38) dv f fd)(T:Txt K mg)(Oh:cm P w K mg base 4 "need_setting" 2 (ar 2 bp))(PX:cm P w K mg base 2 "added" 4 (ar 5 pA)):aL P w K mg base (bI P w) 5 f fd ["vault", "one", "other"] (cP 3 nK) :=
 F.dm ["vault", "one", "other"] λnd _ _ _ _ _ _ hr O=>by
 unfold kJ;walk_at "t";walk_at "pp"
theorem p9:((["weight", "size"]:List Str)++(["around"]:List Str)).Nodup:=by decide +kernel
theorem Ax(F:aV K "weigh" "weigh" (top 40) dv f fd)(T:Txt K mg)(Oh:cm P w K mg base 4 "need_setting" 2 (ar 2 bp))(Ow:fR P w K mg base ay 1 "around" 1 (ar 1 eL))(Od:fR P w K mg base ay 1 "sizes" 1 (ar 1 bw))(O3:cm P w K mg base 1 "rest_sum" 3 (ar 3 gD)):aL P w K mg base (bI P w) 5 f fd ["vault", "weights", "setting"] (cP 3 o8) :=
 F.dm ["vault", "weights", "setting", "around", "worths"] λnd _ _ _ _ _ _ hr O=>by
 unfold my;walk_at "t";walk_at "pp";refine(mG (i:=4) (g:=(fN K 2 (bg (aH 0) (bg (aH 1) fP)))) (ts:=["weight", "size"]) (fs:=["around"]) (js:=[3]) rfl rfl rfl rfl rfl rfl (.cons rfl .nil) (.cons rfl rfl (by walk_at "l") rfl rfl .nil) (fQ (by rfl) T.iZ ?_) dO (λ_ _ _ _ _=>(cK (n:=2) rfl (aB (aQ (i:=0) p9) (aB (aQ (i:=1) p9) bO)))) (λ_=>cb) bT (λ_ _ _ _ _=>?_) nd rfl (by walk_at "l"));walk_at "pp"
theorem j_:((["lever"]:List Str)++(["vault", "weights"]:List Str)).Nodup:=by decide +kernel
theorem lT(F:aV K "weighs_no_lever" "weighs_no_lever" (top 41) dv f fd)(T:Txt K mg)(Oe:fR P w K mg base ay 1 "levers" 1 (ar 1 bu))(Pf:cm P w K mg base 5 "weigh" 3 (ar 5 my)):aL P w K mg base (bI P w) 6 f fd ["vault", "weights"] (cP 2 iE) :=
 F.dm ["vault", "weights"] λnd _ _ _ _ _ _ hr O=>by
 unfold eF;walk_at "t";walk_at "pp";refine(cD (bq (g:=(aH 0)) (ts:=["lever"]) (fs:=["vault", "weights"]) (js:=[0,1]) rfl rfl rfl rfl rfl rfl (.cons rfl (.cons rfl .nil)) (.cons rfl rfl (by walk_at "l") rfl rfl (.cons rfl rfl (by walk_at "l") rfl rfl .nil)) (dg ?_) cG (λ_ _ _ _ _=>(aQ (i:=0) j_)) (λ_=>bA) bz (λ_ _ _ _ _=>?_)));walk_at "pp"
theorem uI(F:aV K "unpulled" "unpulled" (top 48) dv f fd)(T:Txt K mg)(Oe:fR P w K mg base ay 1 "levers" 1 (ar 1 bu)):aL P w K mg base (bI P w) 2 f fd ["vault", "setting"] (cP 2 lq) :=
 F.dm ["vault", "setting"] λnd _ _ _ _ _ _ hr O=>by
 unfold jc;walk_at "t";walk_at "pp"
theorem qc(F:aV K "pulled_once" "pulled_once" (top 49) dv f fd)(T:Txt K mg)(Oe:fR P w K mg base ay 1 "levers" 1 (ar 1 bu))(P6:cm P w K mg base 1 "unit_row" 2 (ar 2 lz)):aL P w K mg base (bI P w) 2 f fd ["vault", "lever"] (cP 2 k8) :=
 F.dm ["vault", "lever", "levers"] λnd _ _ _ _ _ _ hr O=>by
 unfold iG;walk_at "t";walk_at "pp"
theorem oo:((["factor", "size"]:List Str)++(["thing"]:List Str)).Nodup:=by decide +kernel
theorem zh(F:aV K "is_fit" "is_fit" (top 62) dv f fd)(T:Txt K mg)(Od:fR P w K mg base ay 1 "sizes" 1 (ar 1 bw))(OE:cm P w K mg base 2 "is_row" 2 (ar 2 fI))(Ol:cm P w K mg base 2 "is_within" 3 (ar 3 cN))(OA:cm P w K mg base 1 "is_whole" 1 (ar 1 gL)):aL P w K mg base (bI P w) 3 f fd ["vault", "thing"] (cP 2 bx) :=
 F.dm ["vault", "thing", "sizes"] λnd _ _ _ _ _ _ hr O=>by
 unfold eg;walk_at "t";walk_at "pp";refine(ke ?_ (jo ?_)).pt;walk_at "pp";refine(T.cL.is (by rfl) T.bb (by rfl) ?_);walk_at "pp";refine(ke ?_ (jo ?_)).pt;walk_at "pp";refine(cD (bq (g:=(fN K 2 (bg (aH 0) (bg (aH 1) fP)))) (ts:=["factor", "size"]) (fs:=["thing"]) (js:=[1]) rfl rfl rfl rfl rfl rfl (.cons rfl .nil) (.cons rfl rfl (by walk_at "l") rfl rfl .nil) (fQ (by rfl) T.iZ ?_) dO (λ_ _ _ _ _=>(cK (n:=2) rfl (aB (aQ (i:=0) oo) (aB (aQ (i:=1) oo) bO)))) (λ_=>cb) bT (λ_ _ _ _ _=>?_)));walk_at "pp"
theorem qZ(F:aV K "need_locks" "need_locks" (top 63) dv f fd)(T:Txt K mg)(Oh:cm P w K mg base 4 "need_setting" 2 (ar 2 bp))(Qk:cm P w K mg base 3 "is_fit" 2 (ar 3 eg))(Qo:oP P w K mg base br "NoLock" "lock"):aL P w K mg base (bI P w) 5 f fd ["vault", "setting", "locks"] (cP 3 aT) :=
 F.dm ["vault", "setting", "locks", "place", "lock"] λnd _ _ _ _ _ _ hr O=>by
 unfold cw;walk_at "t";walk_at "pp";refine(cF (g:=(fN K 2 (bg (aH 3) (bg (aH 4) fP)))) O rfl (jX (by rfl) T.cR ?_) iw (cK (n:=2) rfl (aB (aQ (i:=3) nd) (aB (aQ (i:=4) nd) bO))) cb ?_);walk_at "pp"
theorem oE:((["lever"]:List Str)++(["locks"]:List Str)).Nodup:=by decide +kernel
theorem oA:((["lock"]:List Str)++([]:List Str)).Nodup:=by decide +kernel
theorem qL(F:aV K "lock_vault" "lock_vault" (top 66) dv f fd)(T:Txt K mg)(Oe:fR P w K mg base ay 1 "levers" 1 (ar 1 bu))(O4:cm P w K mg base 2 "turns_of" 2 (ar 2 gC))(OJ:qP P w K mg base ay 4 "Vault" 4 [.bG] ff):aL P w K mg base (bI P w) 6 f fd ["vault", "locks"] (cP 2 jl) :=
 F.dm ["vault", "locks"] λnd _ _ _ _ _ _ hr O=>by
 unfold gj;walk_at "t";walk_at "pp";refine(cD (bq (g:=(aH 0)) (ts:=["lock"]) (fs:=[]) (js:=[]) (cl:=[]) rfl rfl rfl rfl rfl rfl .nil .nil (dg ?_) cG (λ_ _ _ _ _=>(aQ (i:=0) oA)) (λ_=>bA) bz (λ_ _ _ _ _=>?_)));walk_at "pp";refine(cD (bq (g:=(aH 0)) (ts:=["lever"]) (fs:=["locks"]) (js:=[1]) rfl rfl rfl rfl rfl rfl (.cons rfl .nil) (.cons rfl rfl (by walk_at "l") rfl rfl .nil) (dg ?_) cG (λ_ _ _ _ _=>(aQ (i:=0) oE)) (λ_=>bA) bz (λ_ _ _ _ _=>?_)));walk_at "pp"
theorem C7:((["want"]:List Str)++([]:List Str)).Nodup:=by decide +kernel
theorem G6(F:aV K "met" "met" (top 67) dv f fd)(T:Txt K mg)(Oq:cm P w K mg base 5 "need_locks" 3 (ar 5 cw))(OB:cm P w K mg base 3 "wants_of" 2 (ar 3 eW)):aL P w K mg base (bI P w) 6 f fd ["vault", "setting", "locks"] (cP 3 mf) :=
 F.dm ["vault", "setting", "locks"] λnd _ _ _ _ _ _ hr O=>by
 unfold rN;walk_at "t";walk_at "pp";refine(cD (bq (g:=(aH 0)) (ts:=["want"]) (fs:=[]) (js:=[]) (cl:=[]) rfl rfl rfl rfl rfl rfl .nil .nil (dg ?_) cG (λ_ _ _ _ _=>(aQ (i:=0) C7)) (λ_=>bA) bz (λ_ _ _ _ _=>?_)));walk_at "pp"
theorem oR(F:aV K "_law_spoiled" "_law_spoiled" (top 81) dv f fd)(T:Txt K mg)(OS:qP P w K mg base aJ 1 "Lock" 4 [] cL):aL P w K mg base (bI P w) 3 f fd ["_law_cell_here", "_law_row", "_law_sizes_here"] (cP 3 dn) :=
 F.dm ["_law_cell_here", "_law_row", "_law_sizes_here", "_law_factors", "_law_number_here", "_law_rest", "_law_way", "_law_some", "_law_other"] λnd _ _ _ _ _ _ hr O=>by
 unfold eJ;walk_at "t";walk_at "pp";refine(GD (g:=(fN K 3 (bg (aH 3) (bg (aH 4) (bg (aH 5) fP))))) (cK (n:=3) rfl (aB (aQ (i:=3) nd) (aB (aQ (i:=4) nd) (aB (aQ (i:=5) nd) bO)))) yJ ?_);walk_at "pp";refine(eZ ?_ (gg ?_) mq);walk_at "pp";refine(nh t7 Es (by rfl) T.FG GY ?_);walk_at "pp";exact(pe [2,3,5,7,11,13,17]);walk_at "pp";refine(p5 O ?_ ?_);walk_at "pp"
theorem ur(F:aV K "_law_made" "_law_made" (top 82) dv f fd)(T:Txt K mg)(OS:qP P w K mg base aJ 1 "Lock" 4 [] cL):aL P w K mg base (bI P w) 3 f fd ["_law_row", "_law_k"] (cP 2 fH) :=
 F.dm ["_law_row", "_law_k", "_law_handed", "_law_found"] λnd _ _ _ _ _ _ hr O=>by
 unfold ir;walk_at "t";walk_at "pp";refine(D4 (by rfl) T.tP ?_);walk_at "pp";refine(Aw 2 ?_);walk_at "pp";exact(IS (i:=2) rfl (by first | exact .inl rfl | exact .inr (.inl rfl)));walk_at "pp"
theorem pP(F:aV K "shows" "Paper.shows" (inClass (top 42) 1) dv f fd)(T:Txt K mg)(Oh:cm P w K mg base 4 "need_setting" 2 (ar 2 bp)):aL P w K mg base (bI P w) 5 f fd ["self", "vault", "one", "other"] (cP 4 bK) :=
 F.dm ["self", "vault", "one", "other"] λnd _ _ _ _ _ _ hr O=>by
 unfold dN;walk_at "t";walk_at "pp"
theorem uh(F:aV K "shows" "Way.shows" (inClass (top 43) 2) dv f fd)(T:Txt K mg)(Oh:cm P w K mg base 4 "need_setting" 2 (ar 2 bp))(O1:cm P w K mg base 3 "is_pulls" 2 (ar 2 jB))(Qm:cm P w K mg base 5 "turned" 3 (ar 6 pX)):aL P w K mg base (bI P w) 6 f fd ["self", "vault", "one", "other"] (cP 4 hX) :=
 F.dm ["self", "vault", "one", "other"] λnd _ _ _ _ _ _ hr O=>by
 unfold j0;walk_at "t";walk_at "pp";refine(lu ?_ (nL ?_));walk_at "pp"
theorem sV(F:aV K "shows" "Bar.shows" (inClass (top 44) 1) dv f fd)(T:Txt K mg)(Pc:cm P w K mg base 5 "between" 3 (ar 3 kJ))(OL:cm P w K mg base 3 "is_setting" 2 (ar 3 da))(OU:cm P w K mg base 6 "weighs_no_lever" 2 (ar 2 eF))(Pf:cm P w K mg base 5 "weigh" 3 (ar 5 my)):aL P w K mg base (bI P w) 7 f fd ["self", "vault", "one", "other"] (cP 4 fM) :=
 F.dm ["self", "vault", "one", "other", "difference"] λnd _ _ _ _ _ _ hr O=>by
 unfold iD;walk_at "t";walk_at "pp";refine(ke ?_ (jo ?_)).pt;walk_at "pp"
theorem iO:bj ["self", "vault", "sizes", "made_rows", "idle_rows", "lever", "taken"] ["self", "vault"] (aE (inClass (top 54) 0)):=.of
theorem oI:((["size"]:List Str)++(["vault"]:List Str)).Nodup:=by decide +kernel
theorem jG:((["dial", "made"]:List Str)++(["sizes", "made_rows"]:List Str)).Nodup:=by decide +kernel
theorem rn(F:aV K "__init__" "Rungs.__init__" (inClass (top 54) 0) dv f fd)(T:Txt K mg)(Od:fR P w K mg base ay 1 "sizes" 1 (ar 1 bw))(OF:cm P w K mg base 2 "nought" 1 (ar 1 i5))(O5:cm P w K mg base 2 "unpulled" 2 (ar 2 jc))(Oe:fR P w K mg base ay 1 "levers" 1 (ar 1 bu))(Pm:cm P w K mg base 2 "pulled_once" 2 (ar 3 iG))(P5:cm P w K mg base 3 "taken_in" 3 (ar 9 lx))(O0:cm P w K mg base 2 "in_spans" 2 (ar 4 jm))(Pd:cm P w K mg base 3 "lowered" 4 (ar 6 kn)):aL P w K mg base (bI P w) 4 f fd ["self", "vault"] (Ap 2 aO o3) :=
 F.I0 iO (by decide) λ_ _ _ _ _ _ hr O=>by
 unfold mr;have:=iO.nd;have T2:=T;cases T2;walk_at "pp";refine(cD (bq (g:=(aH 0)) (ts:=["size"]) (fs:=["vault"]) (js:=[1]) rfl rfl rfl rfl rfl rfl (.cons rfl .nil) (.cons rfl rfl (by walk_at "l") rfl rfl .nil) (dg ?_) cG (λ_ _ _ _ _=>(aQ (i:=0) oI)) (λ_=>bA) bz (λ_ _ _ _ _=>?_)));walk_at "pp";refine(cF (g:=(aH 5)) O rfl (i9 (by rfl) T.fj ?_) j7 (aQ (i:=5) iO.nd) bA ?_);walk_at "pp";refine(yO 4 ?_);walk_at "pp";refine(eR (i:=0) rfl (by first | exact .inl rfl | exact .inr (.inl rfl)) T.pB T.kW ?_);walk_at "pp";refine(eR (i:=0) rfl (by first | exact .inl rfl | exact .inr (.inl rfl)) T.pB T.g_ ?_);walk_at "pp";refine(cD (bq (g:=(fN K 2 (bg (aH 0) (bg (aH 1) fP)))) (ts:=["dial", "made"]) (fs:=["sizes", "made_rows"]) (js:=[2,3]) rfl rfl rfl rfl rfl rfl (.cons rfl (.cons rfl .nil)) (.cons rfl rfl (by walk_at "l") rfl rfl (.cons rfl rfl (by walk_at "l") rfl rfl .nil)) (jX (by rfl) T.cR ?_) iw (λ_ _ _ _ _=>(cK (n:=2) rfl (aB (aQ (i:=0) jG) (aB (aQ (i:=1) jG) bO)))) (λ_=>cb) bT (λ_ _ _ _ _=>?_)));walk_at "pp";refine(eR (i:=0) rfl (by first | exact .inl rfl | exact .inr (.inl rfl)) T.pB T.gY ?_);walk_at "pp"
theorem jL(F:aV K "brought_down" "Rungs.brought_down" (inClass (top 54) 5) dv f fd)(T:Txt K mg)(Oh:cm P w K mg base 4 "need_setting" 2 (ar 2 bp))(O5:cm P w K mg base 2 "unpulled" 2 (ar 2 jc))(Od:fR P w K mg base ay 1 "sizes" 1 (ar 1 bw))(Pd:cm P w K mg base 3 "lowered" 4 (ar 6 kn)):aL P w K mg base (bI P w) 5 f fd ["self", "setting"] (cP 2 dq) :=
 F.dm ["self", "setting"] λnd _ _ _ _ _ _ hr O=>by
 unfold cO;walk_at "t";walk_at "pp"
theorem ql(F:aV K "least" "Rungs.least" (inClass (top 54) 6) dv f fd)(T:Txt K mg)(Oi:fR P w K mg base aO 5 "brought_down" 2 (ar 2 cO)):aL P w K mg base (bI P w) 6 f fd ["self", "setting"] (cP 2 k_) :=
 F.dm ["self", "setting"] λnd _ _ _ _ _ _ hr O=>by
 unfold iT;walk_at "t";walk_at "pp"
theorem kP:((["times"]:List Str)++([]:List Str)).Nodup:=by decide +kernel
theorem l0(F:aV K "pulls_to" "Rungs.pulls_to" (inClass (top 54) 7) dv f fd)(T:Txt K mg)(Oi:fR P w K mg base aO 5 "brought_down" 2 (ar 2 cO))(OF:cm P w K mg base 2 "nought" 1 (ar 1 i5))(O0:cm P w K mg base 2 "in_spans" 2 (ar 4 jm)):aL P w K mg base (bI P w) 6 f fd ["self", "setting"] (cP 2 iV) :=
 F.dm ["self", "setting", "made"] λnd _ _ _ _ _ _ hr O=>by
 unfold e9;walk_at "t";walk_at "pp";refine(cD (bq (g:=(aH 0)) (ts:=["times"]) (fs:=[]) (js:=[]) (cl:=[]) rfl rfl rfl rfl rfl rfl .nil .nil (dg ?_) cG (λ_ _ _ _ _=>(aQ (i:=0) kP)) (λ_=>bA) bz (λ_ _ _ _ _=>?_)));walk_at "pp"
theorem eP:((["size", "step"]:List Str)++([]:List Str)).Nodup:=by decide +kernel
theorem kL(F:aV K "weights_at" "Rungs.weights_at" (inClass (top 54) 8) dv f fd)(T:Txt K mg)(Od:fR P w K mg base ay 1 "sizes" 1 (ar 1 bw))(Ol:cm P w K mg base 2 "is_within" 3 (ar 3 cN))(PF:oP P w K mg base bY "NoDial" "dial")(Ph:fR P w K mg base aO 2 "steps" 1 (ar 2 iP))(Pf:cm P w K mg base 5 "weigh" 3 (ar 5 my))(Ow:fR P w K mg base ay 1 "around" 1 (ar 1 eL)):aL P w K mg base (bI P w) 6 f fd ["self", "dial"] (cP 2 gG) :=
 F.dm ["self", "dial", "sizes", "fills", "weights", "ahead", "weighed", "share"] λnd _ _ _ _ _ _ hr O=>by
 unfold dS;walk_at "t";walk_at "pp";refine(mG (i:=3) (g:=(fN K 2 (bg (aH 0) (bg (aH 1) fP)))) (ts:=["size", "step"]) (fs:=[]) (js:=[]) (cl:=[]) rfl rfl rfl rfl rfl rfl .nil .nil (fQ (by rfl) T.iZ ?_) dO (λ_ _ _ _ _=>(cK (n:=2) rfl (aB (aQ (i:=0) eP) (aB (aQ (i:=1) eP) bO)))) (λ_=>cb) bT (λ_ _ _ _ _=>?_) nd rfl (by walk_at "l"));walk_at "pp";refine(HY ?_ ?_);walk_at "pp";refine(FX (i:=4) rfl (by first | exact .inl rfl | exact .inr (.inl rfl)) ?_ ?_);walk_at "pp";refine(cF (g:=(aH 5)) O rfl (rT (by rfl) T.fj ?_) vd (aQ (i:=5) nd) bA ?_);walk_at "pp";refine(yO 4 ?_);walk_at "pp";refine(FX (i:=4) rfl (by first | exact .inl rfl | exact .inr (.inl rfl)) ?_ ?_);walk_at "pp"
theorem tN(F:aV K "bars" "Shut.bars" (inClass (top 69) 2) dv f fd)(T:Txt K mg)(Oq:cm P w K mg base 5 "need_locks" 3 (ar 5 cw))(OM:cm P w K mg base 6 "lock_vault" 2 (ar 2 gj))(OY:qP P w K mg base bQ 1 "Bar" 2 [] sv)(OQ:fR P w K mg base bQ 7 "shows" 4 (ar 5 iD))(OB:cm P w K mg base 3 "wants_of" 2 (ar 3 eW))(OF:cm P w K mg base 2 "nought" 1 (ar 1 i5)):aL P w K mg base (bI P w) 8 f fd ["self", "vault", "setting", "locks"] (cP 4 dW) :=
 F.dm ["self", "vault", "setting", "locks", "dials"] λnd _ _ _ _ _ _ hr O=>by
 unfold iA;walk_at "t";walk_at "pp"
theorem Bj(F:aV K "bring" "bring" (top 56) dv f fd)(T:Txt K mg)(Pc:cm P w K mg base 5 "between" 3 (ar 3 kJ))(Pr:qP P w K mg base aO 4 "Rungs" 2 [] o3)(OW:fR P w K mg base aO 6 "pulls_to" 2 (ar 3 e9))(OZ:qP P w K mg base bU 1 "Way" 2 [] mI)(OP:fR P w K mg base aO 6 "weights_at" 2 (ar 8 dS))(Pg:fR P w K mg base aO 6 "least" 2 (ar 2 iT))(Pa:cm P w K mg base 1 "first_turned" 1 (ar 1 gF))(OY:qP P w K mg base bQ 1 "Bar" 2 [] sv):aL P w K mg base (bI P w) 7 f fd ["vault", "one", "other"] (cP 3 x9) :=
 F.dm ["vault", "one", "other", "difference", "rungs", "pulls"] λnd _ _ _ _ _ _ hr O=>by
 unfold tJ;walk_at "t";walk_at "pp"
theorem tV(F:aV K "open_from" "open_from" (top 68) dv f fd)(T:Txt K mg)(Oq:cm P w K mg base 5 "need_locks" 3 (ar 5 cw))(Oe:fR P w K mg base ay 1 "levers" 1 (ar 1 bu))(OZ:qP P w K mg base bU 1 "Way" 2 [] mI)(OM:cm P w K mg base 6 "lock_vault" 2 (ar 2 gj))(OB:cm P w K mg base 3 "wants_of" 2 (ar 3 eW))(OF:cm P w K mg base 2 "nought" 1 (ar 1 i5))(QB:cm P w K mg base 7 "bring" 3 (ar 6 tJ))(OK:fR P w K mg base bU 1 "brings" 1 (ar 1 gz))(OH:fR P w K mg base bQ 1 "brings" 1 (ar 1 cV))(OC:fR P w K mg base a_ 1 "brings" 1 (ar 1 cV))(Ot:qP P w K mg base a_ 1 "Shut" 2 [] gI):aL P w K mg base (bI P w) 8 f fd ["vault", "setting", "locks"] (cP 3 c8) :=
 F.dm ["vault", "setting", "locks", "dials", "paper"] λnd _ _ _ _ _ _ hr O=>by
 unfold dX;walk_at "t";walk_at "pp"
theorem ue(F:aV K "_law_bars" "_law_bars" (top 83) dv f fd)(T:Txt K mg)(Ot:qP P w K mg base a_ 1 "Shut" 2 [] gI)(PJ:fR P w K mg base a_ 8 "bars" 4 (ar 5 iA)):aL P w K mg base (bI P w) 9 f fd ["_law_vault", "_law_setting", "_law_locks"] (cP 3 fx) :=
 F.dm ["_law_vault", "_law_setting", "_law_locks"] λnd _ _ _ _ _ _ hr O=>by
 unfold iy;walk_at "t";walk_at "pp"
theorem qR(F:aV K "_law_paper" "_law_paper" (top 84) dv f fd)(T:Txt K mg)(Ot:qP P w K mg base a_ 1 "Shut" 2 [] gI)(PK:fR P w K mg base bU 6 "shows" 4 (ar 4 j0))(OQ:fR P w K mg base bQ 7 "shows" 4 (ar 5 iD))(Pt:fR P w K mg base a_ 5 "shows" 4 (ar 4 dN))(OK:fR P w K mg base bU 1 "brings" 1 (ar 1 gz))(OH:fR P w K mg base bQ 1 "brings" 1 (ar 1 cV))(OC:fR P w K mg base a_ 1 "brings" 1 (ar 1 cV))(OT:fR P w K mg base bU 1 "words" 1 (ar 1 fE))(OR:fR P w K mg base bQ 1 "words" 1 (ar 1 il))(OI:fR P w K mg base a_ 1 "words" 1 (ar 1 eN)):aL P w K mg base (bI P w) 8 f fd ["_law_vault", "_law_setting", "_law_shares"] (cP 3 gu) :=
 F.dm ["_law_vault", "_law_setting", "_law_shares", "_law_shut", "_law_refused_here"] λnd _ _ _ _ _ _ hr O=>by
 unfold gb;walk_at "t";walk_at "pp";refine(CA rfl rfl (λpn E2 O2=>(x_ ?_)) (.Fv (by rfl) T.kd.mg (by decide) T.kd.ok (λea=>?_) .nil));walk_at "pp";refine(ke ?_ (ke ?_ (jo ?_))).pt;walk_at "pp";refine(T.yr.is (by rfl) T.bb (by rfl) ?_);walk_at "pp";refine(lu ?_ (lu ?_ (nL ?_)));walk_at "pp"
theorem uq(F:aV K "_law_told" "_law_told" (top 80) dv f fd)(T:Txt K mg)(Ql:cm P w K mg base 6 "met" 3 (ar 3 rN))(OG:cm P w K mg base 8 "open_from" 3 (ar 5 dX))(O7:cm P w K mg base 9 "_law_bars" 3 (ar 3 iy)):aL P w K mg base (bI P w) 10 f fd ["_law_call", "_law_vault", "_law_setting", "_law_locks"] (cP 4 cx) :=
 F.dm ["_law_call", "_law_vault", "_law_setting", "_law_locks", "_law_told_here", "e"] λnd _ _ _ _ _ _ hr O=>by
 unfold dZ;walk_at "t";walk_at "pp";refine(CA rfl rfl (λpn E2 O2=>(x_ ?_)) (.CW (i:=5) (by rfl) T.qD.mg (by decide) nd rfl rfl T.qD.ok (λea=>?_) (.CW (i:=5) (by rfl) T.jq.mg (by decide) nd rfl rfl T.jq.ok (λea=>?_) .nil)));walk_at "pp";refine(An.call hr (An.cons Ql T.BK (by lia) (An.cons OG T.jS (by lia) (An.cons O7 T.jP (by lia) An.nil))) O2 ?_ ?_);walk_at "pp";refine(Ky ?_ T.yC rfl);walk_at "pp";refine(T.n6.is (by rfl) T.bb (by rfl) ?_);walk_at "pp";refine(T.si.is (by rfl) T.bb (by rfl) ?_);walk_at "pp";refine(T.qB.is (by rfl) T.bb (by rfl) ?_);walk_at "pp";refine(DF hr (by lia) T.me ?_);walk_at "pp";refine(T.uL.is (by rfl) T.bb (by rfl) ?_);walk_at "pp";refine(T.qB.is (by rfl) T.bb (by rfl) ?_);walk_at "pp";refine(A9 ?_);walk_at "pp";refine(EI (by rfl) T.bb (f7 (v:=.ty "ValueError") (by rfl) T.md qX rfl) T.Nq ?_);walk_at "pp"
theorem oG(F:aV K "_law_refused" "_law_refused" (top 85) dv f fd)(T:Txt K mg)(O_:cm P w K mg base 3 "_law_spoiled" 3 (ar 9 eJ))(PR:cm P w K mg base 10 "_law_told" 4 (ar 6 dZ)):aL P w K mg base (bI P w) 11 f fd ["_law_vault", "_law_locks", "_law_rows", "_law_cell_here", "_law_sizes_here", "_law_setting"] (cP 6 eH) :=
 F.dm ["_law_vault", "_law_locks", "_law_rows", "_law_cell_here", "_law_sizes_here", "_law_setting", "_law_at", "_law_behind", "_law_wrong", "_law_bad", "_law_none", "_law_call"] λnd _ _ _ _ _ _ hr O=>by
 unfold eI;walk_at "t";walk_at "pp";refine(eZ ?_ (gg ?_) mq);walk_at "pp";refine(eZ ?_ mq (gg ?_));walk_at "pp";refine(cF (g:=(aH 11)) O rfl (dg ?_) cG (aQ (i:=11) nd) bA ?_);walk_at "pp";exact(Ay T.BK (by rfl));walk_at "pp";exact(Ay T.jS (by rfl));walk_at "pp";exact(Ay T.jP (by rfl));walk_at "pp";refine(eZ ?_ mq (gg ?_));walk_at "pp";refine(eZ ?_ mq (gg ?_));walk_at "pp"
theorem vz:((["_law_k", "_law_size_here"]:List Str)++(["_law_first"]:List Str)).Nodup:=by decide +kernel
theorem B4:((["_law_cell_here"]:List Str)++(["_law_sizes_here", "_law_setting"]:List Str)).Nodup:=by decide +kernel
theorem va:((["_law_k", "_law_row"]:List Str)++([]:List Str)).Nodup:=by decide +kernel
theorem G8(F:aV K "law" "law" (top 86) dv f fd)(T:Txt K mg)(PL:cm P w K mg base 1 "_law_cell" 2 (ar 2 ip))(Pw:cm P w K mg base 2 "_law_sizes" 1 (ar 2 gy))(OJ:qP P w K mg base ay 4 "Vault" 4 [.bG] ff)(Oz:cm P w K mg base 1 "_law_mix" 2 (ar 3 e6))(PM:cm P w K mg base 2 "_law_lock" 3 (ar 11 h9))(PN:cm P w K mg base 3 "_law_made" 2 (ar 4 ir))(OD:cm P w K mg base 1 "_law_digits" 2 (ar 4 dM))(Ql:cm P w K mg base 6 "met" 3 (ar 3 rN))(P4:cm P w K mg base 1 "_law_met" 2 (ar 6 jf))(Pu:cm P w K mg base 8 "_law_paper" 3 (ar 5 gb))(OT:fR P w K mg base bU 1 "words" 1 (ar 1 fE))(OR:fR P w K mg base bQ 1 "words" 1 (ar 1 il))(OI:fR P w K mg base a_ 1 "words" 1 (ar 1 eN))(OG:cm P w K mg base 8 "open_from" 3 (ar 5 dX))(O9:cm P w K mg base 11 "_law_refused" 6 (ar 12 eI)):aL P w K mg base (bI P w) 12 f fd ["_law_script"] (cP 1 rQ) :=
 F.dm ["_law_script", "_law_first", "_law_sizes_here", "_law_vault", "_law_setting", "_law_rows", "_law_locks", "_law_lock_here", "_law_row", "_law_cell_here", "_law_other", "_law_one", "_law_found"] λnd _ _ _ _ _ _ hr O=>by
 unfold CG;walk_at "t";walk_at "pp";refine(cD (bq (g:=(fN K 2 (bg (aH 0) (bg (aH 1) fP)))) (ts:=["_law_k", "_law_size_here"]) (fs:=["_law_first"]) (js:=[1]) rfl rfl rfl rfl rfl rfl (.cons rfl .nil) (.cons rfl rfl (by walk_at "l") rfl rfl .nil) (jX (by rfl) T.cR ?_) iw (λ_ _ _ _ _=>(cK (n:=2) rfl (aB (aQ (i:=0) vz) (aB (aQ (i:=1) vz) bO)))) (λ_=>cb) bT (λ_ _ _ _ _=>?_)));walk_at "pp";refine(mG (i:=5) (g:=(aH 0)) (ts:=["_law_cell_here"]) (fs:=["_law_sizes_here", "_law_setting"]) (js:=[2,4]) rfl rfl rfl rfl rfl rfl (.cons rfl (.cons rfl .nil)) (.cons rfl rfl (by walk_at "l") rfl rfl (.cons rfl rfl (by walk_at "l") rfl rfl .nil)) (dg ?_) cG (λ_ _ _ _ _=>(aQ (i:=0) B4)) (λ_=>bA) bz (λ_ _ _ _ _=>?_) nd rfl (by walk_at "l"));walk_at "pp";refine(eZ ?_ (gg ?_) (gg ?_));walk_at "pp";refine(mG (i:=6) (g:=(fN K 2 (bg (aH 0) (bg (aH 1) fP)))) (ts:=["_law_k", "_law_row"]) (fs:=[]) (js:=[]) (cl:=[]) rfl rfl rfl rfl rfl rfl .nil .nil (jX (by rfl) T.cR ?_) iw (λ_ _ _ _ _=>(cK (n:=2) rfl (aB (aQ (i:=0) va) (aB (aQ (i:=1) va) bO)))) (λ_=>cb) bT (λ_ _ _ _ _=>?_) nd rfl (by walk_at "l"));walk_at "pp";refine(cF (g:=(fN K 2 (bg (aH 7) (bg (aH 8) fP)))) O rfl (fQ (by rfl) T.iZ ?_) dO (cK (n:=2) rfl (aB (aQ (i:=7) nd) (aB (aQ (i:=8) nd) bO))) cb ?_);walk_at "pp";refine(ke ?_ (ke ?_ (jo ?_))).pt;walk_at "pp";refine(cF (g:=(aH 9)) O rfl (dg ?_) cG (aQ (i:=9) nd) bA ?_);walk_at "pp";refine(eZ ?_ (gg ?_) (gg ?_));walk_at "pp";refine(cF (g:=(aH 11)) O rfl (dg ?_) cG (aQ (i:=11) nd) bA ?_);walk_at "pp";refine(ke ?_ (jo ?_)).pt;walk_at "pp";refine(m8 (T := "bool") (by rfl) T.bb (f7 (v:=.ty "bool") (by rfl) T.wO yH rfl) (by decide) nA nA ?_);walk_at "pp";refine(lu ?_ (nL ?_));walk_at "pp"
end wq
namespace wq
open PySem L2 PyProof.Rows
open PySem.W (nsIn findIn codeIn keepIn isFn mroIn specialIn takesIn hasDictIn typeIn plainGet plainOver makesIn mg_of mg_none_of fnOf excIn clsIn)
abbrev κ(w:World):R5:=HD.K w.params
variable(w:World)
abbrev Jd:Value:=HD.st "dialvault.wholes" 450
abbrev vn:Value:=HD.st "dialvault.vault" 498
abbrev wu:Value:=HD.st "dialvault.rungs" 827
abbrev CJ:Value:=HD.st "dialvault.locks" 1013
abbrev wm:Value:=HD.st "law_dialvault_k57_locks_met" 1149
abbrev md5:Value:=HD.st "dialvault.papers" 677
abbrev Bt:Value:=HD.st "dialvault.errors" 194
def iJ:FuncData:=fnOf "__init__" "Vault.__init__" (iz (inClass (top 25) 0)) (dC (inClass (top 25) 0)) (aE (inClass (top 25) 0)) (.ref 272) .none .none vn none (.ref 276) .none
theorem l5:aV (κ w) "__init__" "Vault.__init__" (inClass (top 25) 0) (.ref 272) 277 iJ:=.of (by kernel_rfl) (by kernel_rfl) (by kernel_rfl)
def jT:FuncData:=oU "__init__" "Way.__init__" (inClass (top 43) 0) md5 455
theorem xM:aV (κ w) "__init__" "Way.__init__" (inClass (top 43) 0) .none 456 jT:=.of (by kernel_rfl) (by kernel_rfl) (by kernel_rfl)
theorem xC:Binds (κ w) jT ["self", "pulls"] []:=Binds.all (F2 λ_ _=>rfl)
def kl:FuncData:=oU "__init__" "Bar.__init__" (inClass (top 44) 0) md5 495
theorem wI:aV (κ w) "__init__" "Bar.__init__" (inClass (top 44) 0) .none 496 kl:=.of (by kernel_rfl) (by kernel_rfl) (by kernel_rfl)
theorem xn:Binds (κ w) kl ["self", "weights"] []:=Binds.all (F2 λ_ _=>rfl)
def jb:FuncData:=oU "__init__" "Lock.__init__" (inClass (top 61) 0) CJ 663
theorem vR:aV (κ w) "__init__" "Lock.__init__" (inClass (top 61) 0) .none 664 jb:=.of (by kernel_rfl) (by kernel_rfl) (by kernel_rfl)
theorem wg:Binds (κ w) jb ["self", "factors", "number", "rest"] []:=Binds.all (NF λ_ _ _ _=>rfl)
def jv:FuncData:=oU "__init__" "Shut.__init__" (inClass (top 69) 0) CJ 723
theorem v9:aV (κ w) "__init__" "Shut.__init__" (inClass (top 69) 0) .none 724 jv:=.of (by kernel_rfl) (by kernel_rfl) (by kernel_rfl)
theorem uO:Binds (κ w) jv ["self", "shares"] []:=Binds.all (F2 λ_ _=>rfl)
def iF:FuncData:=oU "__init__" "Rungs.__init__" (inClass (top 54) 0) wu 580
theorem uv:aV (κ w) "__init__" "Rungs.__init__" (inClass (top 54) 0) .none 581 iF:=.of (by kernel_rfl) (by kernel_rfl) (by kernel_rfl)
theorem tQ:Binds (κ w) iF ["self", "vault"] []:=Binds.all (F2 λ_ _=>rfl)
def wA:FuncData:=oU "law" "law" (top 86) wm 846
theorem Jl:aV (κ w) "law" "law" (top 86) .none 847 wA:=.of (by kernel_rfl) (by kernel_rfl) (by kernel_rfl)
theorem dR:dG (κ w) cM:=⟨(by kernel_rfl),(by kernel_rfl),(by kernel_rfl),(by kernel_rfl),(by kernel_rfl),(by kernel_rfl),(by kernel_rfl),(by kernel_rfl),(by kernel_rfl)⟩
theorem c9:dG (κ w) aM:=⟨(by kernel_rfl),(by kernel_rfl),(by kernel_rfl),(by kernel_rfl),(by kernel_rfl),(by kernel_rfl),(by kernel_rfl),(by kernel_rfl),(by kernel_rfl)⟩
theorem dQ:dG (κ w) bo:=⟨(by kernel_rfl),(by kernel_rfl),(by kernel_rfl),(by kernel_rfl),(by kernel_rfl),(by kernel_rfl),(by kernel_rfl),(by kernel_rfl),(by kernel_rfl)⟩
theorem d_:dG (κ w) bY:=⟨(by kernel_rfl),(by kernel_rfl),(by kernel_rfl),(by kernel_rfl),(by kernel_rfl),(by kernel_rfl),(by kernel_rfl),(by kernel_rfl),(by kernel_rfl)⟩
def h_:FuncData:=oU "__init__" "NoDial.__init__" (inClass (top 3) 0) Bt 54
theorem MS:(κ w).lookup 55=some ⟨.type "function", none,.func h_,⟨[]⟩⟩:=by kernel_rfl
theorem Nk:codeIn (κ w) (.ref 54) "NoDial.__init__" = true:=by kernel_rfl
theorem xN:Binds (κ w) h_ ["self", "dial"] []:=Binds.all (F2 λ_ _=>rfl)
theorem xD:bj ["self", "dial"] ["self", "dial"] (aE (inClass (top 3) 0)):=.of
theorem Lp:((clsIn (κ w) 65).any λcd=>fu cd.mro)=true:=by kernel_rfl
theorem Mw:findIn (κ w) (.ref 65) "dial" = some none:=by kernel_rfl
theorem wJ{P:Program}{w:World}{mg:Str->Option Value}{base:Heap}:aL P w (κ w) mg base (bI P w) 1 55 h_ ["self", "dial"] (xi (κ w) bY "dial") :=
 mH (n0 := "self") (n1 := "dial") (fl := "dial") (MS w) (Nk w) xD (d_ w) (Lp w) (Mw w) (by first | exact .inl rfl | exact .inr (.inl rfl)) (by first | exact .inl rfl | exact .inr (.inl rfl)) (by decide) (by decide) (by decide) (by decide) (λ_=>rfl)
theorem dr:dG (κ w) cf:=⟨(by kernel_rfl),(by kernel_rfl),(by kernel_rfl),(by kernel_rfl),(by kernel_rfl),(by kernel_rfl),(by kernel_rfl),(by kernel_rfl),(by kernel_rfl)⟩
def gp:FuncData:=oU "__init__" "NoLever.__init__" (inClass (top 4) 0) Bt 80
theorem Lw:(κ w).lookup 81=some ⟨.type "function", none,.func gp,⟨[]⟩⟩:=by kernel_rfl
theorem LY:codeIn (κ w) (.ref 80) "NoLever.__init__" = true:=by kernel_rfl
theorem vH:Binds (κ w) gp ["self", "lever"] []:=Binds.all (F2 λ_ _=>rfl)
theorem vo:bj ["self", "lever"] ["self", "lever"] (aE (inClass (top 4) 0)):=.of
theorem LL:((clsIn (κ w) 91).any λcd=>fu cd.mro)=true:=by kernel_rfl
theorem Ma:findIn (κ w) (.ref 91) "lever" = some none:=by kernel_rfl
theorem vQ{P:Program}{w:World}{mg:Str->Option Value}{base:Heap}:aL P w (κ w) mg base (bI P w) 1 81 gp ["self", "lever"] (xi (κ w) cf "lever") :=
 mH (n0 := "self") (n1 := "lever") (fl := "lever") (Lw w) (LY w) vo (dr w) (LL w) (Ma w) (by first | exact .inl rfl | exact .inr (.inl rfl)) (by first | exact .inl rfl | exact .inr (.inl rfl)) (by decide) (by decide) (by decide) (by decide) (λ_=>rfl)
theorem dE:dG (κ w) br:=⟨(by kernel_rfl),(by kernel_rfl),(by kernel_rfl),(by kernel_rfl),(by kernel_rfl),(by kernel_rfl),(by kernel_rfl),(by kernel_rfl),(by kernel_rfl)⟩
def ij:FuncData:=oU "__init__" "NoLock.__init__" (inClass (top 10) 0) Bt 215
theorem MI:(κ w).lookup 216=some ⟨.type "function", none,.func ij,⟨[]⟩⟩:=by kernel_rfl
theorem M3:codeIn (κ w) (.ref 215) "NoLock.__init__" = true:=by kernel_rfl
theorem xu:Binds (κ w) ij ["self", "lock"] []:=Binds.all (F2 λ_ _=>rfl)
theorem xj:bj ["self", "lock"] ["self", "lock"] (aE (inClass (top 10) 0)):=.of
theorem L_:((clsIn (κ w) 226).any λcd=>fu cd.mro)=true:=by kernel_rfl
theorem Na:findIn (κ w) (.ref 226) "lock" = some none:=by kernel_rfl
theorem wM{P:Program}{w:World}{mg:Str->Option Value}{base:Heap}:aL P w (κ w) mg base (bI P w) 1 216 ij ["self", "lock"] (xi (κ w) br "lock") :=
 mH (n0 := "self") (n1 := "lock") (fl := "lock") (MI w) (M3 w) xj (dE w) (L_ w) (Na w) (by first | exact .inl rfl | exact .inr (.inl rfl)) (by first | exact .inl rfl | exact .inr (.inl rfl)) (by decide) (by decide) (by decide) (by decide) (λ_=>rfl)
theorem dz:dG (κ w) bR:=⟨(by kernel_rfl),(by kernel_rfl),(by kernel_rfl),(by kernel_rfl),(by kernel_rfl),(by kernel_rfl),(by kernel_rfl),(by kernel_rfl),(by kernel_rfl)⟩
def f9:FuncData:=oU "__init__" "NoPrice.__init__" (inClass (top 5) 0) Bt 106
theorem LO:(κ w).lookup 107=some ⟨.type "function", none,.func f9,⟨[]⟩⟩:=by kernel_rfl
theorem M9:codeIn (κ w) (.ref 106) "NoPrice.__init__" = true:=by kernel_rfl
theorem uU:Binds (κ w) f9 ["self", "lever"] []:=Binds.all (F2 λ_ _=>rfl)
theorem vO:bj ["self", "lever"] ["self", "lever"] (aE (inClass (top 5) 0)):=.of
theorem Ln:((clsIn (κ w) 117).any λcd=>fu cd.mro)=true:=by kernel_rfl
theorem MK:findIn (κ w) (.ref 117) "lever" = some none:=by kernel_rfl
theorem vv{P:Program}{w:World}{mg:Str->Option Value}{base:Heap}:aL P w (κ w) mg base (bI P w) 1 107 f9 ["self", "lever"] (xi (κ w) bR "lever") :=
 mH (n0 := "self") (n1 := "lever") (fl := "lever") (LO w) (M9 w) vO (dz w) (Ln w) (MK w) (by first | exact .inl rfl | exact .inr (.inl rfl)) (by first | exact .inl rfl | exact .inr (.inl rfl)) (by decide) (by decide) (by decide) (by decide) (λ_=>rfl)
theorem nO:iK (κ w) bQ:=⟨(by kernel_rfl),(by kernel_rfl),(by kernel_rfl),(by kernel_rfl)⟩
theorem l7:iK (κ w) aJ:=⟨(by kernel_rfl),(by kernel_rfl),(by kernel_rfl),(by kernel_rfl)⟩
theorem dI:iK (κ w) aO:=⟨(by kernel_rfl),(by kernel_rfl),(by kernel_rfl),(by kernel_rfl)⟩
theorem jn:iK (κ w) a_:=⟨(by kernel_rfl),(by kernel_rfl),(by kernel_rfl),(by kernel_rfl)⟩
theorem eG:iK (κ w) ay:=⟨(by kernel_rfl),(by kernel_rfl),(by kernel_rfl),(by kernel_rfl)⟩
theorem nv:iK (κ w) bU:=⟨(by kernel_rfl),(by kernel_rfl),(by kernel_rfl),(by kernel_rfl)⟩
theorem Jo:findIn (κ w) (.ref 513) "weights" = some none:=by kernel_rfl
theorem JJ:findIn (κ w) (.ref 667) "factors" = some none:=by kernel_rfl
theorem JO:findIn (κ w) (.ref 667) "number" = some none:=by kernel_rfl
theorem Kb:findIn (κ w) (.ref 667) "rest" = some none:=by kernel_rfl
theorem Jr:findIn (κ w) (.ref 634) "idle_rows" = some none:=by kernel_rfl
theorem Ju:findIn (κ w) (.ref 634) "made_rows" = some none:=by kernel_rfl
theorem Jt:findIn (κ w) (.ref 634) "vault" = some none:=by kernel_rfl
theorem Kn:findIn (κ w) (.ref 741) "shares" = some none:=by kernel_rfl
theorem KJ:findIn (κ w) (.ref 308) "dial_sizes" = some none:=by kernel_rfl
theorem J7:findIn (κ w) (.ref 308) "least_round" = some none:=by kernel_rfl
theorem JZ:findIn (κ w) (.ref 308) "lever_prices" = some none:=by kernel_rfl
theorem JH:findIn (κ w) (.ref 308) "lever_settings" = some none:=by kernel_rfl
theorem JD:findIn (κ w) (.ref 480) "pulls" = some none:=by kernel_rfl
theorem Ml:nsIn (κ w) mainGlobals "LEAST_NUMBER" = some (some (.int 2 1017)):=by kernel_rfl
theorem M7:nsIn (κ w) mainGlobals "LEAST_PRICE" = some (some (.int 1 508)):=by kernel_rfl
theorem Mf:nsIn (κ w) mainGlobals "LEAST_SIZE" = some (some (.int 2 502)):=by kernel_rfl
theorem LB:nsIn (κ w) mainGlobals "MOST_DIALS" = some (some (.int 6 500)):=by kernel_rfl
theorem Lm:nsIn (κ w) mainGlobals "MOST_LEVERS" = some (some (.int 8 506)):=by kernel_rfl
theorem ME:nsIn (κ w) mainGlobals "MOST_LOCKS" = some (some (.int 6 1015)):=by kernel_rfl
theorem M6:nsIn (κ w) mainGlobals "MOST_NUMBER" = some (some (.int 360 1019)):=by kernel_rfl
theorem MO:nsIn (κ w) mainGlobals "MOST_PRICE" = some (some (.int 1000 510)):=by kernel_rfl
theorem Mm:nsIn (κ w) mainGlobals "MOST_SIZE" = some (some (.int 360 504)):=by kernel_rfl
theorem Mo:nsIn (κ w) mainGlobals "NoLock" = some (some (.ref 226)):=by kernel_rfl
theorem Nc:rM (λC=>UI (κ w) (.ref C) (.ref br)) nr nN=true:=by kernel_rfl
theorem Mp:nsIn (κ w) mainGlobals "NoSetting" = some (some (.ref 136)):=by kernel_rfl
theorem MD:rM (λC=>UI (κ w) (.ref C) (.ref aM)) gv fW=true:=by kernel_rfl
theorem Ms:nsIn (κ w) mainGlobals "VaultError" = some (some (.ref 38)):=by kernel_rfl
theorem MU:rM (λC=>UI (κ w) (.ref C) (.ref mn)) iN iI=true:=by kernel_rfl
theorem Bu:mO (κ w) bQ:=⟨nO w,(by kernel_rfl),(by kernel_rfl),(by kernel_rfl),(by kernel_rfl)⟩
theorem yu:mO (κ w) aJ:=⟨l7 w,(by kernel_rfl),(by kernel_rfl),(by kernel_rfl),(by kernel_rfl)⟩
theorem vy:mO (κ w) aO:=⟨dI w,(by kernel_rfl),(by kernel_rfl),(by kernel_rfl),(by kernel_rfl)⟩
theorem yt:mO (κ w) a_:=⟨jn w,(by kernel_rfl),(by kernel_rfl),(by kernel_rfl),(by kernel_rfl)⟩
theorem vm:mO (κ w) ay:=⟨eG w,(by kernel_rfl),(by kernel_rfl),(by kernel_rfl),(by kernel_rfl)⟩
theorem CY:mO (κ w) bU:=⟨nv w,(by kernel_rfl),(by kernel_rfl),(by kernel_rfl),(by kernel_rfl)⟩
theorem Mr:nsIn (κ w) mainGlobals "Lock" = some (some (.ref 667)):=by kernel_rfl
theorem LD:(uD.all λa=>Sb (κ w) (.type a) (.ref aJ)==some false)=true:=by kernel_rfl
theorem LP:rM (λC=>Sb (κ w) (.ref C) (.ref aJ)) kG kq=true:=by kernel_rfl
theorem Lx:rM (λC=>Sb (κ w) (.ref C) (.ref aJ)) pk pz=true:=by kernel_rfl
theorem MQ:nsIn (κ w) mainGlobals "NoGear" = some (some (.ref 200)):=by kernel_rfl
theorem Lk:(uD.all λa=>Sb (κ w) (.type a) (.ref l9)==some false)=true:=by kernel_rfl
theorem MV:rM (λC=>Sb (κ w) (.ref C) (.ref l9)) ku kC=true:=by kernel_rfl
theorem Me:rM (λC=>Sb (κ w) (.ref C) (.ref l9)) kE kI=true:=by kernel_rfl
theorem LV:nsIn (κ w) mainGlobals "NoLock" = some (some (.ref 226)):=by kernel_rfl
theorem MN:(uD.all λa=>Sb (κ w) (.type a) (.ref br)==some false)=true:=by kernel_rfl
theorem Mt:rM (λC=>Sb (κ w) (.ref C) (.ref br)) mU mL=true:=by kernel_rfl
theorem L9:rM (λC=>Sb (κ w) (.ref C) (.ref br)) mX nt=true:=by kernel_rfl
theorem L6:nsIn (κ w) mainGlobals "NoSetting" = some (some (.ref 136)):=by kernel_rfl
theorem LG:(uD.all λa=>Sb (κ w) (.type a) (.ref aM)==some false)=true:=by kernel_rfl
theorem Lr:rM (λC=>Sb (κ w) (.ref C) (.ref aM)) jj ju=true:=by kernel_rfl
theorem Nj:rM (λC=>Sb (κ w) (.ref C) (.ref aM)) jD ja=true:=by kernel_rfl
theorem L5:nsIn (κ w) mainGlobals "Paper" = some (some (.ref 438)):=by kernel_rfl
theorem Mn:(uD.all λa=>Sb (κ w) (.type a) (.ref oY)==some false)=true:=by kernel_rfl
theorem MJ:rM (λC=>Sb (κ w) (.ref C) (.ref oY)) i6 iU=true:=by kernel_rfl
theorem Lj:rM (λC=>Sb (κ w) (.ref C) (.ref oY)) mB mj=true:=by kernel_rfl
theorem LX:nsIn (κ w) mainGlobals "TooMany" = some (some (.ref 174)):=by kernel_rfl
theorem LW:(uD.all λa=>Sb (κ w) (.type a) (.ref bo)==some false)=true:=by kernel_rfl
theorem Lo:rM (λC=>Sb (κ w) (.ref C) (.ref bo)) lR lG=true:=by kernel_rfl
theorem Nl:rM (λC=>Sb (κ w) (.ref C) (.ref bo)) lh lJ=true:=by kernel_rfl
theorem M1:findIn (κ w) (.ref br) "lock" = some none:=by kernel_rfl
def ji:FuncData:=oU "word" "TooMany.word" (inClass (top 8) 0) Bt 170
theorem oq:aV (κ w) "word" "TooMany.word" (inClass (top 8) 0) .none 171 ji:=.of (by kernel_rfl) (by kernel_rfl) (by kernel_rfl)
theorem vA:Binds (κ w) ji ["self"] []:=Binds.all (Gs λ_=>rfl)
theorem ve:bj ["self"] ["self"] (aE (inClass (top 8) 0)):=.of
def gP:FuncData:=oU "word" "NoSetting.word" (inClass (top 6) 0) Bt 132
theorem kU:aV (κ w) "word" "NoSetting.word" (inClass (top 6) 0) .none 133 gP:=.of (by kernel_rfl) (by kernel_rfl) (by kernel_rfl)
theorem qS:Binds (κ w) gP ["self"] []:=Binds.all (Gs λ_=>rfl)
theorem qW:bj ["self"] ["self"] (aE (inClass (top 6) 0)):=.of
def i_:FuncData:=oU "word" "NoPulls.word" (inClass (top 7) 0) Bt 151
theorem og:aV (κ w) "word" "NoPulls.word" (inClass (top 7) 0) .none 152 i_:=.of (by kernel_rfl) (by kernel_rfl) (by kernel_rfl)
theorem vT:Binds (κ w) i_ ["self"] []:=Binds.all (Gs λ_=>rfl)
theorem uT:bj ["self"] ["self"] (aE (inClass (top 7) 0)):=.of
def jh:FuncData:=oU "word" "NoPrice.word" (inClass (top 5) 1) Bt 113
theorem oa:aV (κ w) "word" "NoPrice.word" (inClass (top 5) 1) .none 114 jh:=.of (by kernel_rfl) (by kernel_rfl) (by kernel_rfl)
theorem vq:Binds (κ w) jh ["self"] []:=Binds.all (Gs λ_=>rfl)
theorem vS:bj ["self"] ["self"] (aE (inClass (top 5) 1)):=.of
def jY:FuncData:=oU "word" "NoLock.word" (inClass (top 10) 1) Bt 222
theorem qE:aV (κ w) "word" "NoLock.word" (inClass (top 10) 1) .none 223 jY:=.of (by kernel_rfl) (by kernel_rfl) (by kernel_rfl)
theorem wN:Binds (κ w) jY ["self"] []:=Binds.all (Gs λ_=>rfl)
theorem xI:bj ["self"] ["self"] (aE (inClass (top 10) 1)):=.of
def je:FuncData:=oU "word" "NoLever.word" (inClass (top 4) 1) Bt 87
theorem nY:aV (κ w) "word" "NoLever.word" (inClass (top 4) 1) .none 88 je:=.of (by kernel_rfl) (by kernel_rfl) (by kernel_rfl)
theorem vh:Binds (κ w) je ["self"] []:=Binds.all (Gs λ_=>rfl)
theorem v7:bj ["self"] ["self"] (aE (inClass (top 4) 1)):=.of
def j4:FuncData:=oU "word" "NoDial.word" (inClass (top 3) 1) Bt 61
theorem qF:aV (κ w) "word" "NoDial.word" (inClass (top 3) 1) .none 62 j4:=.of (by kernel_rfl) (by kernel_rfl) (by kernel_rfl)
theorem xw:Binds (κ w) j4 ["self"] []:=Binds.all (Gs λ_=>rfl)
theorem xv:bj ["self"] ["self"] (aE (inClass (top 3) 1)):=.of
theorem ML:(κ w).lookup 272=some (HD.tu [.none]):=by kernel_rfl
theorem sY:Binds (κ w) iJ ["self", "sizes", "levers", "prices"] [.none]:=(l5 w).binds (ML w) rfl λ_ _ _ _ _ _ us hl=>by obtain⟨a,b,c,rfl⟩:=NC (show _=3 from (by simpa using hl));exact⟨_,rfl,rfl⟩
variable{h:Heap}
theorem txt{w:World}{mg:Str->Option Value}(X:YL (κ w) h)(G:h.Ns mainGlobals mg):Txt (κ w) mg where
 md:=mg_none_of X G (by kernel_rfl)
 Ka:=mg_none_of X G (by kernel_rfl)
 wO:=mg_none_of X G (by kernel_rfl)
 cR:=mg_none_of X G (by kernel_rfl)
 FY:=mg_none_of X G (by kernel_rfl)
 bb:=mg_none_of X G (by kernel_rfl)
 J1:=mg_none_of X G (by kernel_rfl)
 tP:=mg_none_of X G (by kernel_rfl)
 F9:=mg_none_of X G (by kernel_rfl)
 fj:=mg_none_of X G (by kernel_rfl)
 FG:=mg_none_of X G (by kernel_rfl)
 J_:=mg_none_of X G (by kernel_rfl)
 pb:=mg_none_of X G (by kernel_rfl)
 iZ:=mg_none_of X G (by kernel_rfl)
 pS:=⟨_,mg_of X G (Ml w),⟨_,rfl⟩⟩
 rB:=⟨_,mg_of X G (M7 w),⟨_,rfl⟩⟩
 tZ:=⟨_,mg_of X G (Mf w),⟨_,rfl⟩⟩
 s_:=⟨_,mg_of X G (LB w),⟨_,rfl⟩⟩
 rf:=⟨_,mg_of X G (Lm w),⟨_,rfl⟩⟩
 tY:=⟨_,mg_of X G (ME w),⟨_,rfl⟩⟩
 qM:=⟨_,mg_of X G (M6 w),⟨_,rfl⟩⟩
 sL:=⟨_,mg_of X G (MO w),⟨_,rfl⟩⟩
 vD:=⟨_,mg_of X G (Mm w),⟨_,rfl⟩⟩
 F3:=nO w
 sM:=l7 w
 pB:=dI w
 Cf:=jn w
 l4:=eG w
 FR:=nv w
 zj:=⟨(by kernel_rfl),dR w,(by kernel_rfl),(by kernel_rfl),mg_of X G (by kernel_rfl)⟩
 vp:=⟨(by kernel_rfl),c9 w,(by kernel_rfl),(by kernel_rfl),mg_of X G (by kernel_rfl)⟩
 zy:=⟨(by kernel_rfl),dQ w,(by kernel_rfl),(by kernel_rfl),mg_of X G (by kernel_rfl)⟩
 qD:=.of (mg_of X G (Mo w)) (Nc w)
 kd:=.of (mg_of X G (Mp w)) (MD w)
 jq:=.of (mg_of X G (Ms w)) (MU w)
 cL:=.of (mg_of X G (Mr w)) (LD w) (LP w) (Lx w) (gB (yu w) fy) (gB (Bu w) (gB (vy w) (gB (yt w) (gB (vm w) (gB (CY w) fy))))) fy fy
 qB:=.of (mg_of X G (MQ w)) (Lk w) (MV w) (Me w) fy fy fy (gB (d_ w) (gB (dr w) (gB (dE w) (gB (dz w) (gB (dR w) (gB (c9 w) (gB (dQ w) fy)))))))
 uL:=.of (mg_of X G (LV w)) (MN w) (Mt w) (L9 w) fy fy (gB (dE w) fy) (gB (d_ w) (gB (dr w) (gB (dz w) (gB (dR w) (gB (c9 w) (gB (dQ w) fy))))))
 n6:=.of (mg_of X G (L6 w)) (LG w) (Lr w) (Nj w) fy fy (gB (c9 w) fy) (gB (d_ w) (gB (dr w) (gB (dE w) (gB (dz w) (gB (dR w) (gB (dQ w) fy))))))
 yr:=.of (mg_of X G (L5 w)) (Mn w) (MJ w) (Lj w) (gB (Bu w) (gB (yt w) (gB (CY w) fy))) (gB (yu w) (gB (vy w) (gB (vm w) fy))) fy fy
 si:=.of (mg_of X G (LX w)) (LW w) (Lo w) (Nl w) fy fy (gB (dQ w) fy) (gB (d_ w) (gB (dr w) (gB (dE w) (gB (dz w) (gB (dR w) (gB (c9 w) fy))))))
 yC:=(gB ⟨dE w,(M1 w)⟩ fy)
 jP:=mg_of X G (by kernel_rfl)
 BK:=mg_of X G (by kernel_rfl)
 jS:=mg_of X G (by kernel_rfl)
 me:=(xh.cons ⟨d_ w,62,j4, "self", "NoDial.word", (inClass (top 3) 1),_,_,_,.none,⟨(by kernel_rfl),(by kernel_rfl),(qF w).kp⟩,xw w,qF w,xv,rfl⟩ (xh.cons ⟨dr w,88,je, "self", "NoLever.word", (inClass (top 4) 1),_,_,_,.none,⟨(by kernel_rfl),(by kernel_rfl),(nY w).kp⟩,vh w,nY w,v7,rfl⟩ (xh.cons ⟨dE w,223,jY, "self", "NoLock.word", (inClass (top 10) 1),_,_,_,.none,⟨(by kernel_rfl),(by kernel_rfl),(qE w).kp⟩,wN w,qE w,xI,rfl⟩ (xh.cons ⟨dz w,114,jh, "self", "NoPrice.word", (inClass (top 5) 1),_,_,_,.none,⟨(by kernel_rfl),(by kernel_rfl),(oa w).kp⟩,vq w,oa w,vS,rfl⟩ (xh.cons ⟨dR w,152,i_, "self", "NoPulls.word", (inClass (top 7) 0),_,_,_,.none,⟨(by kernel_rfl),(by kernel_rfl),(og w).kp⟩,vT w,og w,uT,rfl⟩ (xh.cons ⟨c9 w,133,gP, "self", "NoSetting.word", (inClass (top 6) 0),_,_,_,.none,⟨(by kernel_rfl),(by kernel_rfl),(kU w).kp⟩,qS w,kU w,qW,rfl⟩ (xh.cons ⟨dQ w,171,ji, "self", "TooMany.word", (inClass (top 8) 0),_,_,_,.none,⟨(by kernel_rfl),(by kernel_rfl),(oq w).kp⟩,vA w,oq w,ve,rfl⟩ xh.nil)))))))
 Nq:=(gB ⟨d_ w,(by kernel_rfl)⟩ (gB ⟨dr w,(by kernel_rfl)⟩ (gB ⟨dE w,(by kernel_rfl)⟩ (gB ⟨dz w,(by kernel_rfl)⟩ (gB ⟨dR w,(by kernel_rfl)⟩ (gB ⟨c9 w,(by kernel_rfl)⟩ (gB ⟨dQ w,(by kernel_rfl)⟩ fy)))))))
 lb:=(Jo w)
 kf:=(JJ w)
 kZ:=(JO w)
 nS:=(Kb w)
 gY:=(Jr w)
 g_:=(Ju w)
 kW:=(Jt w)
 kX:=(Kn w)
 gQ:=(KJ w)
 fS:=(J7 w)
 fG:=(JZ w)
 eE:=(JH w)
 oj:=(JD w)
 sO:=λC h=>by obtain rfl:=eq_of_beq h;exact⟨eG w,(KJ w)⟩
 zE:=λC h=>by obtain rfl:=eq_of_beq h;exact⟨l7 w,(JJ w)⟩
 vJ:=λC h=>by obtain rfl:=eq_of_beq h;exact⟨dI w,(Jr w)⟩
 qV:=λC h=>by obtain rfl:=eq_of_beq h;exact⟨eG w,(J7 w)⟩
 pT:=λC h=>by obtain rfl:=eq_of_beq h;exact⟨eG w,(JZ w)⟩
 mZ:=λC h=>by obtain rfl:=eq_of_beq h;exact⟨eG w,(JH w)⟩
 vW:=λC h=>by obtain rfl:=eq_of_beq h;exact⟨dI w,(Ju w)⟩
 Bn:=λC h=>by obtain rfl:=eq_of_beq h;exact⟨l7 w,(JO w)⟩
 EB:=λC h=>by obtain rfl:=eq_of_beq h;exact⟨nv w,(JD w)⟩
 Iv:=λC h=>by obtain rfl:=eq_of_beq h;exact⟨l7 w,(Kb w)⟩
 Dr:=λC h=>by obtain rfl:=eq_of_beq h;exact⟨jn w,(Kn w)⟩
 EH:=λC h=>by obtain rfl:=eq_of_beq h;exact⟨dI w,(Jt w)⟩
 zM:=λC h=>by obtain rfl:=eq_of_beq h;exact⟨nO w,(Jo w)⟩
theorem IK{P:Program}{w:World}{mg:Str->Option Value}(X:YL (κ w) h)(G:h.Ns mainGlobals mg)(base:Heap):aL P w (κ w) mg base (bI P w) 12 847 wA ["_law_script"] (cP 1 rQ):=by
 have T:=txt X G;have PF:oP P w (κ w) mg base bY "NoDial" "dial" := ⟨⟨55,h_,["self", "dial"],(by kernel_rfl),(by kernel_rfl),wJ,xN w⟩,d_ w,(by kernel_rfl),(by kernel_rfl),mg_of X G (by kernel_rfl)⟩
 have Qd:oP P w (κ w) mg base cf "NoLever" "lever" := ⟨⟨81,gp,["self", "lever"],(by kernel_rfl),(by kernel_rfl),vQ,vH w⟩,dr w,(by kernel_rfl),(by kernel_rfl),mg_of X G (by kernel_rfl)⟩
 have Qo:oP P w (κ w) mg base br "NoLock" "lock" := ⟨⟨216,ij,["self", "lock"],(by kernel_rfl),(by kernel_rfl),wM,xu w⟩,dE w,(by kernel_rfl),(by kernel_rfl),mg_of X G (by kernel_rfl)⟩
 have Qe:oP P w (κ w) mg base bR "NoPrice" "lever" := ⟨⟨107,f9,["self", "lever"],(by kernel_rfl),(by kernel_rfl),vv,uU w⟩,dz w,(by kernel_rfl),(by kernel_rfl),mg_of X G (by kernel_rfl)⟩
 have OA:=fD P w base X G 235 234 Jd λD=>vK D T;have OE:=fD P w base X G 240 239 Jd λD=>Ae D T OA;have Px:=fD P w base X G 247 246 Jd λD=>zX D T;have Pk:=fD P w base X G 254 253 Jd λD=>pG D T Px;have P6:=fD P w base X G 259 258 Jd λD=>u4 D T;have O3:=fD P w base X G 264 263 Jd λD=>u5 D T;have Ol:=fD P w base X G 319 318 vn λD=>sW D T OA;have Pz:=fD P w base X G 326 325 vn λD=>qJ D T PF Ol;have Pl:=fD P w base X G 333 332 vn λD=>qh D T OE Qd;have PC:=fD P w base X G 340 339 vn λD=>qO D T Qe Ol;have Pe:=fD P w base X G 345 344 vn λD=>A_ D T;have PY:=fD P w base X G 520 519 wu λD=>Bw D T;have ON:=fD P w base X G 527 526 wu λD=>q_ D T PY Pe;have Ou:=fD P w base X G 548 547 wu λD=>sQ D T;have P5:=fD P w base X G 555 554 wu λD=>uC D T Ou Px ON;have Pd:=fD P w base X G 562 561 wu λD=>w5 D T Ou ON;have O0:=fD P w base X G 569 568 wu λD=>uV D T PY;have Pa:=fD P w base X G 643 642 wu λD=>oS D T;have O4:=fD P w base X G 688 687 CJ λD=>uG D T O3;have OB:=fD P w base X G 693 692 CJ λD=>vg D T O4;have PL:=fD P w base X G 750 749 wm λD=>t9 D T;have Oz:=fD P w base X G 757 756 wm λD=>v_ D T;have OD:=fD P w base X G 764 763 wm λD=>qd D T;have PQ:=fD P w base X G 771 770 wm λD=>t5 D T;have Pw:=fD P w base X G 776 775 wm λD=>qQ D T OD Oz PQ;have O8:=fD P w base X G 783 782 wm λD=>oH D T;have Pj:=fD P w base X G 788 787 wm λD=>pL D T;have PM:=fD P w base X G 795 794 wm λD=>uo D T Pj Oz O8;have P4:=fD P w base X G 800 799 wm λD=>vN D T;have OJ:qP P w (κ w) mg base ay 4 "Vault" 4 [.bG] ff:=⟨⟨277,iJ,["self", "sizes", "levers", "prices"],[.none],[.bG],mg_of X G (by kernel_rfl),⟨(by kernel_rfl),(by kernel_rfl),(by kernel_rfl),(by kernel_rfl)⟩,sY w,(.cons rfl .nil),λ_=>(.cons .bG .nil),qT (l5 w) T Pz Pl Pe PC Pk⟩⟩
 have Od:=uA P w base (eG w) 284 283 vn λD=>qx D T;have Oe:=uA P w base (eG w) 291 290 vn λD=>oC D T;have Ow:=uA P w base (eG w) 305 304 vn λD=>oN D T;have OH:=uA P w base (nO w) 421 420 md5 λD=>jF D T;have OC:=uA P w base (jn w) 421 420 md5 λD=>jF D T;have OZ:qP P w (κ w) mg base bU 1 "Way" 2 [] mI:=⟨⟨456,jT,["self", "pulls"],[],[],mg_of X G (by kernel_rfl),⟨(by kernel_rfl),(by kernel_rfl),(by kernel_rfl),(by kernel_rfl)⟩,xC w,.nil,λ_=>.nil,vx (xM w) T ⟩⟩
 have OK:=uA P w base (nv w) 463 462 md5 λD=>qY D T;have OT:=uA P w base (nv w) 477 476 md5 λD=>tK D T;have OY:qP P w (κ w) mg base bQ 1 "Bar" 2 [] sv:=⟨⟨496,kl,["self", "weights"],[],[],mg_of X G (by kernel_rfl),⟨(by kernel_rfl),(by kernel_rfl),(by kernel_rfl),(by kernel_rfl)⟩,xn w,.nil,λ_=>.nil,u7 (wI w) T ⟩⟩
 have OR:=uA P w base (nO w) 510 509 md5 λD=>ui D T;have Ph:=uA P w base (dI w) 586 585 wu λD=>pF D T Od Ou;have OS:qP P w (κ w) mg base aJ 1 "Lock" 4 [] cL:=⟨⟨664,jb,["self", "factors", "number", "rest"],[],[],mg_of X G (by kernel_rfl),⟨(by kernel_rfl),(by kernel_rfl),(by kernel_rfl),(by kernel_rfl)⟩,wg w,.nil,λ_=>.nil,sT (vR w) T ⟩⟩
 have Ot:qP P w (κ w) mg base a_ 1 "Shut" 2 [] gI:=⟨⟨724,jv,["self", "shares"],[],[],mg_of X G (by kernel_rfl),⟨(by kernel_rfl),(by kernel_rfl),(by kernel_rfl),(by kernel_rfl)⟩,uO w,.nil,λ_=>.nil,tw (v9 w) T ⟩⟩
 have OI:=uA P w base (jn w) 731 730 CJ λD=>qK D T;have OF:=fD P w base X G 352 351 vn λD=>Af D T Od;have OL:=fD P w base X G 357 356 vn λD=>rC D T Od OE;have O1:=fD P w base X G 364 363 vn λD=>vF D T Oe OE;have Oh:=fD P w base X G 371 370 vn λD=>oy D T OL;have Py:=fD P w base X G 378 377 vn λD=>rD D T O1;have PX:=fD P w base X G 383 382 vn λD=>A7 D T Od Pe;have Qm:=fD P w base X G 390 389 vn λD=>yY D T Oh Py Oe PX;have Pc:=fD P w base X G 397 396 vn λD=>xF D T Oh PX;have Pf:=fD P w base X G 402 401 md5 λD=>Ax D T Oh Ow Od O3;have OU:=fD P w base X G 407 406 md5 λD=>lT D T Oe Pf;have O5:=fD P w base X G 534 533 wu λD=>uI D T Oe;have Pm:=fD P w base X G 541 540 wu λD=>qc D T Oe P6;have Qk:=fD P w base X G 676 675 CJ λD=>zh D T Od OE Ol OA;have Oq:=fD P w base X G 683 682 CJ λD=>qZ D T Oh Qk Qo;have OM:=fD P w base X G 698 697 CJ λD=>qL D T Oe O4 OJ;have Ql:=fD P w base X G 703 702 CJ λD=>G6 D T Oq OB;have O_:=fD P w base X G 814 813 wm λD=>oR D T OS;have PN:=fD P w base X G 821 820 wm λD=>ur D T OS;have Pt:=uA P w base (jn w) 428 427 md5 λD=>pP D T Oh;have PK:=uA P w base (nv w) 470 469 md5 λD=>uh D T Oh O1 Qm;have OQ:=uA P w base (nO w) 503 502 md5 λD=>sV D T Pc OL OU Pf;have Pr:qP P w (κ w) mg base aO 4 "Rungs" 2 [] o3:=⟨⟨581,iF,["self", "vault"],[],[],mg_of X G (by kernel_rfl),⟨(by kernel_rfl),(by kernel_rfl),(by kernel_rfl),(by kernel_rfl)⟩,tQ w,.nil,λ_=>.nil,rn (uv w) T Od OF O5 Oe Pm P5 O0 Pd⟩⟩
 have Oi:=uA P w base (dI w) 614 613 wu λD=>jL D T Oh O5 Od Pd;have Pg:=uA P w base (dI w) 621 620 wu λD=>ql D T Oi;have OW:=uA P w base (dI w) 626 625 wu λD=>l0 D T Oi OF O0;have OP:=uA P w base (dI w) 631 630 wu λD=>kL D T Od Ol PF Ph Pf Ow;have PJ:=uA P w base (jn w) 738 737 CJ λD=>tN D T Oq OM OY OQ OB OF;have QB:=fD P w base X G 650 649 wu λD=>Bj D T Pc Pr OW OZ OP Pg Pa OY;have OG:=fD P w base X G 710 709 CJ λD=>tV D T Oq Oe OZ OM OB OF QB OK OH OC Ot;have O7:=fD P w base X G 828 827 wm λD=>ue D T Ot PJ;have Pu:=fD P w base X G 835 834 wm λD=>qR D T Ot PK OQ Pt OK OH OC OT OR OI;have PR:=fD P w base X G 807 806 wm λD=>uq D T Ql OG O7;have O9:=fD P w base X G 842 841 wm λD=>oG D T O_ PR;exact G8 (Jl w) T PL Pw OJ Oz PM PN OD Ql P4 Pu OT OR OI OG O9
theorem Mh:yM (κ w)=true:=by kernel_rfl
theorem Mg:nsIn (κ w) mainGlobals "law" = some (some (.ref 847)):=by kernel_rfl
end wq
open PySem PySem.W
theorem wq.hold(said:PySem.Challenge.rw_dialvault_k57_locks_met.wellSaid=true)(Rl:∀ ns:List Int,ns.length<=63->(∀ i∈ns,Wb i<=1048576)->wq.rQ [.gc (ns.map L2.PV.int)]=L2.M.ok (.bl true)):PySem.Challenge.rw_dialvault_k57_locks_met.Holds:=by
 refine holds_law said λsaid=>?_;refine holds_open (q:=HD.vw) (loose:=HD.loose) (Xt:=HD.Xt) (XP:=XL HD.vw []) (Yf:=Hook.obs HD.hook) (Ya:=Hook.val HD.hook) (YP:=Hook.says HD.hook) HD.Js (Hook.of HD.hook) (Hook.keeps HD.hook) (λs e=>xl_of s (Tt.mp e).1) XL.keeps (by rfl) (by rfl) (by rfl) (λs e=>recFacts_of (Tt.mp e).2) (by rfl) said (by decide +kernel) ⟨rfl,rfl,rfl,rfl,rfl,by decide +kernel⟩ ?hw ?hc
 case hw=>w_witness2
 refine L2.xy (l:=PySem.Challenge.rw_dialvault_k57_locks_met) (n:=63) (k:=12) (x := "_law_script") (K:=HD.K) (sem:=wq.rQ) rfl (by decide) rfl ⟨rfl,by decide,by decide⟩ (λw h Y=>PySem.W.kIn_of Y) (λw=>wq.Mh w) (λw mg fa h X G hmg=>?_) Rl;have e:=hmg.symm.trans (YY X G (wq.Mg w));cases e;exact⟨wq.wA,λs v=>.of_eq rfl,λbase X' G'=>wq.IK X' G' base⟩
namespace Eu
theorem sC(a b:Int)(hb:b≠0):(a-a.fdiv b*b).natAbs<b.natAbs/\0<=(a-a.fdiv b*b)*b/\(0<=a*b->a.natAbs=(a.fdiv b).natAbs*b.natAbs+(a-a.fdiv b*b).natAbs):=by
 have pos:∀ (a b:Int),0<b->(a-a/b*b).natAbs<b.natAbs/\0<=(a-a/b*b)*b/\(0<=a*b->a.natAbs=(a/b).natAbs*b.natAbs+(a-a/b*b).natAbs):=by
  intro a b hb;have e:a-a/b*b=a%b:=by
   have h:=Xe a b;rw[Int.mul_comm] at h;lia
  have h0:=Td a (by lia:b≠0);have h1:=SO a hb;rw[e];refine⟨by lia,YU h0 (by lia),λhab=>?_⟩;have ha:0<=a:=by
   rcases Int.lt_or_le a 0 with h | h
   .have:=Int.mul_neg_of_neg_of_pos h hb;lia
   .exact h
  have hq:0<=a/b:=V3 ha (by lia);have h2:=Xe a b;have h3:((a/b).natAbs*b.natAbs:Nat)=(b*(a/b)).natAbs:=by
   rw[Um,U3]
  rw[h3];have h4:0<=b*(a/b):=YU (by lia) hq;lia
 rcases Int.lt_or_le 0 b with h | h
 .rw[UY a (by lia)];exact pos a b h
 .have h':0 < -b:=by lia
  have e:a.fdiv b=(-a)/(-b):=by
   rw[<- UY (-a) (by lia:0<=-b),Int.neg_fdiv_neg]
  obtain⟨p1,p2,p3⟩:=pos (-a) (-b) h';have e2:-a-(-a)/(-b)*(-b)=-(a-a.fdiv b*b):=by
   rw[<- e,Int.mul_neg];lia
  rw[e2] at p1 p2 p3;rw[<- e] at p3;simp only[Xl,Int.neg_mul_neg] at p1 p2 p3;exact⟨p1,p2,p3⟩
structure St (a b:Int) (r s t r' s' t':Int):Prop where
 c0:r=s*a+t*b
 c1:r'=s'*a+t'*b
 dv:∀ d:Int,d∣r->d∣r'->d∣a/\d∣b
 bd:s'.natAbs*r.natAbs+s.natAbs*r'.natAbs<=b.natAbs
 sg:s'=0\/0<=r*r'
 b0:s.natAbs<=b.natAbs+1
 b1:s'.natAbs<=b.natAbs+1
 d0:t.natAbs<=a.natAbs+(b.natAbs+1)*a.natAbs+b.natAbs+1
 d1:t'.natAbs<=a.natAbs+(b.natAbs+1)*a.natAbs+b.natAbs+1
 m0:r.natAbs<=a.natAbs+b.natAbs
 m1:r'.natAbs<=b.natAbs
theorem start(a b:Int):St a b a 1 0 b 0 1 where
 c0:=by lia
 c1:=by lia
 dv:=λd h1 h2=>⟨h1,h2⟩
 bd:=by simp
 sg:=.inl rfl
 b0:=by lia
 b1:=by lia
 d0:=by simp
 d1:=by lia
 m0:=by lia
 m1:=by lia
theorem turn{a b r s t r' s' t':Int}(h:St a b r s t r' s' t')(h0:r'≠0) :
  St a b r' s' t' (r-r.fdiv r'*r') (s-r.fdiv r'*s') (t-r.fdiv r'*t')/\(r-r.fdiv r'*r').natAbs<r'.natAbs:=by
 obtain⟨f1,f2,f3⟩:=sC r r' h0;generalize hq:r.fdiv r'=q at *;have hb:b≠0:=by
  intro z;have:=h.m1;lia
 have RR:1<=r'.natAbs:=by lia
 have c1':r-q*r'=(s-q*s')*a+(t-q*t')*b:=by
  rw[h.c0,h.c1,Int.sub_mul,Int.sub_mul,Int.mul_add,WD,WD];lia
 have bd':(s-q*s').natAbs*r'.natAbs+s'.natAbs*(r-q*r').natAbs<=b.natAbs:=by
  have K9:(s-q*s').natAbs<=s.natAbs+q.natAbs*s'.natAbs:=by
   rw[<- Um];lia
  have hbd:=h.bd;rcases h.sg with z | z
  .subst z;simp only[Int.mul_zero,Int.sub_zero,Int.natAbs_zero,Nat.zero_mul,Nat.zero_add,Nat.add_zero] at hbd ⊢;exact hbd
  .have e:=f3 z;have k1:(s-q*s').natAbs*r'.natAbs<=(s.natAbs+q.natAbs*s'.natAbs)*r'.natAbs:=VW _ K9;have k2:(s.natAbs+q.natAbs*s'.natAbs)*r'.natAbs+s'.natAbs*(r-q*r').natAbs=s'.natAbs*r.natAbs+s.natAbs*r'.natAbs:=by
    rw[e,Nat.add_mul,Nat.mul_add,U3 q.natAbs s'.natAbs,Vc];lia
   lia
 have b1':(s-q*s').natAbs<=b.natAbs:=by
  have:(s-q*s').natAbs*1<=(s-q*s').natAbs*r'.natAbs:=U8 _ RR;lia
 have mm:(r-q*r').natAbs<=b.natAbs:=by
  have:=h.m1;lia
 have d1':(t-q*t').natAbs<=a.natAbs+(b.natAbs+1)*a.natAbs+b.natAbs+1:=by
  have e:(t-q*t')*b=(r-q*r')-(s-q*s')*a:=by lia
  have e1:((t-q*t')*b).natAbs<=(r-q*r').natAbs+((s-q*s')*a).natAbs:=by lia
  rw[Um,Um] at e1;have k1:(t-q*t').natAbs*1<=(t-q*t').natAbs*b.natAbs:=U8 _ (by lia);have k2:(s-q*s').natAbs*a.natAbs<=(b.natAbs+1)*a.natAbs:=VW _ (by lia);lia
 refine⟨⟨h.c1,c1',λd e1 e2=>?_,bd',?_,h.b1,by lia,h.d1,d1',?_,mm⟩,f1⟩
 .refine h.dv d ?_ e1;have e3:d∣q*r':=Xy e1 (WO _ _);have e4:=YE e2 e3
  rwa [Int.sub_add_cancel] at e4
 .exact .inr (by rw[Int.mul_comm];exact f2)
 .have:=h.m1;lia
theorem done{a b r s t s' t':Int}(h:St a b r s t 0 s' t'):r∣a/\r∣b:=h.dv r (Int.dvd_refl r) (Int.dvd_zero r)
end Eu
namespace Lc
def mT(ns:List Nat):Nat:=ns.foldl U5 1
def Hw(ns:List Nat):Nat:=ns.foldl TR 0
theorem sU:∀ (ns:List Nat) (m:Nat),m∣ns.foldl U5 m/\(∀ n∈ns,n∣ns.foldl U5 m)/\(∀ k,m∣k->(∀ n∈ns,n∣k)->ns.foldl U5 m∣k)
 | [],m=>⟨Nat.dvd_refl m,(λ_ h=>nomatch h),λk h _=>h⟩
 | n::ns,m=>by
  obtain⟨h1,h2,h3⟩:=sU ns (U5 m n);refine⟨VP (Nat.dvd_lcm_left m n) h1,λx hx=>?_,λk hm hk=>?_⟩
  .rcases Ss.mp hx with e | hx
   .rw[e];exact VP (Nat.dvd_lcm_right m n) h1
   .exact h2 x hx
  .exact h3 k (Nat.lcm_dvd hm (hk n Sq)) λx hx=>hk x (Sl _ hx)
variable{ns:List Nat}
theorem lcm_dvd{n:Nat}(h:n∈ns):n∣mT ns:=(sU ns 1).2.1 n h
theorem z_{k:Nat}(h:∀ n∈ns,n∣k):mT ns∣k:=(sU ns 1).2.2 k (Nat.one_dvd k) h
theorem nU:∀ (ns:List Nat) (m:Nat),0<m->(∀ n∈ns,0<n)->0<ns.foldl U5 m
 | [],m,h,_=>h
 | n::ns,m,h,hp=>nU ns (U5 m n) (Nat.lcm_pos h (hp n Sq)) λx hx=>hp x (Sl _ hx)
theorem lcm_pos(h:∀ n∈ns,0<n):0<mT ns:=nU ns 1 (by decide) h
theorem yf:∀ (ns:List Nat) (m:Nat),ns.foldl TR m∣m/\(∀ n∈ns,ns.foldl TR m∣n)
 | [],m=>⟨Nat.dvd_refl m,(λ_ h=>nomatch h)⟩
 | n::ns,m=>by
  obtain⟨h1,h2⟩:=yf ns (TR m n);refine⟨VP h1 (WQ m n),λx hx=>?_⟩;rcases Ss.mp hx with e | hx
  .rw[e];exact VP h1 (Yh m n)
  .exact h2 x hx
theorem Mv(h:∀ n∈ns,0<n)(Qz:ns≠[]):Hw (ns.map λn=>mT ns/n)=1:=by
 obtain⟨_,h2⟩:=yf (ns.map λn=>mT ns/n) 0;have hd:∀ n∈ns,Hw (ns.map λn=>mT ns/n)∣mT ns/n:=λn hn=>h2 _ (Uv.mpr ⟨n,hn,rfl⟩);generalize Hw (ns.map λn=>mT ns/n)=d at hd;have hL:=lcm_pos h;obtain⟨n0,hn0⟩:∃ n,n∈ns:=List.exists_mem_of_ne_nil ns Qz;have key:∀ n∈ns,n*d∣mT ns:=λn hn=>by
  have:=Nat.mul_dvd_mul_left n (hd n hn)
  rwa [Nat.mul_div_cancel' (lcm_dvd hn)] at this
 have dl:d∣mT ns:=VP (Yw d n0) (key n0 hn0);have dp:0<d:=Nat.pos_of_dvd_of_pos dl hL;have all:∀ n∈ns,n∣mT ns/d:=λn hn=>by
  obtain⟨c,hc⟩:=key n hn;refine⟨c,?_⟩;rw[hc,U3 n d,Vc,Nat.mul_div_cancel_left _ dp]
 have le:=WE (Nat.div_pos (WE hL dl) dp) (z_ all);rcases W4 1 d with h1 | h1
 .have:=Nat.div_lt_self hL h1;lia
 .lia
theorem CM(m n:Nat):m/TR m n*n=U5 m n:=by
 unfold U5;rw[Nat.div_mul_right_comm (WQ m n)]
end Lc
namespace Rg
abbrev m9:=Nat->Int
def K4(s:m9)(D:Nat->m9)(d:Nat):Int:=if D d d=0 then s d else D d d
def G(n:Nat)(s:m9)(D:Nat->m9):Nat->Nat->m9->Prop
 | 0,_,v=>∀ i,i<n->s i∣v i
 | k+1,d,v=>K4 s D d∣v d/\G n s D k (d+1) λi=>v i-v d/K4 s D d*D d i
variable{D:Nat->m9}{s:m9}{n:Nat}
section
variable{D' L:Nat->m9}{u v g:Nat->Int}
end
variable{W:Nat->m9}
section
variable{D':Nat->m9}
variable{f:Nat}
end
def JB:Nat->(Nat->Int)->Int
 | 0,_=>0
 | m+1,f=>JB m f+f m
def vf(xs:List Int):m9:=λi=>xs.getD i 0
theorem gO{xs:List Int}{i:Nat}(h:i<xs.length):vf xs i=xs[i]:=by
 unfold vf;rw[List.getD_eq_getElem?_getD,R8 h];rfl
def KR(xs:List Int)(a:Int)(ys:List Int)(b:Int):List Int:=(xs.zip ys).map λz=>a*z.1+b*z.2
def MP(xs Ob:List Int):List Int:=(xs.zip Ob).map λz=>z.1%z.2
def Bd(B:Nat)(xs:List Int):Prop:=∀ x∈xs,x.natAbs<2^B
abbrev Row:=List Int×List Int
def row(rows:List Row)(d:Nat):Row:=rows.getD d ([],[])
def DD(rows:List Row):Nat->m9:=λd=>vf (row rows d).1
def N_(Ob:List Int)(r:Row)(a:Int)(q:Row)(b:Int):Row:=(MP (KR r.1 a q.1 b) Ob,KR r.2 a q.2 b)
variable{m:Nat}{left:Row}{rows:List Row}{Ob:List Int}{c:Int->Int->Int×Int}
section
variable{k:Nat}{A:Nat->m9}
end
section
variable{k:Nat}{A:Nat->m9}{idle:List (List Int)}{P:List Int}
end
section
variable{k:Nat}{A:Nat->m9}
end
section
variable{Ls:List (List Int)}{k:Nat}
end
def NR(n:Nat)(s:m9)(Q:Int)(w v:m9):Int:=JB n λi=>w i*v i*(Q/s i)
variable{Q:Int}
section
variable{D:Nat->m9}{w v u:m9}
def Np(s:m9)(D:Nat->m9)(d:Nat):Int:=s d/K4 s D d
structure Wk (n:Nat) (s:m9) (D:Nat->m9) (Q:Int) (dial a:Nat) (w:m9):Prop where
 beh:∀ i,dial<i->i<n->w i=0
 at_:w dial=Np s D dial%s dial
 ah:∀ i,a<=i->i<dial->0<=w i/\w i<Np s D i
 no:∀ i,i<a->w i=0
 kill:∀ b,a<=b->b<n->Q∣NR n s Q w (D b)
end
end Rg
namespace wq
open PySem L2 PyProof.Rows Rg
local macro_rules | `(tactic| dsimp? [$ts,*])=>`(tactic| simp only[cI,aZ,ar,lS,ao,v5,we,retS,aY,tD,dy,i7,aq,M.aP,M.bind_some,M.bind_none,M.Ci,M.bind_assoc,ae,ak,ai,aa,aj,D5,DM,Gw,Gd,G4,G3,Ir,GK,HQ,GF,IE,IB,Gx,Ha,IU,Ip,c6,gT,Mb,y_,Dy,tf,N6,wY,kN,J3,lD,Ee,itemsOf,jQ,DK,EW,y0,DO,Fc,Cu,A6,AS,yI,EA,Dn,Bx,BY,c_,cW,sA,HX,List.length_cons,List.length_nil,List.map_cons,List.map_nil,List.cons_append,List.nil_append,List.replicate,List.getElem?_cons_zero,List.getElem?_cons_succ,List.getElem?_nil,List.set_cons_zero,List.set_cons_succ,List.set_nil,Nat.reduceAdd,Nat.reduceSub,if_true,if_false,Bool.not_true,Bool.not_false,Bool.false_eq_true,ite_true,ite_false,reduceIte,reduceCtorEq,Nat.sub_self,lQ,cq,bV,Option.map_some,Option.map_none,se,IA,Hn,Fh,DC,Fq,HI,Eb,Er,Et,nu,List.any_cons,List.any_nil,String.reduceBEq,Bool.or_false,Bool.or_true,Bool.true_or,Bool.false_or,Bool.and_true,Bool.and_false,Bool.true_and,Bool.false_and,yk,Em,xt,Gr,DQ,E8,EM,EU,AX,B0,i8,vY,List.foldl_cons,List.foldl_nil,qN,aw trivial,$(⟨ts.elemsAndSeps⟩),*])
theorem kH(i:Int):cC [.int i]=M.ok (.bl true):=by rfl
theorem vZ(b:Bool):cC [.bl b]=M.ok (.bl false):=by rfl
theorem sx:cC [.bG]=M.ok (.bl false):=by rfl
variable{p:PV}{α:Type}
theorem o_{inj:α->PV}{h:α->Bool}(xs:List α)(n:Int)(hp:p=.tup (xs.map inj)\/p=.lst (xs.map inj))(H:∀ a∈xs,cC [inj a]=M.ok (.bl (h a)))(hz:xs.length<=sizeLine):bM [p,.int n]=M.ok (.bl (decide ((xs.length:Int)=n)&&xs.all h)):=by
 have key:c5 (cX 0) none (ai cC (aa (ae 0) aj)) (xs.map inj) [none]=M.ok (xs.map λa=>.bl (h a)):=lK xs λa ha=>by dsimp? [H a ha]
 have key2:qu [.lst (xs.map λa=>.bl (h a))]=M.ok (.bl (xs.all h)):=by
  have:=vC (xs.map h);rw[S_] at this;rw[show (λa=>PV.bl (h a))=PV.bl∘h from rfl,this];simp[Yi]
 unfold bM fI;rcases hp with rfl | rfl
 all_goals
  dsimp? [R_]
  by_cases e:(xs.length:Int)=n
  .simp only[e,decide_true,YZ,M.aP,Wq,if_false,v5,Y0];dsimp? [R_,aw hz,key,key2]
  .simp only[e,decide_false,YV,M.aP,if_true,we,Xg];dsimp? []
theorem xS(xs:List Int)(n:Int)(hz:xs.length<=sizeLine):bM [tI xs,.int n]=M.ok (.bl (decide ((xs.length:Int)=n))):=by
 exact(o_ (p:=tI xs) (h:=λ_=>true) xs n (.inl rfl) (λa _=>kH a) hz).trans (by rw[SD.mpr λ_ _=>rfl,Y3])
theorem qw(xs:List Int)(n:Int)(hz:xs.length<=sizeLine):bM [lI xs,.int n]=M.ok (.bl (decide ((xs.length:Int)=n))):=by
 exact(o_ (p:=lI xs) (h:=λ_=>true) xs n (.inr rfl) (λa _=>kH a) hz).trans (by rw[SD.mpr λ_ _=>rfl,Y3])
theorem KY{f:List Int->PV}(hf:f=tI\/f=lI)(xs:List Int)(n:Int)(hz:xs.length<=sizeLine):bM [f xs,.int n]=M.ok (.bl (decide ((xs.length:Int)=n))):=by
 rcases hf with rfl | rfl
 .exact xS xs n hz
 .exact qw xs n hz
theorem Kg{f:List Int->PV}(hf:f=tI\/f=lI)(xs:List Int):cB (f xs)=some (xs.map PV.int):=by rcases hf with rfl | rfl <;> rfl
theorem within_int(x a b:Int):bH [.int x,.int a,.int b]=M.ok (.bl (decide (a<=x/\x<=b))):=by
 unfold bH cN;dsimp? [kH]
 by_cases h:a<=x
 .simp only[h,decide_true,if_true,true_and];dsimp? []
 .simp only[h,decide_false,false_and];dsimp? []
theorem eM{xs:List PV}(h:cB p=some xs):tX p=M.ok (.int xs.length):=by
 cases p <;> first | (cases h;rfl) | cases h
theorem rA(xs:List Int)(hp:cB p=some (xs.map PV.int))(h1:1<=xs.length)(h6:xs.length<=6)(hx:∀ x∈xs,2<=x/\x<=360):f_ [p]=M.ok .bG:=by
 unfold f_ gq;have a1:¬ (6:Int)<xs.length:=by lia
 have a2:¬ (xs.length:Int)=0:=by lia
 dsimp? [a1,a2,decide_false,eM hp,R_,pC xs hp];refine mR xs.zipIdx (λzs env=>(∃ b c,env=[some (.sh p),b,c])/\∀ z∈zs,2<=z.1/\z.1<=360) ⟨⟨_,_,rfl⟩,λz hz=>hx z.1 (TX hz)⟩ ?_ ?_
 .rintro⟨a,i⟩ r env ⟨⟨b,c,rfl⟩,hz⟩;have ha:=hz (a,i) Sq;refine⟨_,[some (.sh p),some (.sh (.int i)),some (.sh (.int a))],rfl,?_,⟨_,_,rfl⟩,λz QV=>hz z (Sl _ QV)⟩;dsimp? [within_int,ha,and_self,decide_true]
 .rintro Oc ⟨⟨b,c,rfl⟩,_⟩;rfl
theorem qC{f:List Int->PV}(hf:f=tI\/f=lI)(n:Nat)(xs:List (List Int))(h8:xs.length<=8)(hx:∀ x∈xs,x.length=n)(hn:n<=100):fe [.lst (xs.map f),.int n]=M.ok .bG:=by
 unfold fe e_;have a1:¬ (8:Int)<xs.length:=by lia
 dsimp? [a1,decide_false,R_,ym];refine mR xs.zipIdx (λzs env=>(∃ b c,env=[some (.sh (.lst (xs.map f))),some (.sh (.int n)),b,c])/\∀ z∈zs,z.1.length=n) ⟨⟨_,_,rfl⟩,λz hz=>hx z.1 (TX hz)⟩ ?_ ?_
 .rintro⟨a,i⟩ r env ⟨⟨b,c,rfl⟩,hz⟩;have ha:a.length=n:=hz (a,i) Sq;refine⟨_,[some (.sh (.lst (xs.map f))),some (.sh (.int n)),some (.sh (.int i)),some (.sh (f a))],rfl,?_,⟨_,_,rfl⟩,λz QV=>hz z (Sl _ QV)⟩;dsimp? [KY hf a n (aW (by lia)),ha,decide_true]
 .rintro Oc ⟨⟨b,c,rfl⟩,_⟩;rfl
theorem uN(n:Nat)(p:PV):(R7 n [p]).flatten=R7 n p:=by
 induction n with
 | zero=>rfl
 | succ n ih=>rw[SW,TV,ih];rfl
theorem mul_one(p:PV)(n:Nat)(h8:n<=1000):bC (.tup [p]) (.int (n:Int))=M.ok (.tup (R7 n p)):=by
 have h2:[p].length*(n:Int).toNat<=sizeLine:=by
  rw[TH];exact aW (by show 1*n<=1000;lia)
 have h3:(n:Int)<2^63:=XQ (Yj.mpr h8) (by decide);have h4:-(2^63)<=(n:Int):=Int.le_trans (by decide) (XR n);rw[bC,aw ⟨rfl,h4,h3,h2⟩,TH,uN]
theorem kz(xs:List PV)(h8:xs.length<=8):fV [.lst xs,.bG]=M.ok (tI (R7 xs.length 1)):=by
 unfold fV gm;dsimp? [Dj,rS,mul_one (.int 1) xs.length (by lia)];rw[tI,Tu]
def I_(xs Ob:List Int):List Int:=(xs.zip Ob).map λz=>z.1%z.2
theorem By(p q:PV)(xs Ob:List Int)(hp:cB p=some (xs.map PV.int))(hq:cB q=some (Ob.map PV.int))(hs:∀ s∈Ob,0<s)(hz:xs.length<=1000):jg [p,q]=M.ok (tI (I_ xs Ob)):=by
 have key:c5 (b_ 0 1) none (ak bS (ae 0) (ae 1)) ((xs.zip Ob).map λz=>.tup [.int z.1,.int z.2]) [none,none]=M.ok ((xs.zip Ob).map λz=>.int (z.1%z.2)):=by
  refine lF (p:=λz:Int×Int=>PV.int z.1) (q:=λz:Int×Int=>PV.int z.2) (xs.zip Ob) λz hz=>?_;have:=hs z.2 (UP (a:=z.1) (b:=z.2) hz).2;dsimp? [az this]
 unfold jg kA;have hl:(xs.zip Ob).length<=sizeLine:=by rw[Us];exact aW (SE (YM _ _) hz)
 dsimp? [fJ xs Ob hp hq,R_,aw hl,key];rw[tI,I_,S_];rfl
theorem za(a b c:PV):aS (.tup [a,b,c]) (.int 0)=M.ok a:=cu (j:=0) rfl rfl
theorem Jw(a b c:PV):aS (.tup [a,b,c]) (.int 1)=M.ok b:=cu (j:=1) rfl rfl
theorem Kd(a b c:PV):aS (.tup [a,b,c]) (.int 2)=M.ok c:=cu (j:=2) rfl rfl
theorem zS(a b:Int)(ha:a.natAbs<2^60)(hb:b.natAbs<2^60):∃ s t,jR [.int a,.int b]=M.ok (.tup [.int (UA a b),.int s,.int t])/\s*a+t*b=UA a b/\s.natAbs<=b.natAbs+1/\t.natAbs<=a.natAbs+(b.natAbs+1)*a.natAbs+b.natAbs+1:=by
 let J:af->Prop:=λenv=>∃ r s t r' s' t' x y,env=[some (.sh (.int a)),some (.sh (.int b)),some (.sh ((PV.tup [PV.int r,PV.int s,PV.int t]))),some (.sh ((PV.tup [PV.int r',PV.int s',PV.int t']))),x,y]/\Eu.St a b r s t r' s' t'
 let m:af->Nat:=λenv=>match env with
  | [_,_,_,some (.sh (.tup [.int r,_,_])),_,_]=>r.natAbs
  | _=>0
 have hk:(b.natAbs+1)*a.natAbs<=2^60*2^60:=UZ (by lia) (by lia);have hk2:(2:Nat)^60*2^60=2^120:=by decide
 have start:J [some (.sh (.int a)),some (.sh (.int b)),some (.sh ((PV.tup [PV.int a,PV.int 1,PV.int 0]))),some (.sh ((PV.tup [PV.int b,PV.int 0,PV.int 1]))),none,none]:=⟨_,_,_,_,_,_,_,_,rfl,Eu.start a b⟩
 have loop:=nz (u:=c6 (ak nG (ak aS (ae 3) (λ_=>M.ok (.int 0))) (λ_=>M.ok (.int 0)))) (b:=(ao (aY 4 (ak bW (ak aS (ae 2) (λ_=>M.ok (.int 0))) (ak aS (ae 3) (λ_=>M.ok (.int 0)))))
  (ao (aY 5 (dD (aa (ak jJ (ak aS (ae 2) (λ_=>M.ok (.int 0))) (ak bC (ae 4) (ak aS (ae 3) (λ_=>M.ok (.int 0))))) (aa (ak jJ (ak aS (ae 2) (λ_=>M.ok (.int 1))) (ak bC (ae 4) (ak aS (ae 3) (λ_=>M.ok (.int 1))))) (aa (ak jJ (ak aS (ae 2) (λ_=>M.ok (.int 2))) (ak bC (ae 4) (ak aS (ae 3) (λ_=>M.ok (.int 2))))) aj)))))
  (ao (aY 2 (ae 3))
  (ao (aY 3 (ae 5))
  aq))))) J m ?_ _ start
 .obtain⟨Oc,e1,⟨r,s,t,r',s',t',x,y,rfl,st⟩,e2⟩:=loop;have RR:r'=0:=by
   revert e2;dsimp? [za];intro e2;have:(!decide (r'=0))=false:=by injection e2 with e2;injection e2
   simpa using this
  subst RR;obtain⟨d1,d2⟩:=Eu.done st;have hg:(r.natAbs:Int)=UA a b:=by
   have h1:r.natAbs∣UA a b:=Int.dvd_gcd (YW.mpr d1) (YW.mpr d2);have h2:((UA a b:Nat):Int)∣r:=by
    rw[st.c0];exact YE (Xy (Yx ..) (WO _ _)) (Xy (Int.gcd_dvd_right ..) (WO _ _))
   have h3:UA a b∣r.natAbs:=Int.ofNat_dvd_left.mp h2;rw[Nat.dvd_antisymm h1 h3]
  unfold jR ka;dsimp? [];rw[e1];dsimp? [za,Jw,Kd]
  by_cases hneg:r<0
  .refine⟨-s,-t,?_,?_,by rw[Xl];exact st.b0,by rw[Xl];exact st.d0⟩
   .simp only[hneg,decide_true,if_true];dsimp? [];rw[show -r=(UA a b:Int) by lia]
   .have:=st.c0;rw[Int.neg_mul,Int.neg_mul];lia
  .refine⟨s,t,?_,?_,st.b0,st.d0⟩
   .simp only[hneg,decide_false,Wq,if_false];dsimp? [];rw[show r=(UA a b:Int) by lia]
   .have:=st.c0;lia
 .rintro env ⟨r,s,t,r',s',t',x,y,rfl,st⟩
  by_cases h0:r'=0
  .refine .inl ?_;dsimp? [za];simp[h0]
  .refine .inr ⟨?_,?_⟩
   .dsimp? [za];simp[h0]
   .obtain⟨Q0,lt⟩:=Eu.turn st h0;have b1:=st.m1;have b0:=st.m0;have c1:=st.b1;have c2:=st.d1;have c3:=Q0.m1;have q1:(r.fdiv r').natAbs<=r.natAbs+1:=by
     obtain⟨f1,f2,f3⟩:=Eu.sC r r' h0;generalize r.fdiv r'=q at *;have e:q*r'=r-(r-q*r'):=by lia
     have e2:(q*r').natAbs<=r.natAbs+(r-q*r').natAbs:=by lia
     rw[Um] at e2;have:q.natAbs*1<=q.natAbs*r'.natAbs:=U8 _ (by lia);rcases W4 (r.natAbs+1) q.natAbs with h | h
     .have h5:(r.natAbs+2)*r'.natAbs<=q.natAbs*r'.natAbs:=VW _ (by lia);have h6:r.natAbs*1<=r.natAbs*r'.natAbs:=U8 _ (by lia);rw[Nat.add_mul] at h5;lia
     .exact h
    have q2:(r.fdiv r').natAbs<2^200:=by lia
    refine⟨[some (.sh (.int a)),some (.sh (.int b)),some (.sh ((PV.tup [PV.int r',PV.int s',PV.int t']))),some (.sh ((PV.tup [PV.int (r-r.fdiv r'*r'),PV.int (s-r.fdiv r'*s'),PV.int (t-r.fdiv r'*t')]))),some (.sh (.int (r.fdiv r'))),some (.sh ((PV.tup [PV.int (r-r.fdiv r'*r'),PV.int (s-r.fdiv r'*s'),PV.int (t-r.fdiv r'*t')])))],?_,⟨_,_,_,_,_,_,_,_,rfl,Q0⟩,lt⟩;dsimp? [za,Jw,Kd,rJ h0 (Sh (show r'.natAbs<2^200 by lia) (VU (by decide) (by decide))),bN (k:=200) (l:=200) q2 (show r'.natAbs<2^200 by lia),bN (k:=200) (l:=200) q2 (show s'.natAbs<2^200 by lia),bN (k:=200) (l:=200) q2 (show t'.natAbs<2^200 by lia)]
def R(Ob:List Int):Int:=(Lc.mT (Ob.map Y5):Nat)
structure Sz (Ob:List Int):Prop where
 h1:1<=Ob.length
 h6:Ob.length<=6
 hx:∀ x∈Ob,2<=x/\x<=360
structure Acc (Ob r:List Int) (acc:Nat):Prop where
 pos:0<acc
 le:acc<=2^(9*(6-r.length))
 len:r.length<=6
 val:(r.map Y5).foldl U5 acc=Lc.mT (Ob.map Y5)
 Cd:∀ x∈r,2<=x/\x<=360
variable{Ob:List Int}
theorem Acc.start(h:Sz Ob):Acc Ob Ob 1:=⟨by decide,Nat.one_le_two_pow,h.h6,rfl,h.hx⟩
variable{acc:Nat}
theorem Acc.lt{r:List Int}(h:Acc Ob r acc):acc<2^60:=by
 have h2:(2:Nat)^(9*(6-r.length))<=2^54:=VU (by decide) (by lia);have:=h.le;lia
theorem Acc.turn{r:List Int}{x:Int}(h:Acc Ob (x::r) acc):Acc Ob r (U5 acc x.toNat)/\(acc:Int)/(UA acc x:Nat)*x=(U5 acc x.toNat:Nat)/\(acc:Int)/(UA acc x:Nat)<=acc/\0<UA acc x:=by
 have hx:=h.Cd x Sq;have hp:=h.pos;obtain⟨n,rfl⟩:=SS (show 0<=x by lia);have hg:UA (acc:Int) (n:Int)=TR acc n:=rfl;refine⟨⟨Nat.lcm_pos hp (by lia),?_,?_,h.val,λy hy=>h.Cd y (Sl _ hy)⟩,?_,?_,?_⟩
 .have h1:U5 acc n<=acc*n:=WE (Nat.mul_pos hp (by lia)) (Nat.lcm_dvd (Yk ..) (Yw ..));have h2:acc*n<=2^(9*(6-(r.length+1)))*2^9:=UZ h.le (by lia);have hl:r.length+1<=6:=h.len;rw[<- Nat.pow_add,show 9*(6-(r.length+1))+9=9*(6-r.length) by lia] at h2;exact SE h1 h2
 .have hl:r.length+1<=6:=h.len;lia
 .rw[hg,TH,<- Lc.CM];norm_cast
 .rw[hg];exact Yj.mpr (YN acc (TR acc n))
 .rw[hg];exact Nat.gcd_pos_of_pos_left _ hp
theorem iB(Ob:List Int)(hp:cB p=some (Ob.map PV.int))(h:Sz Ob):fg [p]=M.ok (.int (R Ob)):=by
 unfold fg fq;dsimp? [hp];refine mR Ob (λr env=>∃ acc x,env=[some (.sh p),some (.sh (.int (acc:Nat))),x]/\Acc Ob r acc) ⟨1,_,rfl,.start h⟩ ?_ ?_
 .rintro a r env ⟨acc,x,rfl,A⟩;obtain⟨A2,e1,e2,e3⟩:=A.turn;have l1:=A.lt;have ha:=A.Cd a Sq;obtain⟨s,t,ec,_,_,_⟩:=zS (acc:Int) a (by lia) (by lia);have g1:UA acc a<=acc:=WE A.pos (Int.ofNat_dvd.mp (Yx ..));have d0:0<=(acc:Int)/(UA acc a:Nat):=V3 (by lia) (by lia);refine⟨_,[some (.sh p),some (.sh (.int (U5 acc a.toNat:Nat))),some (.sh (.int a))],rfl,?_,_,_,rfl,A2⟩;dsimp? [ec,za,ba (i:=(acc:Int)) (show (0:Int)<(UA acc a:Nat) by lia) (show ((UA acc a:Nat):Int)<2^64 by lia),bN (k:=64) (l:=64) (show ((acc:Int)/(UA acc a:Nat)).natAbs<2^64 by lia) (show a.natAbs<2^64 by lia),e1]
 .rintro Oc ⟨acc,x,rfl,A⟩;dsimp? [];have:=A.val;rw[R,<- this];rfl
def vX(Ob:List Int)(levers:List (List Int)):List (Str×PV):=[("dial_sizes", tI Ob),("lever_settings", .tup (levers.map tI)),("lever_prices", tI (R7 levers.length 1)),("least_round", .int (R Ob))]
def iM(Ob:List Int)(levers:List (List Int)):PV:=.obj ay (vX Ob levers)
structure K3 (Ob xs:List Int):Prop where
 len:xs.length=Ob.length
 Cd:∀ z∈xs.zip Ob,0<=z.1/\z.1<z.2
theorem vG(f:Str)(p:PV):∀ fs:List (Str×PV),(uw f p fs).length<=fs.length+1
 | []=>by simp[uw]
 | (g,q)::r=>by
  have:=vG f p r;unfold uw
  split
  .simp
  .simp;lia
variable{n:Nat}
theorem jk{f:Str}{fs:List (Str×PV)}(h:fs.length<=n):(uw f p fs).length<=n+1:=SE (vG f p fs) (by lia)
theorem fU(a C:Addr)(f:Str)(p:PV)(fs:List (Str×PV))(r:af)(h:fs.length<1000):Bh 0 C f p (some (.bd a C fs)::r)=M.ok (.nx (some (.bd a C (uw f p fs))::r)):=by
 show cA _ _=_;rw[aw ⟨rfl,h⟩];rfl
theorem ER{f:List Int->PV}(hf:f=tI\/f=lI)(Ob:List Int)(levers:List (List Int))(hp:cB p=some (Ob.map PV.int))(h:Sz Ob)(h8:levers.length<=8)(hl:∀ l∈levers,l.length=Ob.length):cj ay ff [.bG] [p,.lst (levers.map f)]=M.ok (iM Ob (levers.map λl=>I_ l Ob)):=by
 have key:∀ a,ff a ([p,.lst (levers.map f)]++[.bG])=M.ok (vX Ob (levers.map λl=>I_ l Ob)):=by
  intro a;have e1:c5 (cX 0) none (ai jg (aa (ae 0) (aa (ae 1) aj))) (levers.map f) [none,some (.sh p)]=M.ok (levers.map λl=>tI (I_ l Ob)):=by
   refine lK levers λl hm=>?_;have hs:=hl l hm;have:=By (f l) p l Ob (Kg hf l) hp (λs hs=>by have:=h.hx s hs;lia) (by rw[hs];have:=h.h6;lia);dsimp? [this]
  unfold ff jx;simp only[lr];rw[aw (show ([p,PV.lst (levers.map f)]++[PV.bG]).length+1=4 from rfl)];simp only[oV,vU];dsimp? [hp,eM hp,rA Ob hp h.h1 h.h6 h.hx,qC hf Ob.length levers h8 hl (by have:=h.h6;lia),gJ,hp,eM hp,R_,aw (aW (show levers.length<=1000 by lia)),e1,kz _ (show (levers.map f).length<=8 by rw[R_];exact h8),iB Ob hp h];rw[fU _ _ _ _ _ _ (by simp)];dsimp? [gJ,hp,eM hp,R_,aw (aW (show levers.length<=1000 by lia)),e1,kz _ (show (levers.map f).length<=8 by rw[R_];exact h8),iB Ob hp h];rw[fU _ _ _ _ _ _ (Tp (jk (TY 0)) (by decide))];dsimp? [gJ,hp,eM hp,R_,aw (aW (show levers.length<=1000 by lia)),e1,kz _ (show (levers.map f).length<=8 by rw[R_];exact h8),iB Ob hp h];rw[fU _ _ _ _ _ _ (Tp (jk (jk (TY 0))) (by decide))];dsimp? [gJ,hp,eM hp,R_,aw (aW (show levers.length<=1000 by lia)),e1,kz _ (show (levers.map f).length<=8 by rw[R_];exact h8),iB Ob hp h];rw[fU _ _ _ _ _ _ (Tp (jk (jk (jk (TY 0)))) (by decide))];dsimp? [];show cA _ _=_;rw[aw ⟨rfl,rfl⟩];rw[vX,S_,R_];rfl
 unfold cj;rw[sZ key];rfl
theorem CI(Ob:List Int)(levers:List (List Int)):(vX Ob levers).lookup (Si "dial_sizes")=some (tI Ob):=rfl
theorem zY(Ob:List Int)(levers:List (List Int)):(vX Ob levers).lookup (Si "lever_settings")=some (.tup (levers.map tI)):=rfl
theorem Km(Ob:List Int)(levers:List (List Int)):(vX Ob levers).lookup (Si "sizes")=none:=rfl
theorem wd(Ob:List Int)(levers:List (List Int)):bc [iM Ob levers]=M.ok (tI Ob):=by
 unfold bc bw;dsimp? [cv,iM,beq_self_eq_true,CI]
theorem Aj(Ob:List Int)(levers:List (List Int)):bh [iM Ob levers]=M.ok (.tup (levers.map tI)):=by
 unfold bh bu;dsimp? [cv,iM,beq_self_eq_true,zY]
variable{levers:List (List Int)}
theorem Ea{g:af->M PV}{env:af}(h:g env=M.ok (iM Ob levers)):bP ay "sizes" bc g aj env=M.ok (tI Ob):=by
 have:=wd Ob levers;rw[bP,h,M.aP];show cA _ (M.bind (aj env) _)=_;rw[aw ⟨rfl,Km Ob levers⟩];exact this
def wk(Ob xs:List Int):Bool:=decide ((xs.length:Int)=Ob.length)&&(xs.zip Ob).all λz=>decide (0<=z.1/\z.1<z.2)
variable{xs:List Int}
theorem pj:wk Ob xs=true ↔ K3 Ob xs:=by
 unfold wk;constructor
 .intro h;simp only[SX,decide_eq_true_eq,SD] at h;exact⟨by lia,h.2⟩
 .intro h;simp only[SX,decide_eq_true_eq,SD];exact⟨by rw[h.len],h.Cd⟩
theorem CQ(x s:Int):∀ env:af,env=[some (.sh (.int x)),some (.sh (.int s))]->lD Ew Fi (λ_=>M.ok (.int 0)) (ae 0) (ae 1) env=M.ok (.bl (decide (0<=x/\x<s))):=by
 rintro env rfl;dsimp? []
 by_cases h:0<=x
 .simp only[h,decide_true,if_true,true_and]
  try dsimp? []
 .simp only[h,decide_false,false_and]
  try dsimp? []
theorem xk(h:α->Bool)(xs:List α):qu [.lst (xs.map λa=>.bl (h a))]=M.ok (.bl (xs.all h)):=by
 have:=vC (xs.map h);rw[S_] at this;rw[show (λa=>PV.bl (h a))=PV.bl∘h from rfl,this];simp[Yi]
theorem pZ(h:Sz Ob)(xs:List Int)(hz:xs.length<=1000):bL [iM Ob levers,tI xs]=M.ok (.bl (wk Ob xs)):=by
 have key:c5 (b_ 0 1) none (lD Ew Fi (λ_=>M.ok (.int 0)) (ae 0) (ae 1)) ((xs.zip Ob).map λz=>.tup [.int z.1,.int z.2]) [none,none]=M.ok ((xs.zip Ob).map λz=>.bl (decide (0<=z.1/\z.1<z.2))) :=
  lF (p:=λz:Int×Int=>PV.int z.1) (q:=λz:Int×Int=>PV.int z.2) (xs.zip Ob) λz hz=>CQ z.1 z.2 _ rfl
 have hl:(xs.zip Ob).length<=sizeLine:=by rw[Us];exact aW (SE (YM _ _) hz)
 unfold bL da;dsimp? [Ea (Ob:=Ob) (levers:=levers) (g:=ae 0) (env:=[some (.sh (iM Ob levers)),some (.sh (tI xs)),none]) rfl,xS xs Ob.length (aW hz)];unfold wk
 by_cases e:(xs.length:Int)=Ob.length
 .simp only[e,decide_true,YZ,Wq,if_false,Y0];dsimp? [fJ (p:=tI xs) (q:=tI Ob) xs Ob rfl rfl,R_,aw hl,key,xk]
 .simp only[e,decide_false,YV,if_true,Xg];dsimp? []
theorem ph(h:Sz Ob)(hs:K3 Ob xs):aC [iM Ob levers,tI xs]=M.ok .bG:=by
 unfold aC bp;dsimp? [pZ (levers:=levers) h xs (by rw[hs.len];have:=h.h6;lia),pj.mpr hs]
theorem yv{ys:List Int}{z:Int×Int}(h:z∈xs.zip ys):z.1∈xs/\z.2∈ys:=UP (a:=z.1) (b:=z.2) h
def mk(r:Row):PV:=.tup [tI r.1,tI r.2]
theorem drop_cons{xs:List α}{d:Nat}{a:α}{r:List α}(h:xs.drop d=a::r):d<xs.length/\xs[d]?=some a/\xs.drop (d+1)=r:=by
 have hd:d<xs.length:=by
  rcases W4 d xs.length with q | q
  .exact q
  .rw[VA q] at h;cases h
 rw[Uq hd] at h;injection h with h1 h2
 exact⟨hd,by rw[R8 hd,h1],h2⟩
theorem rO(env:af):n9 aj env=M.ok []:=by
 simp only[n9,aj,M.aP];exact if_pos (TY _)
theorem CU{a b:Int}(h1:-1000<=a)(h2:a<=1000)(h3:-1000<=b)(h4:b<=1000):wW [.int a,.int b]=M.ok ((S7 (b-a).toNat).map λ(i:Nat)=>.int (a+(i:Int))):=by
 have h:-(2^62)<=a/\a<2^62/\-(2^62)<=b/\b<2^62:=by lia
 show cA (-(2^62)<=a/\a<2^62/\-(2^62)<=b/\b<2^62) _=_;rw[aw h]
variable{k:Nat}
section
variable{m:Nat}{A:Nat->m9}{rows:List Row}{left:Row}
def Ft(Ob:List Int)(rows:List Row)(r:Row)(f:Nat):Nat->Row
 | 0=>r
 | c+1 =>
  let l:=Ft Ob rows r f c
  N_ Ob l 1 (row rows (f+c)) (-(vf l.1 (f+c)/K4 (vf Ob) (DD rows) (f+c)))
end
variable{Ls:List (List Int)}
section
variable{m:Nat}{A:Nat->m9}{rows:List Row}
end
variable{idle:List (List Int)}
section
variable{R:List Row}
end
section
variable{R:List Row}
end
theorem iX(p:PV)(n:Nat)(h8:n<=1000):bC (.lst [p]) (.int (n:Int))=M.ok (.lst (R7 n p)):=by
 have h2:[p].length*(n:Int).toNat<=sizeLine:=by
  rw[TH];exact aW (by show 1*n<=1000;lia)
 have h3:(n:Int)<2^63:=XQ (Yj.mpr h8) (by decide);have h4:-(2^63)<=(n:Int):=Int.le_trans (by decide) (XR n);rw[bC,aw ⟨h4,h3,h2⟩,TH,uN]
theorem DH{a b:Int}(h:b∈R7 n a):b=a:=WG h
theorem pick(l:List Int)(c:Int)(n:Nat)(hn:l.length=n)(h0:0<n):∃ x,x∈l/\aS (.lst (l.map PV.int)) (.int (c%(n:Int)))=M.ok (.int x):=by
 have h1:0<=c%(n:Int):=Td _ (by lia);have h2:c%(n:Int)<n:=SO _ (by lia);obtain⟨j,hj⟩:=SS h1;have hj':j<l.length:=by lia
 refine⟨l[j],Tv _,?_⟩;rw[hj];exact cu (p:=.lst (l.map PV.int)) (j:=j) rfl (by rw[Sx,R8 hj'];rfl)
theorem two{c:Int}:c%2=0\/c%2=1:=by lia
theorem FU(S:Sz Ob):∀ i,i<Ob.length->0<vf Ob i/\vf Ob i<=360:=λi hi=>by
 have:=S.hx _ (Tv hi);rw[<- gO hi] at this;lia
theorem GS(h:xs.length=Ob.length)(h0:∀ i,i<Ob.length->0<=vf xs i/\vf xs i<vf Ob i):K3 Ob xs:=⟨h,λz hz=>by
 obtain⟨i,hi,rfl⟩:=SJ.mp hz;rw[Us] at hi;have:=h0 i (by lia);rw[gO (by lia),gO (by lia)] at this;simpa using this⟩
def ml(ns:List Int)(a b:Nat):List Int:=(ns.drop (HT.du ns.length 0 (some (a:Int)))).take (HT.du ns.length ns.length (some (b:Int))-HT.du ns.length 0 (some (a:Int)))
theorem yc(ns:List Int)(a b:Nat):Bs (.gc (ns.map PV.int)) (some (a:Int)) (some (b:Int))=M.ok (.lst ((ml ns a b).map PV.int)):=by
 show M.ok (PV.lst (mE (ns.map PV.int) _ _))=_;rw[mE,ml,List.map_take,Y4,R_]
theorem rH(ns:List Int)(a b:Nat):(ml ns a b).length<=b-a:=by
 unfold ml;rw[U0,U1,HT.o7,HT.o7];lia
theorem wQ{z:Int×Nat}(h:z∈xs.zipIdx):z.2<xs.length:=by
 obtain⟨i,hi,rfl⟩:=SJ.mp h;simp at hi ⊢;exact hi
section
variable{R:List Row}{A:Nat->m9}
theorem FH:uM ay "sizes" bc (iM Ob Ls) (M.ok [])=M.ok (tI Ob):=(nP (fl:=vX Ob Ls) rfl).trans (wd Ob Ls)
def lst(Ob:List Int)(Ls:List (List Int))(R:List Row)(xs:List Int):List Int:=(Ft Ob R (xs,R7 Ls.length 0) 0 Ob.length).1
theorem DG(xs:List PV):bL [iM Ob Ls,.lst xs]=M.ok (.bl false):=by
 unfold bL da;dsimp? [dJ,FH]
theorem DL:bL [iM Ob Ls,.bG]=M.ok (.bl false):=by
 unfold bL da;dsimp? [dJ,FH]
theorem wX(S:Sz Ob)(hz:xs.length<=1000)(h:wk Ob xs=false):bL [iM Ob Ls,tI xs]=M.ok (.bl false):=by
 rw[pZ S xs hz,h]
theorem ki(h:bL [iM Ob Ls,p]=M.ok (.bl false)):aC [iM Ob Ls,p]=some (.error (aM,none)):=by
 unfold aC bp;dsimp? [h,iQ,aw (aW (show 1<=1000 by decide))]
end
variable{raw:List (List Int)}
section
variable{R:List Row}
theorem xO(S:Sz Ob){F:List Int}(h:F.length=Ob.length)(k:∀ i,i<Ob.length->0<=vf F i/\vf F i<vf Ob i):Bd 200 F:=λx hx=>by
 obtain⟨i,hi,rfl⟩:=SJ.mp hx;have h2:=k i (by lia);rw[gO hi] at h2;have:=FU S i (by lia);lia
end
variable{T:List Row}{ns:List Int}
theorem N3:uM ay "levers" bh (iM Ob Ls) (M.ok [])=M.ok (.tup (Ls.map tI)):=(nP (fl:=vX Ob Ls) rfl).trans (Aj Ob Ls)
def ad(Ob xs ys:List Int)(t:Int):List Int:=I_ ((xs.zip ys).map λz=>z.1+t*z.2) Ob
def Kp(Ob xs:List Int):Prop:=xs.length=Ob.length/\∀ i,i<Ob.length->0<=vf xs i/\vf xs i<vf Ob i
theorem Kp.Lb(h:Kp Ob xs):K3 Ob xs:=GS h.1 h.2
theorem Kp.bd(S:Sz Ob)(h:Kp Ob xs):Bd 200 xs:=xO S h.1 h.2
def Iu(P:List Int):List (Str×PV):=[("pulls", tI P)]
def way(P:List Int):PV:=.obj bU (Iu P)
theorem Hv(P:List Int):cj bU mI [] [tI P]=M.ok (way P):=by
 have key:∀ a,mI a ([tI P]++[])=M.ok (Iu P):=by
  intro a;unfold mI lA;simp only[lr];rw[aw (show ([tI P]++([]:List PV)).length+1=2 from rfl)];simp only[oV,vU];dsimp? [gJ];rw[fU _ _ _ _ _ _ (by simp)];dsimp? [];show cA _ _=_;rw[aw ⟨rfl,rfl⟩];rfl
 unfold cj;rw[sZ key];rfl
theorem w9(c:Int)(k:Nat)(hk:k<=100):∃ x,cT [.int c,.int (k:Int)]=M.ok (.int x)/\0<=x/\x<2147483579:=by
 obtain⟨a,ea,a0⟩:∃ a,bS (.int (c%2147483647*48271+7919*(k:Int)+13)) (.int 2147483629)=M.ok (.int a)/\0<=a/\a<2147483629:=⟨_,az (by decide),Td _ (by decide),SO _ (by decide)⟩
 obtain⟨b,eb,b0⟩:∃ b,bS (.int (a*a+104729*(k:Int)+7)) (.int 2147483587)=M.ok (.int b)/\0<=b/\b<2147483587:=⟨_,az (by decide),Td _ (by decide),SO _ (by decide)⟩
 refine⟨b*b%2147483579,?_,Td _ (by decide),SO _ (by decide)⟩;unfold cT e6;dsimp? [az (i:=c) (j:=2147483647) (by decide),bN (i:=c%2147483647) (j:=48271) (k:=32) (l:=31) (by lia) (by decide),bN (i:=7919) (j:=(k:Int)) (k:=31) (l:=31) (by decide) (by lia),ea,bN (i:=a) (j:=a) (k:=32) (l:=32) (by lia) (by lia),bN (i:=104729) (j:=(k:Int)) (k:=31) (l:=31) (by decide) (by lia),eb,bN (i:=b) (j:=b) (k:=32) (l:=32) (by lia) (by lia),az (i:=b*b) (j:=2147483579) (by decide)]
theorem sF(c:Int)(p:PV)(bases:List Int)(hp:cB p=some (bases.map PV.int))(hb:∀ b∈bases,0<b/\b<2^60)(hl:bases.length<=100):∃ xs:List Int,de [.int c,p]=M.ok (tI xs)/\xs.length=bases.length/\∀ z∈xs.zip bases,0<=z.1/\z.1<z.2:=by
 suffices h:oh (de [.int c,p]) λq=>∃ xs:List Int,q=tI xs/\xs.length=bases.length/\∀ z∈xs.zip bases,0<=z.1/\z.1<z.2 by
  obtain⟨_,e,xs,rfl,q⟩:=h;exact⟨xs,e,q⟩
 unfold de dM;dsimp? [rO,hp];refine oh.loop (xs:=bases) (inj:=PV.int) (λr env=>∃ (d xs:List Int) (left:Int) (y:Option SV),env=[some (.sh (.int left)),some (.sh p),some (.ow (xs.map PV.int)),y]/\bases=d++r/\xs.length=d.length/\∀ z∈xs.zip d,0<=z.1/\z.1<z.2) ⟨[],[],c,none,rfl,rfl,rfl,λ_ h=>nomatch h⟩ ?_ ?_
 .rintro b r env ⟨d,xs,left,y,rfl,hd,hx,hz⟩;have RD:=hb b (by rw[hd];simp);have dl:d.length<=100:=by
   have:=congrArg Yz hd;rw[Sw] at this;lia
  dsimp? [cX,yh,ownAt,az (i:=left) RD.1,yA (xs:=xs.map PV.int) (show (xs.map PV.int).length<1000 by simp;lia),rZ,ba (i:=left) RD.1 (show b<2^64 by lia)];refine⟨_,rfl,d++[b],xs++[left%b],left/b,_,rfl,by rw[hd];simp,by simp[hx],λz QV=>?_⟩;rw[List.zip_append hx] at QV;rcases VY.mp QV with q | q
  .exact hz z q
  .rw[XS,List.zip_nil_left] at q;rw[Tq.mp q];exact⟨Td _ (by lia),SO _ RD.1⟩
 .rintro env ⟨d,xs,left,y,rfl,hd,hx,hz⟩;rw[SK] at hd;subst hd;dsimp? [];exact⟨_,rfl,xs,rfl,hx,hz⟩
theorem D9(c:Int):∃ x,dY [.int c]=M.ok (.int x)/\2<=x/\x<=360:=by
 obtain⟨v,hv,ev⟩:=pick [2,3,4,6,8,9,12] (c/3) 7 rfl (by decide);obtain⟨w,hw,ew⟩:=pick [1,2,5,10,30] (c/21) 5 rfl (by decide);rw[show ((7:Nat):Int)=7 from rfl] at ev;rw[show ((5:Nat):Int)=5 from rfl] at ew;have v1:2<=v/\v<=12:=by simp at hv;lia
 have w1:1<=w/\w<=30:=by simp at hw;lia
 unfold dY iu
 by_cases h:c%3=0
 .refine⟨2+c/3%359,?_,by lia,by lia⟩;dsimp? [az (i:=c) (j:=3) (by decide),h,decide_true,ba (i:=c) (j:=3) (by decide) (by decide),az (i:=c/3) (j:=359) (by decide)]
 .refine⟨v*w,?_,?_,?_⟩
  .simp only[Su,UM] at ev ew;dsimp? [az (i:=c) (j:=3) (by decide),h,decide_false,ba (i:=c) (j:=3) (by decide) (by decide),az (i:=c/3) (j:=7) (by decide),ev,ba (i:=c) (j:=21) (by decide) (by decide),az (i:=c/21) (j:=5) (by decide),ew,bN (i:=v) (j:=w) (k:=31) (l:=31) (by lia) (by lia)]
  .have:2*1<=v*w:=YX v1.1 w1.1 (by decide) (by lia);lia
  .have:v*w<=12*30:=YX v1.2 w1.2 (by lia) (by decide);lia
theorem yV(c:Int):oh (fX [.int c]) λp=>∃ xs:List Int,p=lI xs/\Sz xs:=by
 unfold fX gy;dsimp? [az (i:=c) (j:=2) (by decide)];rcases two (c:=c) with h | h
 .obtain⟨m,em,m1,m6⟩:∃ m:Nat,1+c/2%6=(m:Int)/\1<=m/\m<=6:=⟨(1+c/2%6).toNat,by lia,by lia,by lia⟩
  simp only[h,decide_true];obtain⟨xs,ex,xl,xb⟩:=sF (c/12) (.lst (R7 m (.int 359))) (R7 m 359) (by rw[Tu];rfl) (λb hb=>by rw[DH hb];decide) (by simp;lia);rw[VC] at xl;dsimp? [ba (i:=c) (j:=2) (by decide) (by decide),az (i:=c/2) (j:=6) (by decide),em,ba (i:=c) (j:=12) (by decide) (by decide),iX (.int 359) m (by lia),ex,R_,aw (aW (show xs.length<=1000 by lia)),lK (f:=ak cJ (λ_=>M.ok (.int 2)) (ae 0)) (inj:=PV.int) (h:=λx=>.int (2+x)) (rest:=[]) (x0:=none) xs λa _=>by dsimp? []];refine⟨_,rfl,xs.map (2+·),by rw[lI,S_];rfl,by simp;lia,by simp;lia,λx hx=>?_⟩;obtain⟨y,hy,rfl⟩:=Uv.mp hx;obtain⟨i,hi,rfl⟩:=SJ.mp hy;have:=xb (xs[i],359) (SJ.mpr ⟨i,by simp;lia,by simp⟩);simp at this;lia
 .simp only[h,show ¬ (1:Int)=0 by decide,decide_false];obtain⟨v,hv,ev⟩:=pick [1,2,3,4,2,3,5,6] (c/2) 8 rfl (by decide);rw[show ((8:Nat):Int)=8 from rfl] at ev;simp only[Su,UM] at ev;obtain⟨m,rfl,m1,m6⟩:∃ m:Nat,v=(m:Int)/\1<=m/\m<=6:=⟨v.toNat,by simp at hv;lia,by simp at hv;lia,by simp at hv;lia⟩
  have ex:∀ k:Nat,∃ x:Int,k<=100->(∃ y,cT [.int (c/16),.int (k:Int)]=M.ok (.int y)/\dY [.int y]=M.ok (.int x))/\2<=x/\x<=360:=λk=>by
   by_cases hk:k<=100
   .obtain⟨y,ey,_⟩:=w9 (c/16) k hk;obtain⟨x,e,q⟩:=D9 y;exact⟨x,λ_=>⟨⟨y,ey,e⟩,q⟩⟩
   .exact⟨0,λh=>(hk h).elim⟩
  obtain⟨f,hf⟩:=WR.mp ex;have key:c5 (cX 0) none (ai dY (aa (ai cT (aa (ak bW (ae 1) (λ_=>M.ok (.int 16))) (aa (ae 0) aj))) aj)) ((S7 m).map λ(i:Nat)=>.int (i:Int)) [none,some (.sh (.int c))]=M.ok ((S7 m).map λk=>.int (f k)):=by
   refine lK (inj:=λ(i:Nat)=>PV.int (i:Int)) (S7 m) λi hi=>?_;have:=UC.mp hi;obtain⟨⟨y,e1,e2⟩,_⟩:=hf i (by lia);dsimp? [ba (i:=c) (j:=16) (by decide) (by decide),e1,e2]
  dsimp? [ba (i:=c) (j:=2) (by decide) (by decide),az (i:=c/2) (j:=8) (by decide),ev,CP (n:=(m:Int)) (by lia) (by lia),TH,R_,List.length_range,aw (aW (show m<=1000 by lia)),key];refine⟨_,rfl,(S7 m).map f,by rw[lI,S_];rfl,by simp;lia,by simp;lia,λx hx=>?_⟩;obtain⟨k,hk,rfl⟩:=Uv.mp hx;have:=UC.mp hk;exact(hf k (by lia)).2
theorem Hh{ys:List Int}(hl:xs.length=ys.length)(h:∀ z∈xs.zip ys,0<=z.1/\z.1<z.2):∀ i,i<ys.length->0<=vf xs i/\vf xs i<vf ys i:=λi hi=>by
 have:=h (xs[i]'(by lia),ys[i]) (SJ.mpr ⟨i,by simp;lia,by simp⟩);rw[gO (by lia),gO hi];exact this
theorem En(i j:Nat)(env:af)(p q:PV):Ks i j env [p,q]=M.ok (.nx ((env.set i (some (.sh p))).set j (some (.sh q)))):=rfl
theorem xP(a b:Nat):eA [.int (a:Int),.int (b:Int)]=M.ok (.int (TR a b:Nat)):=by
 unfold eA eK;dsimp? [];refine xf (λenv=>∃ p q:Nat,env=[some (.sh (.int p)),some (.sh (.int q))]/\TR p q=TR a b) (λenv=>match env with
  | [_,some (.sh (.int q))]=>q.toNat
  | _=>0) ⟨a,b,rfl,rfl⟩ ?_ ?_
 .rintro env ⟨p,q,rfl,hg⟩
  by_cases h0:(0:Int)<q
  .refine .inr ⟨by dsimp? [h0,decide_true],[some (.sh (.int q)),some (.sh (.int ((p%q:Nat):Int)))],?_,⟨q,p%q,rfl,?_⟩,?_⟩
   .dsimp? [Ia,En,az (i:=(p:Int)) h0];rfl
   .rw[<- hg,Nat.gcd_comm p q,Nat.gcd_rec q p,Nat.gcd_comm]
   .show ((p%q:Nat):Int).toNat<(q:Int).toNat;have:=Nat.mod_lt p (show 0<q by lia);lia
  .exact .inl (by dsimp? [h0,decide_false])
 .rintro Oc ⟨p,q,rfl,hg⟩ hu;have hq:q=0:=by
   revert hu;dsimp? [];intro hu;have:(decide ((0:Int)<q))=false:=by injection hu with hu;injection hu
   simp at this;lia
  subst hq;rw[Nat.gcd_zero_right] at hg;subst hg;dsimp? []
theorem yT(ns:List Int)(k:Nat)(hk:k<=100):∃ c,fF [.gc (ns.map PV.int),.int (k:Int)]=M.ok (.int c):=by
 unfold fF ip
 by_cases h:(k:Int)<(ns.length:Int)
 .have h':k<ns.length:=by lia
  exact⟨ns[k],by dsimp? [R_,h,decide_true,cu (p:=.gc (ns.map PV.int)) (j:=k) (x:=.int ns[k]) rfl (by rw[Sx,R8 h'];rfl)]⟩
 .exact⟨((k:Int)+2)*104729%65537,by dsimp? [R_,h,decide_false,bN (i:=(k:Int)+2) (j:=104729) (k:=31) (l:=31) (by lia) (by decide),az (i:=((k:Int)+2)*104729) (j:=65537) (by decide)]⟩
def dot(F xs:List Int):Int:=((F.zip xs).map λz=>z.1*z.2).sum
theorem xU{β:Type}(f:α->α->β)(xs:List α):((xs.zip xs).map λz=>f z.1 z.2)=xs.map λz=>f z z:=by
 induction xs with
 | nil=>rfl
 | cons a r ih=>simp only[XS,Su,ih]
theorem B7(F xs:List Int):xq [.lst ((F.zip xs).map λz=>PV.int (z.1*z.2))]=M.ok (.int (dot F xs)):=by
 have:=Av ((F.zip xs).map λz=>z.1*z.2);rw[S_] at this;exact this
theorem Cg{a b:PV}(x:Int):∃ c,aS (.lst [a,b]) (.int (x%2))=M.ok c/\(c=a\/c=b):=by
 rcases show x%2=0\/x%2=1 by lia with h | h <;> rw[h]
 .exact⟨a,cu (p:=.lst [a,b]) (j:=0) rfl rfl,.inl rfl⟩
 .exact⟨b,cu (p:=.lst [a,b]) (j:=1) rfl rfl,.inr rfl⟩
theorem F5(xs:List PV)(k:Nat):Bs (.lst xs) none (some (k:Int))=M.ok (.lst (xs.take k)):=by
 show M.ok (PV.lst (mE xs none (some (k:Int))))=_;rw[mE,HT.uR,HT.o7,YT,Nat.sub_zero,<- List.take_take,Vz (l:=xs) (Se _)]
theorem x8(xs:List PV)(k:Nat):Bs (.lst xs) (some ((k:Int)+1)) none=M.ok (.lst (xs.drop (k+1))):=by
 show M.ok (PV.lst (mE xs (some ((k:Int)+1)) none))=_;rw[show ((k:Int)+1)=((k+1:Nat):Int) by lia,mE,HT.uR,HT.o7];rcases Nat.le_total (k+1) xs.length with h | h
 .rw[Nat.min_eq_left h,Vz (by rw[U1];lia)]
 .rw[Nat.min_eq_right h,W5 (by lia),W5 h];simp
theorem gN(xs ys:List PV)(h:xs.length+ys.length<=1000):cJ (.lst xs) (.lst ys)=M.ok (.lst (xs++ys)):=by
 rw[cJ,aw (aW h)]
theorem FN{Q:PV->Prop}{ws:List PV}(h:∀ p∈ws,Q p){j:Int}(h0:0<=j)(h1:j<ws.length):∃ p,aS (.lst ws) (.int j)=M.ok p/\Q p:=by
 obtain⟨k,rfl⟩:=SS h0;have hk:k<ws.length:=by lia
 exact⟨ws[k],cu (xs:=ws) rfl (R8 hk),h _ (Tv hk)⟩
theorem rE{set:PV->af->M af}{body:af->M Out}{α:Type}{inj:α->PV}{ok:α->Bool}{stop:α->M Out}(J:List α->af->Prop)(hs:∀ a k,(stop a).bind (C0 k)=stop a)
  (H:∀ a r env,J (a::r) env->∃ e',set (inj a) env=M.ok e'/\(ok a=true->∃ Oc,body e'=M.ok (.nx Oc)/\J r Oc)/\(ok a=false->body e'=stop a)):∀ (xs:List α) (env:af),J xs env ->
  (∃ Oc,xs.find? (λa=>!ok a)=none/\gZ set body (xs.map inj) env=M.ok (.nx Oc)/\J [] Oc)\/∃ a,xs.find? (λa=>!ok a)=some a/\gZ set body (xs.map inj) env=stop a
 | [],env,h=>.inl ⟨env,rfl,rfl,h⟩
 | a::r,env,h=>by
  obtain⟨e',h1,h2,h3⟩:=H a r env h;rw[Su,gZ,h1,M.aP,List.find?_cons];cases e:ok a with
  | true =>
   obtain⟨Oc,h4,h5⟩:=h2 e;rw[h4];exact rE J hs H r Oc h5
  | false =>
   rw[h3 e];exact .inr ⟨a,rfl,hs a _⟩
theorem pR{β:Type}{k:Out->M β}{r:M β}{set:PV->af->M af}{body:af->M Out}{inj:α->PV}(ok:α->Bool)(stop:α->M Out)(xs:List α){env:af}(J:List α->af->Prop)(h:J xs env)(hs:∀ a k,(stop a).bind (C0 k)=stop a)
  (H:∀ a r env,J (a::r) env->∃ e',set (inj a) env=M.ok e'/\(ok a=true->∃ Oc,body e'=M.ok (.nx Oc)/\J r Oc)/\(ok a=false->body e'=stop a))
  (h1:xs.find? (λa=>!ok a)=none->∀ Oc,J [] Oc->k (.nx Oc)=r) (h2:∀ a,xs.find? (λa=>!ok a)=some a->(stop a).bind k=r):M.bind (gZ set body (xs.map inj) env) k=r:=by
 rcases rE J hs H xs env h with ⟨Oc,e1,e2,e3⟩ | ⟨a,e1,e2⟩
 .rw[e2,M.aP];exact h1 e1 Oc e3
 .rw[e2];exact h2 a e1
theorem DW(x:Str)(n:Int):bM [.str x,.int n]=M.ok (.bl false):=by
 unfold bM fI;dsimp? []
theorem Eo(b:Bool)(k:Nat)(n:Int)(h:1<=k)(hz:k<=1000):bM [.lst (R7 k (.bl b)),.int n]=M.ok (.bl false):=by
 rw[o_ (p:=.lst (R7 k (.bl b))) (inj:=PV.bl) (h:=λ_=>false) (R7 k b) n (.inr (by rw[Tu])) (λa _=>vZ a) (by simp;exact aW hz)];obtain⟨m,rfl⟩:∃ m,k=m+1:=⟨k-1,by lia⟩
 rw[SW,WB];simp
structure LK where
 b:Bool
 F:List Int
 n:Int
 r:Int
def fk(b:Bool)(F:List Int):PV:=match b with
 | true=>tI F
 | false=>lI F
theorem xK(b:Bool)(F:List Int):cB (fk b F)=some (F.map PV.int):=by cases b <;> rfl
theorem Bg(b:Bool)(F:List Int)(n:Int)(hz:F.length<=sizeLine):bM [fk b F,.int n]=M.ok (.bl (decide ((F.length:Int)=n))):=by
 cases b
 .exact qw F n hz
 .exact xS F n hz
def jE(z:LK):PV:=.tup [lI z.F,.int z.n,.int z.r]
def ou(p q r:PV):PV:=.obj aJ [("factors", p),("number", q),("rest", r)]
def eO(z:LK):PV:=ou (fk z.b z.F) (.int z.n) (.int z.r)
theorem t0(z:LK):aS (jE z) (.int 0)=M.ok (lI z.F):=cu (p:=jE z) (j:=0) rfl rfl
theorem t1(z:LK):aS (jE z) (.int 1)=M.ok (.int z.n):=cu (p:=jE z) (j:=1) rfl rfl
theorem t2(z:LK):aS (jE z) (.int 2)=M.ok (.int z.r):=cu (p:=jE z) (j:=2) rfl rfl
def cp:PV->PV
 | .gc xs=>.lst xs
 | p=>p
def NV(p q r:PV):List (Str×PV):=[("factors", p),("number", q),("rest", r)]
theorem fY(q r:PV)(h:(∃ xs,p=.lst xs)\/(∃ xs,p=.gc xs)\/(∃ xs,p=.tup xs)\/∃ s,p=.str s):cj aJ cL [] [p,q,r]=M.ok (ou (cp p) q r):=by
 have key:∀ a,cL a ([p,q,r]++[])=M.ok (NV (cp p) q r):=by
  intro a;rcases h with ⟨xs,rfl⟩ | ⟨xs,rfl⟩ | ⟨xs,rfl⟩ | ⟨s,rfl⟩
  all_goals
   unfold cL kj;simp only[lr];rw[aw (show ([_,q,r]++([]:List PV)).length+1=4 from rfl)];simp only[oV,vU];dsimp? [gJ,show ∀ xs,xJ (λa=>a == "list") oF oF (PV.gc xs)=M.ok (.bl true) from λ_=>rfl];rw[fU _ _ _ _ _ _ (by simp)];dsimp? [gJ];rw[fU _ _ _ _ _ _ (Tp (jk (show ([]:List (Str×PV)).length<=0 from Se 0)) (by decide))];dsimp? [gJ];rw[fU _ _ _ _ _ _ (Tp (jk (jk (show ([]:List (Str×PV)).length<=0 from Se 0))) (by decide))];dsimp? [];show cA _ _=_;rw[aw ⟨rfl,rfl⟩];rfl
 unfold cj;rw[sZ key];rfl
variable{q:PV}
theorem Jb{r:PV}:xx (λc=>c==aJ) "factors" (ou p q r)=M.ok p:=j6 (beq_self_eq_true _) rfl
theorem FL{r:PV}:xx (λc=>c==aJ) "number" (ou p q r)=M.ok q:=j6 (beq_self_eq_true _) rfl
theorem Ja{r:PV}:xx (λc=>c==aJ) "rest" (ou p q r)=M.ok r:=j6 (beq_self_eq_true _) rfl
theorem pf{r:PV}:xJ (λ_=>false) (km kG kq) (km pk pz) (ou p q r)=M.ok (.bl true):=by
 show ed ((km kG kq aJ).map .bl)=_;rw[show km kG kq aJ=some true by decide];rfl
structure vM (Ob:List Int) (z:LK):Prop where
 len:z.F.length=Ob.length
 bd:∀ x∈z.F,x.natAbs<2^100
 n2:2<=z.n
 n3:z.n<=360
 dv:∀ i,i<Ob.length->z.n∣vf z.F i*vf Ob i
def J6(Z:List LK)(xs:List Int):List Int:=Z.map λz=>dot z.F xs%z.n
def zd(Z:List LK)(xs:List Int):List Int:=Z.map λz=>(z.r-dot z.F xs%z.n)%z.n
variable{rows:List PV}{z:LK}{Z:List LK}
section
variable{u pt:PV}
theorem C8{F:List Int}(hF:∀ x∈F,x.natAbs<2^100)(hx:Bd 200 xs):c5 (b_ 0 1) none (ak bC (ae 0) (ae 1)) ((F.zip xs).map λz=>.tup [.int z.1,.int z.2]) [none,none]=M.ok ((F.zip xs).map λz=>.int (z.1*z.2)):=by
 refine lF (p:=λz:Int×Int=>PV.int z.1) (q:=λz:Int×Int=>PV.int z.2) (F.zip xs) λz hz=>?_;obtain⟨m1,m2⟩:=yv hz;dsimp? [bN (k:=100) (l:=200) (hF _ m1) (hx _ m2)]
theorem E3{b:Bool}{F:List Int}{n:Int}(hF:∀ x∈F,x.natAbs<2^100)(hx:Bd 200 xs)(hl:xs.length<=100)(hn:0<n):eT [fk b F,tI xs,.int n]=M.ok (.int (dot F xs%n)):=by
 have z1:(F.zip xs).length<=sizeLine:=by rw[Us];exact aW (SE (VG _ _) (by lia))
 unfold eT gD;dsimp? [fJ (p:=fk b F) (q:=tI xs) F xs (xK b F) rfl,R_,aw z1,C8 hF hx,B7,az (i:=dot F xs) hn]
theorem Dp(hp:cB pt=some (Z.map eO))(hz:∀ z∈Z,vM Ob z)(hZ:Z.length<=100)(hx:Bd 200 xs)(hl:xs.length<=100):gE [pt,tI xs]=M.ok (tI (J6 Z xs)):=by
 have key:c5 (cX 0) none (ai eT (aa (cv (λc=>c==aJ) "factors" (ae 0)) (aa (ae 1) (aa (cv (λc=>c==aJ) "number" (ae 0)) aj)))) (Z.map eO) [none,some (.sh (tI xs))]=M.ok ((J6 Z xs).map PV.int):=by
  rw[J6,S_];refine lK (inj:=eO) Z λz h=>?_;have f:=hz z h;have:=f.n2;dsimp? [er,eO,Jb,FL,E3 (b:=z.b) f.bd hx hl (show 0<z.n by lia)];rfl
 have zl:Z.length<=sizeLine:=aW (by lia);unfold gE gC;dsimp? [hp,R_,aw zl,key];rfl
theorem B3(hp:cB pt=some (Z.map eO))(hz:∀ z∈Z,vM Ob z)(hZ:Z.length<=100)(hx:Bd 200 xs)(hl:xs.length<=100):eU [pt,tI xs]=M.ok (tI (zd Z xs)):=by
 have e0:zip2 [pt,tI (J6 Z xs)]=M.ok (Z.map λz=>.tup [eO z,.int (dot z.F xs%z.n)]):=by
  rw[fJ (f:=eO) (g:=λz:LK=>PV.int (dot z.F xs%z.n)) Z Z hp (by rw[yI,J6,S_];rfl)];congr 1;exact xU (λa b:LK=>PV.tup [eO a,.int (dot b.F xs%b.n)]) Z
 have key:c5 (b_ 0 1) none (ak bS (ak jJ (cv (λc=>c==aJ) "rest" (ae 0)) (ae 1)) (cv (λc=>c==aJ) "number" (ae 0))) (Z.map λz=>.tup [eO z,.int (dot z.F xs%z.n)]) [none,none]=M.ok ((zd Z xs).map PV.int):=by
  rw[zd,S_];refine lF (p:=eO) (q:=λz:LK=>PV.int (dot z.F xs%z.n)) Z λz h=>?_;have f:=hz z h;have:=f.n2;dsimp? [er,eO,Ja,FL,az (i:=z.r-dot z.F xs%z.n) (j:=z.n) (by lia)];rfl
 have zl:Z.length<=sizeLine:=aW (by lia);unfold eU eW;dsimp? [Dp hp hz hZ hx hl,e0,R_,aw zl,key];rfl
theorem yD(S:Sz Ob)(z:LK)(hl:z.F.length=Ob.length)(hb:∀ x∈z.F,x.natAbs<2^100)(h1:2<=z.n)(h2:z.n<=360):bx [iM Ob Ls,eO z]=M.ok (.bl ((z.F.zip Ob).all λa=>decide (a.1*a.2%z.n=0))):=by
 have l6:=S.h6;have key:c5 (b_ 0 1) none (ak jN (ak bS (ak bC (ae 0) (ae 1)) (cv (λc=>c==aJ) "number" (ae 2))) (λ_=>M.ok (.int 0))) ((z.F.zip Ob).map λa=>.tup [.int a.1,.int a.2]) [none,none,some (.sh (eO z))]=M.ok ((z.F.zip Ob).map λa=>.bl (decide (a.1*a.2%z.n=0))):=by
  refine lF (p:=λa:Int×Int=>PV.int a.1) (q:=λa:Int×Int=>PV.int a.2) (z.F.zip Ob) λa ha=>?_;obtain⟨m1,m2⟩:=yv ha;have a2:=S.hx _ m2;dsimp? [bN (k:=100) (l:=64) (hb _ m1) (show a.2.natAbs<2^64 by lia),er,eO,FL,az (i:=a.1*a.2) (j:=z.n) (by lia)]
 have z1:(z.F.zip Ob).length<=sizeLine:=by rw[Us];exact aW (SE (VG _ _) (by lia))
 unfold bx eg;rw[eO] at key ⊢;dsimp? [dJ,FH,pf,er,Jb,FL,Ja,Bg z.b z.F (Ob.length:Int) (aW (by rw[hl];lia)),hl,decide_true,within_int,decide_eq_true (show 2<=z.n/\z.n<=360 from ⟨h1,h2⟩),kH,fJ (p:=fk z.b z.F) (q:=tI Ob) z.F Ob (xK _ _) rfl,R_,aw z1,key,xk (λa:Int×Int=>decide (a.1*a.2%z.n=0))]
theorem C9(S:Sz Ob)(f:vM Ob z):bx [iM Ob Ls,eO z]=M.ok (.bl true):=by
 rw[yD S z f.len f.bd f.n2 f.n3];congr 2;rw[SD];intro a ha;obtain⟨i,hi,e⟩:=SJ.mp ha;rw[List.getElem_zip] at e;have Q2:i<Ob.length:=by rw[Us] at hi;lia
 have:=f.dv i Q2;rw[gO (by rw[f.len];exact Q2),gO Q2] at this;rw[<- e];exact decide_eq_true (Vk this)
theorem Ez:bx [iM Ob Ls,.bG]=M.ok (.bl false):=by
 unfold bx eg;dsimp? [dJ,FH]
theorem Ek(xs:List PV):bx [iM Ob Ls,.tup xs]=M.ok (.bl false):=by
 unfold bx eg;dsimp? [dJ,FH]
theorem o6(h:bM [p,.int (Ob.length:Int)]=M.ok (.bl false)):bx [iM Ob Ls,ou p q u]=M.ok (.bl false):=by
 unfold bx eg;dsimp? [dJ,FH,pf,er,Jb,FL,Ja,R_,h]
theorem mx(h:bM [p,.int (Ob.length:Int)]=M.ok (.bl true))(h2:bH [q,.int 2,.int 360]=M.ok (.bl false)):bx [iM Ob Ls,ou p q u]=M.ok (.bl false):=by
 unfold bx eg;dsimp? [dJ,FH,pf,er,Jb,FL,Ja,R_,h,h2]
theorem Cn(h:bM [p,.int (Ob.length:Int)]=M.ok (.bl true))(h2:bH [q,.int 2,.int 360]=M.ok (.bl true))(h3:cC [u]=M.ok (.bl false)):bx [iM Ob Ls,ou p q u]=M.ok (.bl false):=by
 unfold bx eg;dsimp? [dJ,FH,pf,er,Jb,FL,Ja,R_,h,h2,h3]
end
def xm(k:Nat):EX:=(br,some [("lock", .int (k:Int))])
theorem H_:1<=sizeLine:=by unfold sizeLine;decide
variable{e:EX}
section
variable{u pt x:PV}
theorem A8(h:aC [p,x]=some (.error e)):aT [p,x,pt]=some (.error e):=by
 unfold aT cw;dsimp? [h]
theorem Ah(h:aC [p,x]=M.ok .bG)(hp:cB pt=some rows)(h6:6<rows.length):aT [p,x,pt]=some (.error (bo,none)):=by
 have g6:(6:Int)<(rows.length:Int):=by lia
 unfold aT cw;dsimp? [h,eM hp,g6,decide_true,iQ,aw H_]
theorem xY(hp:cB pt=some rows):zA [pt]=M.ok (rows.zipIdx.map λz=>.tup [.int (z.2:Int),z.1]):=pC (f:=λx=>x) rows (by rw[hp,List.map_id''];intro;rfl)
theorem DY(h:aC [p,x]=M.ok .bG)(hp:cB pt=some rows)(h6:rows.length<=6)(hk:k<rows.length)(good:∀ i y,i<k->rows[i]?=some y->bx [p,y]=M.ok (.bl true))(bad:∀ y,rows[k]?=some y->bx [p,y]=M.ok (.bl false)):aT [p,x,pt]=some (.error (xm k)):=by
 have g6:¬ (6:Int)<(rows.length:Int):=by lia
 unfold aT cw;dsimp? [h,eM hp,g6,decide_false,xY hp];refine pR (λa:PV×Nat=>decide (a.2<k)) (λa=>some (.error (xm a.2))) rows.zipIdx (λzs env=>(∃ j,j<=k/\zs=rows.zipIdx.drop j)/\∃ y3 y4,env=[some (.sh p),some (.sh x),some (.sh pt),y3,y4]) ⟨⟨0,TY _,rfl⟩,_,_,rfl⟩ (λ_ _=>rfl) ?_ (λe Oc hj=>?_) λj e=>?_
 .rintro⟨y,i⟩ zs env ⟨⟨j,hj,hz⟩,y3,y4,rfl⟩;obtain⟨c1,c2,c3⟩:=drop_cons hz.symm;rw[R8 c1] at c2;have c2:=Sm c2;rw[UB] at c2;have ei:i=j:=by have:=congrArg Zb c2;simp at this;lia
  subst ei;rw[TN] at c1;have ey:rows[i]?=some y:=by rw[R8 c1];exact congrArg some (congrArg Prod.fst c2)
  refine⟨[some (.sh p),some (.sh x),some (.sh pt),some (.sh (.int (i:Int))),some (.sh y)],rfl,λh=>⟨[some (.sh p),some (.sh x),some (.sh pt),some (.sh (.int (i:Int))),some (.sh y)],?_,⟨i+1,of_decide_eq_true h,c3.symm⟩,_,_,rfl⟩,λh=>?_⟩
  .dsimp? [good i y (of_decide_eq_true h) ey]
  .have ek:i=k:=by have:=of_decide_eq_false h;simp at this;lia
   subst ek;dsimp? [bad y ey,gK];rfl
 .have:=XT.mp e (rows[k],k) (SJ.mpr ⟨k,by rw[TN];exact hk,by simp⟩);simp at this
 .have e1:=YO e;have m:=Wt e;obtain⟨i,hi,ei⟩:=SJ.mp m;rw[UB] at ei;have e2:i=j.2:=by have:=congrArg Zb ei;simp at this;lia
  have e3:k<=j.2:=by simpa using e1
  have:j.2=k:=by
   rcases W4 k j.2 with y | y
   .exfalso;obtain⟨as,bs,h1,h2⟩:=(List.find?_eq_some_iff_append.mp e).2;have hl:as.length=j.2:=by
     have hx:rows.zipIdx[as.length]?=some j:=by rw[h1];simp
     rw[TN] at hi;rw[Xm] at hx;cases hr:rows[as.length]? with
     | none=>rw[hr] at hx;cases hx
     | some v=>rw[hr] at hx;simp at hx;rw[<- hx]
    have hm:(rows[k],k)∈as:=by
     have hx:rows.zipIdx[k]?=some (rows[k],k):=by rw[Xm,R8 hk];simp
     rw[h1,S6 (by lia)] at hx;exact Xh hx
    have:=h2 _ hm;simp at this
   .lia
  rw[this];rfl
theorem BF(h:aC [p,x]=M.ok .bG)(hp:cB pt=some rows)(h6:rows.length<=6)(good:∀ y∈rows,bx [p,y]=M.ok (.bl true)):aT [p,x,pt]=M.ok .bG:=by
 have g6:¬ (6:Int)<(rows.length:Int):=by lia
 refine oh.eq ?_;unfold aT cw;dsimp? [h,eM hp,g6,decide_false,xY hp];refine oh.loop (xs:=rows.zipIdx) (inj:=λa=>.tup [.int (a.2:Int),a.1]) (λzs env=>(∀ a∈zs,a∈rows.zipIdx)/\∃ y3 y4,env=[some (.sh p),some (.sh x),some (.sh pt),y3,y4]) ⟨λz h=>h,_,_,rfl⟩ ?_ ?_
 .rintro a r env ⟨ha,y3,y4,rfl⟩;dsimp? [b_,good a.1 (TX (ha a Sq))];exact⟨_,rfl,λz h=>ha z (Sl _ h),_,_,rfl⟩
 .rintro env ⟨_,y3,y4,rfl⟩;exact⟨_,rfl,rfl⟩
theorem uZ(S:Sz Ob)(hp:cB pt=some (Z.map eO))(hz:∀ z∈Z,vM Ob z)(hZ:Z.length<=6)(hx:Kp Ob xs):aT [iM Ob Ls,tI xs,pt]=M.ok .bG :=
 BF (ph S hx.Lb) hp (by rw[R_];exact hZ) λy hy=>by
  obtain⟨z,h,rfl⟩:=Uv.mp hy;exact C9 S (hz z h)
theorem Co(S:Sz Ob)(hp:cB pt=some (Z.map eO))(hz:∀ z∈Z,vM Ob z)(hZ:Z.length<=6)(hx:Kp Ob xs):mf [iM Ob Ls,tI xs,pt]=M.ok (.bl ((zd Z xs).all λa=>decide (a=0))):=by
 have l6:=S.h6;have w:=B3 hp hz (by lia) (hx.bd S) (by rw[hx.1];lia);have wl:(zd Z xs).length=Z.length:=by simp[zd]
 have k:c5 (cX 0) none (ak jN (ae 0) (λ_=>M.ok (.int 0))) ((zd Z xs).map PV.int) [none]=M.ok ((zd Z xs).map λa=>.bl (decide (a=0))):=lK (inj:=PV.int) (zd Z xs) λa _=>by dsimp? []
 have z1:(zd Z xs).length<=sizeLine:=aW (by lia);unfold mf rN;dsimp? [uZ S hp hz hZ hx,w,R_,aw z1,k,xk (λa:Int=>decide (a=0))]
theorem JT(h:aT [p,x,pt]=some (.error e)):mf [p,x,pt]=some (.error e):=by
 unfold mf rN;dsimp? [h]
theorem Hq(h:aT [p,x,pt]=some (.error e)):c8 [p,x,pt]=some (.error e):=by
 unfold c8 dX;dsimp? [h]
end
def lE(p:PV):PV:=.obj a_ [("shares", p)]
theorem yy(p:PV):cj a_ gI [] [p]=M.ok (lE p):=by
 have key:∀ a,gI a ([p]++[])=M.ok ([("shares", p)]:List (Str×PV)):=by
  intro a;unfold gI j2;simp only[lr];rw[aw (show ([p]++([]:List PV)).length+1=2 from rfl)];simp only[oV,vU];dsimp? [gJ];rw[fU _ _ _ _ _ _ (by simp)];dsimp? [];show cA _ _=_;rw[aw ⟨rfl,rfl⟩];rfl
 unfold cj;rw[sZ key];rfl
theorem mV(L:List (Addr×(List PV->M PV)))(m:Str)(g:af->M PV)(fs:af->M (List PV))(env:af):eY L m g fs env=(g env).bind λp=>lp L m p (fs env):=rfl
variable{x:M (List PV)}
theorem kr{L:List (Addr×(List PV->M PV))}{C:Addr}{fl:List (Str×PV)}{s1:List PV->M PV}{m:Str}(e:L.lookup C=some s1)(h:fl.lookup m=none):lp L m (.obj C fl) x=x.bind λps=>s1 (.obj C fl::ps):=by
 show cA _ _=_;rw[aw ⟨by rw[e];rfl,h⟩];unfold JI;rw[e]
section
variable{P W:List Int}{u pt x:PV}
theorem NY:xx (λc=>c==bU) "pulls" (way P)=M.ok (tI P):=j6 (beq_self_eq_true _) rfl
theorem Nr:xx (λc=>c==a_) "shares" (lE p)=M.ok p:=j6 (beq_self_eq_true _) rfl
theorem N0:lp [(bU,gx),(bQ,bX),(a_,bX)] "brings" (lE p) (M.ok [])=M.ok (.bl false):=(kr (fl:=[("shares", p)]) (s1:=bX) rfl rfl).trans rfl
theorem Cy(n:Nat)(h8:n<=1000):bC (.tup [.int 0]) (.int (n:Int))=M.ok (tI (R7 n 0)):=by
 rw[mul_one (.int 0) n h8,tI,Tu]
theorem N8:lp [(bU,cZ),(bQ,fL),(a_,cS)] "words" (way P) (M.ok [])=M.ok (.tup [.str "pulls", tI P]):=(kr (fl:=Iu P) (s1:=cZ) rfl rfl).trans (by
 show cZ [way P]=_;unfold cZ fE;dsimp? [er,NY])
theorem NZ:lp [(bU,cZ),(bQ,fL),(a_,cS)] "words" (lE p) (M.ok [])=M.ok (.tup [.str "shares", p]):=(kr (fl:=[("shares", p)]) (s1:=cS) rfl rfl).trans (by
 show cS [lE p]=_;unfold cS eN;dsimp? [er,Nr])
theorem Kx{x:M (List PV)}:uM a_ "bars" dW (lE p) x=x.bind λps=>dW (lE p::ps):=nP (fl:=[("shares", p)]) rfl
theorem HA(h:aT [p,x,pt]=some (.error e)):fx [p,x,pt]=some (.error e):=by
 have hb:dW [lE (.tup [.int 0]),p,x,pt]=some (.error e):=by
  unfold dW iA;dsimp? [h]
 unfold fx iy;dsimp? [yy,dJ,Kx,hb]
def Ds:PV:=.lst [.bl false,.bl false,.bl false]
def tab:List (Addr×(List PV->M PV)):=[(kY,mf),(cy,c8),(cz,fx)]
theorem xp{f:Addr}(hf:f=kY\/f=cy\/f=cz)(h:aT [p,x,pt]=some (.error e)):Ny tab (.fn f) (M.ok [p,x,pt])=some (.error e):=by
 rcases hf with rfl | rfl | rfl
 .exact JT h
 .exact Hq h
 .exact HA h
theorem z7{f:Addr}(hf:f=kY\/f=cy\/f=cz)(h:aT [p,x,pt]=some (.error (xm k))):cx [.fn f,p,x,pt]=M.ok (.tup [.str (Si "no lock"),.int k,Ds]):=by
 have c:=xp hf h;unfold tab at c;unfold cx dZ;dsimp? [uH,pW,c,qA,g8];rfl
theorem Ak{f:Addr}(hf:f=kY\/f=cy\/f=cz)(h:aT [p,x,pt]=some (.error (bo,none))):cx [.fn f,p,x,pt]=M.ok (.tup [.str (Si "too many"),.bG,Ds]):=by
 have c:=xp hf h;unfold tab at c;unfold cx dZ;dsimp? [uH,pW,c,qA,g8];rfl
theorem told_set{f:Addr}(hf:f=kY\/f=cy\/f=cz)(h:aT [p,x,pt]=some (.error (aM,none))):cx [.fn f,p,x,pt]=M.ok (.tup [.str (Si "no setting"),.bG,Ds]):=by
 have c:=xp hf h;unfold tab at c;unfold cx dZ;dsimp? [uH,pW,c,qA,g8];rfl
end
theorem ED{t:af->M Bool}{f:af->M PV}{inj h:α->PV}{b:α->Bool}{rest:af}{x0:Option SV}(xs:List α)(Ht:∀ a∈xs,t (some (.sh (inj a))::rest)=M.ok (b a))(H:∀ a∈xs,f (some (.sh (inj a))::rest)=M.ok (h a)):c5 (cX 0) (some t) f (xs.map inj) (x0::rest)=M.ok ((xs.filter b).map h):=by
 induction xs generalizing x0 with
 | nil=>rfl
 | cons a r ih =>
  have i:=ih (x0:=some (.sh (inj a))) (λc hc=>Ht c (Sl _ hc)) λc hc=>H c (Sl _ hc);rw[Su,c5];show M.bind (M.ok ((x0::rest).set 0 (some (.sh (inj a))))) _=_;rw[M.aP,Vf];show M.bind (t _) _=_;rw[Ht a Sq,M.aP];cases e:b a with
  | true=>rw[if_pos rfl,H a Sq,M.aP,i,List.filter_cons_of_pos e];rfl
  | false=>rw[if_neg (by simp),i,List.filter_cons_of_neg (by simp[e])]
section
variable{u pt x:PV}
theorem zq(S:Sz Ob)(c:Int):∃ n,fc [.int c,lI Ob]=M.ok (.int n)/\2<=n/\n<=360:=by
 have l1:=S.h1;have l6:=S.h6;obtain⟨k,ek⟩:=SS (Td c (show (Ob.length:Int)≠0 by lia));have hk:k<Ob.length:=by have:=SO c (show 0<(Ob.length:Int) by lia);lia
 have sk:=S.hx Ob[k] (Tv _);obtain⟨s,hs⟩:∃ s,s=Ob[k]:=⟨_,rfl⟩
 rw[<- hs] at sk;have i1:aS (lI Ob) (.int (k:Int))=M.ok (.int s):=cu (p:=lI Ob) rfl (by rw[Sx,R8 hk,hs];rfl);obtain⟨D,hD⟩:∃ D:List Int,D=((S7 (s+1-2).toNat).map λ(i:Nat)=>(2:Int)+(i:Int)):=⟨_,rfl⟩
 have Dm:∀ d∈D,2<=d/\d<=s:=λd hd=>by
  rw[hD] at hd;obtain⟨i,hi,rfl⟩:=Uv.mp hd;have:=UC.mp hi;lia
 have sD:s∈D:=by
  rw[hD];exact Uv.mpr ⟨(s-2).toNat,UC.mpr (by lia),by lia⟩
 have rg:wW [.int 2,.int (s+1)]=M.ok (D.map PV.int):=by
  rw[CU (by lia) (by lia) (by lia) (by lia),hD,S_];rfl
 have Dl:D.length<=1000:=by rw[hD];simp;lia
 have kc:c5 (cX 0) (some (c6 (ak jN (ak bS (ae 1) (ae 0)) (λ_=>M.ok (.int 0))))) (ae 0) (D.map PV.int) [none,some (.sh (.int s))]=M.ok ((D.filter λd=>decide (s%d=0)).map PV.int):=by
  refine ED (b:=λd=>decide (s%d=0)) D (λd hd=>?_) λd hd=>rfl;have:=Dm d hd;dsimp? [az (i:=s) (j:=d) (by lia)]
 obtain⟨G,hG⟩:∃ G,G=D.filter λd=>decide (s%d=0):=⟨_,rfl⟩
 rw[<- hG] at kc;have Gm:∀ d∈G,2<=d/\d<=360:=λd hd=>by
  rw[hG] at hd;have:=Dm d (VX.mp hd).1;lia
 have G1:1<=G.length:=List.length_pos_of_mem (a:=s) (by rw[hG];exact VX.mpr ⟨sD,by simp⟩);have G2:G.length<=1000:=by rw[hG];exact SE (List.length_filter_le _ _) Dl
 obtain⟨j,ej⟩:=SS (Td (c/24) (show (G.length:Int)≠0 by lia));have hj:j<G.length:=by have:=SO (c/24) (show 0<(G.length:Int) by lia);lia
 have i2:aS (.lst (G.map PV.int)) (.int (j:Int))=M.ok (.int G[j]):=cu (p:=.lst (G.map PV.int)) rfl (by rw[Sx,R8 hj];rfl);unfold fc fw
 by_cases h:c/6%4=0
 .refine⟨2+c/24%359,?_,by lia,by lia⟩;dsimp? [R_,az (i:=c) (j:=(Ob.length:Int)) (by lia),ek,i1,rg,aw (aW Dl),kc,ba (i:=c) (j:=6) (by decide) (by decide),az (i:=c/6) (j:=4) (by decide),h,decide_true,ba (i:=c) (j:=24) (by decide) (by decide),az (i:=c/24) (j:=359) (by decide)]
 .refine⟨G[j],?_,Gm _ (Tv _)⟩;dsimp? [R_,az (i:=c) (j:=(Ob.length:Int)) (by lia),ek,i1,rg,aw (aW Dl),kc,ba (i:=c) (j:=6) (by decide) (by decide),az (i:=c/6) (j:=4) (by decide),h,decide_false,ba (i:=c) (j:=24) (by decide) (by decide),az (i:=c/24) (j:=(G.length:Int)) (by lia),ej,i2]
theorem ye{x:Int}{i:Nat}:vf (xs++[x]) i=if i<xs.length then vf xs i else if i=xs.length then x else vf (xs++[x]) i:=by
 split
 .rename_i h;rw[gO (by simp;lia),gO h,List.getElem_append_left h]
 .split
  .rename_i h;subst h;rw[gO (by simp),List.getElem_append_right (by lia)];simp
  .rfl
theorem BZ:AR (.int 10) (.int 17)=M.ok (.int (10^17)):=by rfl
theorem Ec(S:Sz Ob)(hx:Kp Ob xs)(c:Int)(b:Bool):∃ F n r,dk [.int c,lI Ob,tI xs]=M.ok (jE ⟨b,F,n,r⟩)/\vM Ob ⟨b,F,n,r⟩:=by
 obtain⟨n,en,n2,n3⟩:=zq S c
 suffices h:oh (dk [.int c,lI Ob,tI xs]) λp=>∃ F r,p=jE ⟨b,F,n,r⟩/\vM Ob ⟨b,F,n,r⟩ by
  obtain⟨_,e,F,r,rfl,g⟩:=h;exact⟨F,n,r,e,g⟩
 have l6:=S.h6;have c0:0<=c%10^17/\c%10^17<10^17:=⟨Td _ (by decide),SO _ (by decide)⟩
 have c1:0<=c/21%10^17/\c/21%10^17<10^17:=⟨Td _ (by decide),SO _ (by decide)⟩
 unfold dk h9;dsimp? [en,rO,BM];refine oh.loop (xs:=Ob.zipIdx) (inj:=λa=>.tup [.int (a.2:Int),.int a.1]) (λzs env=>∃ (F:List Int) (tt:Int) (y6 y7 y8 y9:Option SV),env=[some (.sh (.int c)),some (.sh (lI Ob)),some (.sh (tI xs)),some (.sh (.int n)),some (.ow (F.map PV.int)),some (.sh (.int tt)),y6,y7,y8,y9,none]/\zs=Ob.zipIdx.drop F.length/\F.length<=Ob.length/\(∀ x∈F,x.natAbs<2^100)/\∀ i,i<F.length->n∣vf F i*vf Ob i) ⟨[],0,none,none,none,none,rfl,rfl,TY _,(λ_ h=>nomatch h),λi h=>absurd h (Nat.not_lt_zero i)⟩ ?_ ?_
 .rintro⟨s,i⟩ rr env ⟨F,tt,y6,y7,y8,y9,rfl,hd,hF,Fb,Fd⟩;obtain⟨e1,e2,e3⟩:=drop_cons hd.symm;rw[TN] at e1;rw[R8 (by rw[TN];exact e1)] at e2;have e2:=Sm e2;rw[UB] at e2;have ei:i=F.length:=by have:=congrArg Zb e2;simp at this;lia
  have es:Ob[F.length]=s:=congrArg Prod.fst e2;subst ei;have ss:=S.hx s (by rw[<- es];exact Tv _);have vs:vf Ob F.length=s:=by rw[gO e1,es]
  obtain⟨u,hu⟩:=SS (show 0<=s by lia);obtain⟨m,hm⟩:=SS (show 0<=n by lia);obtain⟨x,ex,x0,x1⟩:=w9 c F.length (by lia);have gd:=xP u m;have m0:2<=m/\m<=360:=by lia
  have g1:0<TR u m:=Nat.gcd_pos_of_pos_right _ (by lia);have g2:TR u m<=m:=Nat.gcd_le_right _ (by lia);have q1:(m:Int)/((TR u m:Nat):Int)=((m/TR u m:Nat):Int):=by simp
  have q2:m/TR u m<=360:=SE (YN _ _) m0.2;obtain⟨v,hv⟩:=SS (show 0<=x%360 by lia);have v1:v<360:=by lia
  obtain⟨q,hq⟩:∃ q:Nat,q=m/TR u m*v:=⟨_,rfl⟩
  have qb:q<2^18:=by
   rw[hq];exact Tp (UZ q2 (by lia:v<=360)) (by decide)
  have dv:m∣q*u:=by
   rw[hq];obtain⟨a,ha⟩:TR u m∣u:=WQ _ _;have h2:TR u m∣m:=Yh _ _;have:m/TR u m*v*u=m/TR u m*TR u m*(v*a):=by
    have e:v*u=TR u m*(v*a):=by
     conv=>lhs;rw[ha]
     rw[<- Vc,U3 v,Vc]
    rw[Vc,e,<- Vc]
   rw[this,Nat.div_mul_cancel h2];exact Yk _ _
  have m1:bC (.int ((m/TR u m:Nat):Int)) (.int (v:Int))=M.ok (.int (q:Int)):=by
   rw[hq];generalize m/TR u m=d at *;rw[bN (k:=31) (l:=31) (by lia) (by lia)];simp
  have w0:(x/360%3-1).natAbs<=1:=by lia
  have m3:bC (.int (m:Int)) (.int (x/360%3-1))=M.ok (.int ((m:Int)*(x/360%3-1))):=bN (k:=31) (l:=31) (by lia) (by lia);have b3:((m:Int)*(x/360%3-1)).natAbs<=360:=by
   rw[Um];exact SE (UZ (show (m:Int).natAbs<=360 by lia) w0) (by decide)
  have m4:bC (.int ((m:Int)*(x/360%3-1))) (.int (c%10^17))=M.ok (.int ((m:Int)*(x/360%3-1)*(c%10^17))):=bN (k:=31) (l:=60) (Tp b3 (by decide)) (by lia);have b4:((m:Int)*(x/360%3-1)*(c%10^17)).natAbs<=360*10^17:=by
   rw[Um];exact UZ b3 (by lia)
  obtain⟨y,hy⟩:∃ y,y=(q:Int)+(m:Int)*(x/360%3-1)*(c%10^17):=⟨_,rfl⟩
  have yb:y.natAbs<2^100:=by
   rw[hy];generalize (m:Int)*(x/360%3-1)*(c%10^17)=z at b4 ⊢;lia
  have yd:(m:Int)∣y*(u:Int):=by
   rw[hy,Int.add_mul];exact YE (by exact_mod_cast dv) (by rw[WD,WD];exact Int.dvd_mul_right _ _)
  have hxF:=hx.2 F.length e1;have xl:=hx.1;have ix:aS (tI xs) (.int (F.length:Int))=M.ok (.int (vf xs F.length)):=cu (p:=tI xs) rfl (by rw[Sx,gO (by lia),R8 (by lia)];rfl);have m5:bC (.int y) (.int (vf xs F.length))=M.ok (.int (y*vf xs F.length)):=bN (k:=100) (l:=64) yb (by lia);rw[hm,hu];dsimp? [b_,ex,gd,ba (i:=(m:Int)) (j:=((TR u m:Nat):Int)) (by lia) (by lia),q1,az (i:=x) (j:=360) (by decide),hv,m1,ba (i:=x) (j:=360) (by decide) (by decide),az (i:=x/360) (j:=3) (by decide),BZ,az (i:=c) (j:=10^17) (by decide),m3,m4,<- hy,yh,ownAt,yA (xs:=F.map PV.int) (show (F.map PV.int).length<1000 by simp;lia),rZ,ix,m5];refine⟨_,rfl,F++[y],_,_,_,_,_,rfl,by rw[Sw];exact e3.symm,by rw[Sw];exact e1,λy' hy'=>?_,λi hi=>?_⟩
  .rcases VY.mp hy' with h | h
   .exact Fb y' h
   .rw[Tq.mp h];exact yb
  .rw[Sw,Xb] at hi
   by_cases h:i<F.length
   .rw[ye,if_pos h,<- hm];exact Fd i h
   .have:i=F.length:=by lia
    subst this;rw[ye,if_neg h,if_pos rfl,vs,hu];exact yd
 .rintro env ⟨F,tt,y6,y7,y8,y9,rfl,hd,hF,Fb,Fd⟩;have ec:F.length=Ob.length:=by
   have:=congrArg Yz hd;rw[U1,TN] at this;simp at this;lia
  have f1:bC (.int (c/7%3-1)) (.int (c/21%10^17))=M.ok (.int ((c/7%3-1)*(c/21%10^17))):=bN (k:=31) (l:=60) (by lia) (by lia);have fb:((c/7%3-1)*(c/21%10^17)).natAbs<=1*10^17:=by
   rw[Um];exact UZ (by lia) (by lia)
  obtain⟨far,hfar⟩:∃ far,far=(c/7%3-1)*(c/21%10^17):=⟨_,rfl⟩
  rw[<- hfar] at f1 fb;have f2:bC (.int n) (.int far)=M.ok (.int (n*far)):=bN (k:=31) (l:=60) (by lia) (by lia)
  by_cases h:c/5%4=0
  .dsimp? [ba (i:=c) (j:=7) (by decide) (by decide),az (i:=c/7) (j:=3) (by decide),ba (i:=c) (j:=21) (by decide) (by decide),BZ,az (i:=c/21) (j:=10^17) (by decide),f1,az (i:=tt) (j:=n) (by lia),f2,ba (i:=c) (j:=5) (by decide) (by decide),az (i:=c/5) (j:=4) (by decide),h,decide_true,ba (i:=c) (j:=20) (by decide) (by decide),az (i:=c/20) (j:=n) (by lia),qN];exact⟨_,rfl,F,_,rfl,ec,Fb,n2,n3,λi hi=>Fd i (by lia)⟩
  .dsimp? [ba (i:=c) (j:=7) (by decide) (by decide),az (i:=c/7) (j:=3) (by decide),ba (i:=c) (j:=21) (by decide) (by decide),BZ,az (i:=c/21) (j:=10^17) (by decide),f1,az (i:=tt) (j:=n) (by lia),f2,ba (i:=c) (j:=5) (by decide) (by decide),az (i:=c/5) (j:=4) (by decide),h,decide_false,qN];exact⟨_,rfl,F,_,rfl,ec,Fb,n2,n3,λi hi=>Fd i (by lia)⟩
end
theorem xg(F:List Int):lL (F.map PV.int)=true:=by
 induction F with
 | nil=>rfl
 | cons x xs ih=>exact Tt.mpr ⟨rfl,ih⟩
def wb(z:LK)(k:Nat):LK:=⟨decide (k%2=0),z.F,z.n,z.r⟩
theorem DX(z:LK)(k:Nat):fH [jE z,.int (k:Int)]=M.ok (eO (wb z k)):=by
 unfold fH ir;rcases show (k:Int)%2=0\/(k:Int)%2=1 by lia with h | h
 .have e:eO (wb z k)=ou (tI z.F) (.int z.n) (.int z.r):=by
   unfold eO wb;rw[decide_eq_true (show k%2=0 by lia)];rfl
  have m:=fY (p:=tI z.F) (.int z.n) (.int z.r) (.inr (.inr (.inl ⟨_,rfl⟩)));dsimp? [az (i:=(k:Int)) (j:=2) (by decide),h,decide_true,t0,t1,t2,show PV.tup (z.F.map PV.int)=tI z.F from rfl,m];rw[e];rfl
 .have e:eO (wb z k)=ou (lI z.F) (.int z.n) (.int z.r):=by
   unfold eO wb;rw[decide_eq_false (show ¬ k%2=0 by lia)];rfl
  have m:=fY (p:=.gc (z.F.map PV.int)) (.int z.n) (.int z.r) (.inr (.inl ⟨_,rfl⟩));have ns:n5 (ou (cp (.gc (z.F.map PV.int))) (.int z.n) (.int z.r))=true:=by
   show (lL (z.F.map PV.int)&&(true&&(true&&true)))=true;rw[xg];rfl
  have bs:Cb (M.ok (ou (cp (.gc (z.F.map PV.int))) (.int z.n) (.int z.r)))=M.ok (ou (cp (.gc (z.F.map PV.int))) (.int z.n) (.int z.r)):=aw ns;dsimp? [az (i:=(k:Int)) (j:=2) (by decide),h,show decide ((1:Int)=0)=false from rfl,t0,B_,Bl,ownAt,t1,t2,m,bs,HR];rw[e];rfl
section
variable{u pt x:PV}
theorem IX(f:vM Ob z):vM Ob (wb z k):=⟨f.len,f.bd,f.n2,f.n3,f.dv⟩
def mt(xs:List Int)(z:LK):Bool:=decide ((dot z.F xs-z.r)%z.n=0)
theorem E_(hz:∀ z∈Z,vM Ob z)(hx:Bd 200 xs)(hl:xs.length<=100):jy [.lst (Z.map jE),tI xs]=M.ok (.bl (Z.all (mt xs))):=by
 unfold jy jf;dsimp? [];refine pR (mt xs) (λ_=>M.ok (.rt (.bl false))) Z (λzs env=>(∃ y2 y3 y4 y5:Option SV,env=[some (.sh (.lst (Z.map jE))),some (.sh (tI xs)),y2,y3,y4,y5])/\∀ z∈zs,vM Ob z) ⟨⟨_,_,_,_,rfl⟩,hz⟩ (λ_ _=>rfl) ?_ (λe Oc hj=>?_) λw e=>?_
 .rintro z zs env ⟨⟨y2,y3,y4,y5,rfl⟩,hm⟩;have f:=hm z Sq;have:=f.n2;have z1:(z.F.zip xs).length<=sizeLine:=by rw[Us];exact aW (SE (VG _ _) (by lia))
  refine⟨[some (.sh (.lst (Z.map jE))),some (.sh (tI xs)),some (.sh (lI z.F)),some (.sh (.int z.n)),some (.sh (.int z.r)),y5],rfl,λh=>⟨[some (.sh (.lst (Z.map jE))),some (.sh (tI xs)),some (.sh (lI z.F)),some (.sh (.int z.n)),some (.sh (.int z.r)),some (.sh (.int (dot z.F xs)))],?_,⟨_,_,_,_,rfl⟩,λw h=>hm w (Sl _ h)⟩,λh=>?_⟩
  .have h':=of_decide_eq_true h;dsimp? [fJ (p:=lI z.F) (q:=tI xs) z.F xs rfl rfl,R_,aw z1,C8 f.bd hx,B7,az (i:=dot z.F xs-z.r) (j:=z.n) (by lia),h',decide_true]
  .have h':=of_decide_eq_false h;dsimp? [fJ (p:=lI z.F) (q:=tI xs) z.F xs rfl rfl,R_,aw z1,C8 f.bd hx,B7,az (i:=dot z.F xs-z.r) (j:=z.n) (by lia),h',decide_false]
 .obtain⟨⟨y2,y3,y4,y5,rfl⟩,_⟩:=hj;have:Z.all (mt xs)=true:=by
   rw[SD];intro z h;simpa using XT.mp e z h
  rw[this];dsimp? []
 .have:Z.all (mt xs)=false:=by
   rw[Yl];exact⟨w,Wt e,by simpa using YO e⟩
  rw[this];rfl
theorem CS(hz:∀ z∈Z,vM Ob z):((zd Z xs).all λa=>decide (a=0))=Z.all (mt xs):=by
 unfold zd;rw[Yi];rw[W9,SD,SD];refine forall_congr' λz=>forall_congr' λhm=>?_;have f:=hz z hm;have n2:=f.n2;simp only[Function.comp,mt,decide_eq_true_eq];have q1:=Int.emod_add_mul_ediv (dot z.F xs) z.n;generalize dot z.F xs%z.n=d at *;generalize dot z.F xs=D at *;constructor
 .intro h;obtain⟨e,he⟩:=Vm h;exact Vk ⟨D/z.n-e,by rw[Int.mul_sub];lia⟩
 .intro h;obtain⟨e,he⟩:=Vm h;exact Vk ⟨D/z.n-e,by rw[Int.mul_sub];lia⟩
end
theorem C4(k:Nat)(n:Int)(h:1<=k)(hz:k<=1000):bM [.lst (R7 k .bG),.int n]=M.ok (.bl false):=by
 rw[o_ (p:=.lst (R7 k .bG)) (inj:=λ_:Unit=>PV.bG) (h:=λ_=>false) (R7 k ()) n (.inr (by rw[Tu])) (λa _=>sx) (by simp;exact aW hz)];obtain⟨m,rfl⟩:∃ m,k=m+1:=⟨k-1,by lia⟩
 rw[SW,WB];simp
theorem zG(b:Bool):bH [.bl b,.int 2,.int 360]=M.ok (.bl false):=by
 unfold bH cN;dsimp? [vZ]
theorem within_str(x:Str):bH [.str x,.int 2,.int 360]=M.ok (.bl false):=by
 have w:cC [.str x]=M.ok (.bl false):=by rfl
 unfold bH cN;dsimp? [w]
section
variable{u pt x:PV}
theorem xE(S:Sz Ob)(f:vM Ob z)(c:Int):∃ y,dn [.int c,jE z,lI Ob]=M.ok y/\bx [iM Ob Ls,y]=M.ok (.bl false):=by
 suffices h:oh (dn [.int c,jE z,lI Ob]) λy=>bx [iM Ob Ls,y]=M.ok (.bl false) by
  obtain⟨y,e,h⟩:=h;exact⟨y,e,h⟩
 have l1:=S.h1;have l6:=S.h6;have fl:=f.len;have n2:=f.n2;have n3:=f.n3;have s0:=S.hx Ob[0] (Tv _);obtain⟨s,hs⟩:∃ s,s=Ob[0]:=⟨_,rfl⟩
 rw[<- hs] at s0;have i0:aS (lI Ob) (.int 0)=M.ok (.int s):=cu (p:=lI Ob) (j:=0) rfl (by rw[Sx,R8 (by lia),hs];rfl);obtain⟨w,ew⟩:∃ w,Cj [.int z.n]=M.ok (.str w):=⟨_,aw (Tp (Nat.log2_le_self _) (by lia))⟩
 have c1:Bs (lI z.F) (some 1) none=M.ok (.lst ((z.F.map PV.int).drop 1)):=by
  have:=x8 (z.F.map PV.int) 0;exact this
 have k1:=fY (p:=.lst ((z.F.map PV.int).drop 1)) (.int z.n) (.int z.r) (.inl ⟨_,rfl⟩);have k2:=fY (p:=.str (Si "factors")) (.int z.n) (.int z.r) (.inr (.inr (.inr ⟨_,rfl⟩)));have k3:=fY (p:=.lst (R7 Ob.length .bG)) (.int 2) (.int 0) (.inl ⟨_,rfl⟩);have k4:=fY (p:=.lst (R7 Ob.length (.bl true))) (.int z.n) (.int z.r) (.inl ⟨_,rfl⟩);have k5:=λq u=>fY (p:=lI z.F) q u (.inl ⟨_,rfl⟩);have k6:=fY (p:=.lst (R7 Ob.length (.int 0))) (.bl true) (.int z.r) (.inl ⟨_,rfl⟩);have e1:bC (.lst [.bG]) (.int (Ob.length:Int))=M.ok (.lst (R7 Ob.length .bG)):=iX _ _ (by lia);have e2:bC (.lst [.bl true]) (.int (Ob.length:Int))=M.ok (.lst (R7 Ob.length (.bl true))):=iX _ _ (by lia);have e3:bC (.lst [.int 0]) (.int (Ob.length:Int))=M.ok (.lst (R7 Ob.length (.int 0))):=iX _ _ (by lia);have e4:bC (.lst [.int 0]) (.int ((Ob.length:Int)-1))=M.ok (.lst (R7 (Ob.length-1) (.int 0))):=by
  have:=iX (.int 0) (Ob.length-1) (by lia)
  rwa [show ((Ob.length-1:Nat):Int)=(Ob.length:Int)-1 by lia] at this
 have a4:cJ (.lst [.int 1]) (.lst (R7 (Ob.length-1) (.int 0)))=M.ok (.lst (.int 1::R7 (Ob.length-1) (.int 0))):=gN _ _ (by simp;lia);have k7:=λq=>fY (p:=.lst (.int 1::R7 (Ob.length-1) (.int 0))) q (.int 0) (.inl ⟨_,rfl⟩);obtain⟨o,ho,eo⟩:=pick [2,3,5,7,11,13,17] (c/12) 7 rfl (by decide);rw[show ((7:Nat):Int)=7 from rfl] at eo;simp only[Su,UM] at eo;have o1:2<=o/\o<=17:=by simp at ho;lia
 have s5:5<=sizeLine:=aW (by decide);have s3:3<=sizeLine:=aW (by decide);have ad:=λ(xs ys:List PV) (h:xs.length+ys.length<=1000)=>gN xs ys h;unfold dn eJ;dsimp? [GJ,yP,jE,az (i:=c) (j:=12) (by decide),eV,dP,ux,zQ,c1,k1,k2,R_,e1,k3,e2,k4,show PV.lst (z.F.map PV.int)=lI z.F from rfl,k5,ew,e3,k6,ba (i:=c) (j:=12) (by decide) (by decide),az (i:=c/12) (j:=7) (by decide),eo];obtain⟨T8,hT8⟩:∃ T8:List PV,T8=[PV.bG,PV.tup [lI z.F,PV.int z.n,PV.int z.r],ou (cp (PV.lst (List.drop 1 (List.map PV.int z.F)))) (PV.int z.n) (PV.int z.r),ou (cp (PV.str (Si "factors"))) (PV.int z.n) (PV.int z.r),ou (cp (PV.lst (R7 Ob.length PV.bG))) (PV.int 2) (PV.int 0),ou (cp (PV.lst (R7 Ob.length (PV.bl true)))) (PV.int z.n) (PV.int z.r),ou (cp (lI z.F)) (PV.int 1) (PV.int z.r),ou (cp (lI z.F)) (PV.int 361) (PV.int z.r),ou (cp (lI z.F)) (PV.str w) (PV.int z.r),ou (cp (PV.lst (R7 Ob.length (PV.int 0)))) (PV.bl true) (PV.int z.r),ou (cp (lI z.F)) (PV.int z.n) PV.bG]:=⟨_,rfl⟩
 rw[gN,M.aP,gN,M.aP]
 rotate_left
 .simp
 .simp
 simp only[WN,V1];rw[<- hT8];have inv:=nz (u:=c6 (ak jN (ak bS (ak aS (ae 2) λ_=>M.ok (PV.int 0)) (ae 8)) λ_=>M.ok (PV.int 0))) (b:=ao (aY 8 (ak cJ (ae 8) λ_=>M.ok (PV.int 1))) aq)
  (λenv=>∃ o:Int,env=[some (.sh (.int c)),some (.sh (.tup [lI z.F,.int z.n,.int z.r])),some (.sh (lI Ob)),some (.sh (lI z.F)),some (.sh (.int z.n)),some (.sh (.int z.r)),some (.sh (.int (c%12))),some (.sh (.lst T8)),some (.sh (.int o))]/\2<=o/\o<=400) (λenv=>match env with
  | [_,_,_,_,_,_,_,_,some (.sh (.int o))]=>(1000-o).toNat
  | _=>0) (λenv hj=>by
   obtain⟨o,rfl,h2,h4⟩:=hj
   by_cases h:s%o=0
   .have os:o<=s:=Int.le_of_dvd (by lia) (Vm h);refine .inr ⟨by dsimp? [i0,az (i:=s) (j:=o) (by lia),h,decide_true],_,by dsimp? [],⟨o+1,rfl,by lia,by lia⟩,?_⟩;show (1000-(o+1)).toNat<(1000-o).toNat;lia
   .exact .inl (by dsimp? [i0,az (i:=s) (j:=o) (by lia),h,decide_false])) _ ⟨o,rfl,by lia,by lia⟩
 obtain⟨Oc,ew',⟨o,rfl,o2,o4⟩,hu⟩:=inv;rw[ew',M.aP];have nd:s%o≠0:=λh=>by
  revert hu;dsimp? [i0,az (i:=s) (j:=o) (by lia),h,decide_true];intro hu;cases hu
 dsimp? [R_,e4,a4,k7];rw[gN,M.aP]
 rotate_left
 .rw[hT8];simp
 obtain⟨y,ey,hy⟩:=FN (Q:=λy=>bx [iM Ob Ls,y]=M.ok (.bl false)) (ws:=T8++[ou (cp (.lst (.int 1::R7 (Ob.length-1) (.int 0)))) (.int o) (.int 0)]) (λy hy=>by
  have rF:=Bg false z.F (Ob.length:Int) (aW (by lia));rw[fl,decide_eq_true rfl] at rF;rw[hT8] at hy;simp only[WN,V1,Ss,Yy,or_false] at hy;rcases hy with rfl | rfl | rfl | rfl | rfl | rfl | rfl | rfl | rfl | rfl | rfl | rfl
  .exact Ez
  .exact Ek _
  .refine o6 ?_;have:=qw (z.F.drop 1) (Ob.length:Int) (aW (by simp;lia));rw[decide_eq_false (by simp;lia)] at this;show bM [.lst (List.drop 1 (z.F.map PV.int)),_]=_;rw[<- Y4];exact this
  .exact o6 (DW _ _)
  .exact o6 (C4 _ _ l1 (by lia))
  .exact o6 (Eo true _ _ l1 (by lia))
  .exact mx rF (by rw[within_int];rfl)
  .exact mx rF (by rw[within_int];rfl)
  .exact mx rF (within_str _)
  .refine mx ?_ (zG _);have:=qw (R7 Ob.length 0) (Ob.length:Int) (aW (by simp;lia));rw[lI,Tu] at this;rw[show cp (PV.lst (R7 Ob.length (PV.int 0)))=PV.lst (R7 Ob.length (PV.int 0)) from rfl,this];simp
  .refine Cn rF ?_ sx;rw[within_int,decide_eq_true ⟨n2,n3⟩]
  .by_cases h:o<=360
   .have:=yD (Ls:=Ls) S ⟨false,1::R7 (Ob.length-1) 0,o,0⟩ (by simp;lia) (λx hx=>by
     rcases Ss.mp hx with rfl | hx
     .decide
     .rw[WG hx];decide) o2 h
    have e:eO ⟨false,1::R7 (Ob.length-1) 0,o,0⟩=ou (cp (.lst (.int 1::R7 (Ob.length-1) (.int 0)))) (.int o) (.int 0):=by
     unfold eO fk;show ou (.lst ((1::R7 (Ob.length-1) 0).map PV.int)) _ _=_;rw[Su,Tu];rfl
    rw[<- e,this];refine congrArg (λb=>M.ok (PV.bl b)) ?_;rw[Yl];refine⟨(1,s),SJ.mpr ⟨0,by simp;lia,by simp[hs]⟩,?_⟩;simpa using nd
   .refine mx (p:=.lst (.int 1::R7 (Ob.length-1) (.int 0))) ?_ ?_
    .have:=qw (1::R7 (Ob.length-1) 0) (Ob.length:Int) (aW (by simp;lia));rw[decide_eq_true (by simp;lia)] at this;rw[lI,Su,Tu] at this;exact this
    .rw[within_int,decide_eq_false (by lia)]) (j:=c%12) (by lia) (by rw[Sw,hT8];show c%12<12;lia)
 rw[ey,M.aP];exact⟨y,rfl,hy⟩
end
theorem AJ{o:Bool->PV}{d:PyData}(h1:dat p=some d)(h2:PySem.SeqAt.shaped d=true):AY o p p=M.ok (o true):=by
 unfold AY;rw[h1];show Gv _ d d=_;unfold Gv;rw[aw ⟨h2,h2⟩,SeqAt.eqv_refl d (SeqAt.canLay_of_shaped h2)]
theorem LC:UO (Si "no lock")=true:=by decide +kernel
theorem Nb:UO (Si "too many")=true:=by decide +kernel
theorem MA:UO (Si "no setting")=true:=by decide +kernel
theorem Jh:UO (Si "x")=true:=by decide +kernel
theorem Mx:UO (Si "shares")=true:=by decide +kernel
theorem L8:UO (Si "pulls")=true:=by decide +kernel
variable{s:Str}
theorem Le(hs:UO s=true)(k:Int):EY (.tup [.str s,.int k,Ds]) (.tup [.str s,.int k,Ds])=M.ok (.bl false) :=
 AJ (o:=λb=>.bl (!b)) (p:=.tup [.str s,.int k,Ds]) (d:=.tuple [.str s,.int k,.list [.bool false,.bool false,.bool false]]) rfl (by simp[Uu,S3,Th,Tw,TM,hs])
theorem Jx(hs:UO s=true):EY (.tup [.str s,.bG,Ds]) (.tup [.str s,.bG,Ds])=M.ok (.bl false) :=
 AJ (o:=λb=>.bl (!b)) (p:=.tup [.str s,.bG,Ds]) (d:=.tuple [.str s,.none,.list [.bool false,.bool false,.bool false]]) rfl (by simp[Uu,S3,Th,Tw,TM,hs])
theorem Jp(a:Int):nG (.tup [.int a,.str (Si "x")]) (.tup [.int a,.str (Si "x")])=M.ok (.bl false):=by
 simp only[nG,mh,dat,j8,UQ,U4,Bf];rw[aw (by simp[Uu,S3,Th,Tw,TM,VV,Wr,Jh])];unfold VJ;simp[W6,VJ];rfl
theorem Kz(a:Int):jN (.tup [.str (Si "shares"),.tup [.int a,.str (Si "x")]]) (.tup [.str (Si "shares"),.tup [.int a,.str (Si "x")]])=M.ok (.bl true):=by
 simp only[jN,mh,dat,j8,UQ,U4,Bf];rw[aw (by simp[Uu,S3,Th,Tw,TM,VV,Wr,Jh,Mx])];unfold VJ;simp[W6,VJ];rfl
section
variable{u pt x:PV}
theorem EL(S:Sz Ob)(h:xs.length=Ob.length):aC [iM Ob Ls,tI (xs++[0])]=some (.error (aM,none)):=by
 have l6:=S.h6;refine ki (wX S (by simp;lia) ?_);cases e:wk Ob (xs++[0]) with
 | false=>rfl
 | true=>have:=(pj.mp e).len;simp at this;lia
theorem BQ(S:Sz Ob)(hx:Kp Ob xs)(a:Int):gu [iM Ob Ls,tI xs,.tup [.int a,.str (Si "x")]]=M.ok (.bl true):=by
 have l6:=S.h6;obtain⟨sh,RT⟩:∃ sh,sh=PV.tup [.int a,.str (Si "x")]:=⟨_,rfl⟩
 have lk:∀ x,lp [(bU,hX),(bQ,fM),(a_,bK)] "shows" (lE sh) x=x.bind λps=>bK (lE sh::ps):=λx=>kr (fl:=[("shares", sh)]) (s1:=bK) rfl rfl;have n1:=ph (levers:=Ls) S hx.Lb;have n2:=EL (Ls:=Ls) S hx.1;have s1:bK [lE sh,iM Ob Ls,tI xs,tI (xs++[0])]=some (.error (aM,none)):=by
  unfold bK dN;dsimp? [n1,n2]
 have s2:bK [lE sh,iM Ob Ls,tI xs,tI xs]=M.ok (.bl false):=by
  unfold bK dN;dsimp? [n1]
 have ad:cJ (tI xs) (.tup [.int 0])=M.ok (tI (xs++[0])):=by
  rw[tI,cJ,aw (aW (by simp;have:=hx.1;lia)),tI,List.map_append];rfl
 have isP:xJ (λ_=>false) (km i6 iU) (km mB mj) (lE sh)=M.ok (.bl true):=by
  show ed ((km i6 iU a_).map .bl)=_;rw[show km i6 iU a_=some true by decide];rfl
 have nsh:nG sh sh=M.ok (.bl false):=by rw[RT];exact Jp a
 have esh:jN (.tup [.str (Si "shares"),sh]) (.tup [.str (Si "shares"),sh])=M.ok (.bl true):=by rw[RT];exact Kz a
 rw[<- RT];unfold gu gb;dsimp? [yy,uH,mV,lk,ad,s1,qA,g8];rw[show vL (km gv fW aM) (t_ none (ao (aY 4 λ_=>M.ok (PV.bl true)) aq) (aM,none) [some (.sh (iM Ob Ls)),some (.sh (tI xs)),some (.sh sh),some (.sh (lE sh)),some (.sh (.bl false))]) none=M.ok (.nx [some (.sh (iM Ob Ls)),some (.sh (tI xs)),some (.sh sh),some (.sh (lE sh)),some (.sh (.bl true))]) from rfl];dsimp? [isP,er,Nr,nsh,mV,N0,show mz (.bl false) (.bl false)=M.ok (.bl false) from rfl,lk,s2,show A0 (.bl false) (.bl false)=M.ok (.bl true) from rfl,NZ,esh]
theorem wF(S:Sz Ob)(hz:∀ z∈Z,vM Ob z)(l1:1<=Z.length)(l6:Z.length<=6)(hx:Kp Ob xs)(c:Int):eH [iM Ob Ls,.lst (Z.map eO),.lst (Z.map jE),.int c,lI Ob,tI xs]=M.ok (.bl true):=by
 have s6:=S.h6;have s1:=S.h1;obtain⟨k,ek⟩:=SS (Td (c/84) (show (Z.length:Int)≠0 by lia));have hk:k<Z.length:=by have:=SO (c/84) (show 0<(Z.length:Int) by lia);lia
 have fz:=hz Z[k] (Tv _);obtain⟨y,ey,hy⟩:=xE (Ls:=Ls) S fz c;have i1:aS (.lst (Z.map jE)) (.int (k:Int))=M.ok (jE Z[k]):=cu (p:=.lst (Z.map jE)) rfl (by rw[Sx,R8 hk];rfl);have a1:Bs (.lst (Z.map eO)) (some ((k:Int)+1)) none=M.ok (.lst ((Z.map eO).drop (k+1))):=x8 _ _;have a2:Bs (.lst (Z.map eO)) none (some (k:Int))=M.ok (.lst ((Z.map eO).take k)):=F5 _ _;have a3:cJ (.lst ((Z.map eO).take k)) (.lst [y])=M.ok (.lst ((Z.map eO).take k++[y])):=gN _ _ (by simp;lia);have a4:bC (.lst [.bG]) (.int (((Z.map eO).drop (k+1)).length:Int))=M.ok (.lst (R7 ((Z.map eO).drop (k+1)).length .bG)):=iX _ _ (by simp;lia);obtain⟨B,eB,hB⟩:∃ B,aS (.lst [.lst ((Z.map eO).drop (k+1)),.lst (R7 ((Z.map eO).drop (k+1)).length .bG)]) (.int (c%2))=M.ok (.lst B)/\B.length=Z.length-(k+1):=by
  rcases Cg (a:=PV.lst ((Z.map eO).drop (k+1))) (b:=.lst (R7 ((Z.map eO).drop (k+1)).length .bG)) c with ⟨x,e,rfl | rfl⟩
  .exact⟨_,e,by simp⟩
  .exact⟨_,e,by simp⟩
 obtain⟨W,hW⟩:∃ W,W=(Z.map eO).take k++[y]++B:=⟨_,rfl⟩
 have a5:cJ (.lst ((Z.map eO).take k++[y])) (.lst B)=M.ok (.lst W):=by
  rw[hW];exact gN _ _ (by simp;lia)
 have lt:((Z.map eO).take k).length=k:=by rw[U0,R_];lia
 have Wl:W.length=Z.length:=by rw[hW];simp;lia
 have Wk:W[k]?=some y:=by rw[hW,Vv,S2 (by lia),lt,Nat.sub_self];rfl
 have Wi:∀ i w,i<k->W[i]?=some w->bx [iM Ob Ls,w]=M.ok (.bl true):=λi w hi e=>by
  rw[hW,Vv,S6 (by lia),WA hi,Sx,R8 (by lia)] at e;cases e;exact C9 S (hz _ (Tv _))
 have n1:=DY (pt:=.lst W) (ph (levers:=Ls) S hx.Lb) rfl (by lia) (k:=k) (by lia) Wi (λw e=>by rw[Wk] at e;cases e;exact hy);obtain⟨W7,hW7⟩:∃ W7,W7=(R7 7 W).flatten:=⟨_,rfl⟩
 have m7:bC (.lst W) (.int 7)=M.ok (.lst W7):=by
  rw[hW7];show cA _ _=_;rw[aw ⟨by decide,by decide,aW (by show W.length*7<=1000;lia)⟩];rfl
 obtain⟨V,hV⟩:∃ V,V=W7.take 7:=⟨_,rfl⟩
 have c7:Bs (.lst W7) none (some 7)=M.ok (.lst V):=by rw[hV];exact F5 _ 7
 have Vl:V.length=7:=by rw[hV,hW7];simp;lia
 have n2:=Ah (pt:=.lst V) (ph (levers:=Ls) S hx.Lb) rfl (by lia);have b1:bC (.tup [.int 0]) (.int ((Ob.length:Int)+1))=M.ok (.tup (R7 (Ob.length+1) (.int 0))):=by
  have:=mul_one (.int 0) (Ob.length+1) (by lia)
  rwa [show ((Ob.length+1:Nat):Int)=(Ob.length:Int)+1 by lia] at this
 obtain⟨b,eb,hb⟩:=FN (Q:=λp=>aC [iM Ob Ls,p]=some (.error (aM,none))) (ws:=[.tup (R7 (Ob.length+1) (.int 0)),tI Ob,.lst (xs.map PV.int),.bG]) (λp hp=>by
  simp only[Ss,Yy,or_false] at hp;rcases hp with rfl | rfl | rfl | rfl
  .refine ki ?_;have:=wX (Ls:=Ls) S (xs:=R7 (Ob.length+1) 0) (by simp;lia) (by
    cases e:wk Ob (R7 (Ob.length+1) 0) with
    | false=>rfl
    | true=>have:=(pj.mp e).len;simp at this)
   rwa [tI,Tu] at this
  .refine ki (wX S (by lia) ?_);cases e:wk Ob Ob with
   | false=>rfl
   | true =>
    have:=(pj.mp e).Cd (Ob[0],Ob[0]) (SJ.mpr ⟨0,by simp;lia,by simp⟩);simp at this
  .exact ki (DG _)
  .exact ki DL) (j:=c%4) (by lia) (by show c%4<4;lia)
 have n3:=A8 (pt:=.lst V) hb;refine oh.eq ?_;unfold eH eI;dsimp? [ba (i:=c) (j:=84) (by decide) (by decide),R_,az (i:=c/84) (j:=(Z.length:Int)) (by lia),ek,eV,dP,ux,zQ,a1,a2,i1,ey,a3];have eb':aS (PV.lst [.tup (R7 (Ob.length+1) (.int 0)),PV.tup (Ob.map PV.int),PV.lst (xs.map PV.int),PV.bG]) (.int (c%4))=M.ok b:=eb;rw[a4,M.aP,az (i:=c) (j:=2) (by decide),M.aP,eB,M.aP,a5,M.aP,b1,M.aP,az (i:=c) (j:=4) (by decide),M.aP,eb',M.aP];refine oh.loop (xs:=[kY,cy,cz]) (inj:=PV.fn) (λzs env=>(∃ Q1:Option SV,env=[some (.sh (iM Ob Ls)),some (.sh (.lst (Z.map eO))),some (.sh (.lst (Z.map jE))),some (.sh (.int c)),some (.sh (lI Ob)),some (.sh (tI xs)),some (.sh (.int k)),some (.sh (.lst ((Z.map eO).drop (k+1)))),some (.sh (.lst W)),some (.sh b),some (.sh Ds),Q1])/\∀ f∈zs,f=kY\/f=cy\/f=cz) ⟨⟨_,rfl⟩,λf h=>by simpa using h⟩ ?_ ?_
 .rintro f zs env ⟨⟨Q1,rfl⟩,hm⟩;have hf:=hm f Sq;dsimp? [cX,z7 hf n1,Le LC,eV,dP,ux,zQ,m7,c7,Ak hf n2,Jx Nb,told_set hf n3,Jx MA];exact⟨_,rfl,⟨_,rfl⟩,λf h=>hm f (Sl _ h)⟩
 .rintro env ⟨⟨Q1,rfl⟩,_⟩;dsimp? [];exact⟨_,rfl,rfl⟩
end
theorem xt(a b:Bool):nG (.bl a) (.bl b)=M.ok (.bl (!decide (a=b))):=by cases a <;> cases b <;> rfl
theorem BH(xs:List Int):nG (lI xs) (lI xs)=M.ok (.bl false):=by
 simp only[nG,mh,dat,lI,mS,UQ,Bf];rw[aw (by simp[Uu,S3,Tw,j5,lM,VV,L2.noMix_ints])];unfold VJ;rw[L2.same_ints,decide_eq_true rfl];rfl
def dT(z:LK):PyData:=.tuple [.list (z.F.map Vg),.int z.n,.int z.r]
theorem HG(Z:List LK):j8 (Z.map jE)=some (Z.map dT):=by
 induction Z with
 | nil=>rfl
 | cons a r ih=>simp[j8,dat,jE,lI,mS,dT] at ih ⊢;simp[ih]
theorem B9(Z:List LK):Th (Z.map dT)=true:=by
 induction Z with
 | nil=>rfl
 | cons a r ih=>simp[Th,S3,dT,ih,j5]
theorem Ff(Z:List LK):TM (Z.map dT)<=4:=by
 induction Z with
 | nil=>exact TY _
 | cons a r ih=>simp[TM,Tw,dT,lM,ih];lia
theorem CF{L:List PyData}(h2:Th L=true)(h1:TM L<=4):Uu (.list L)=true:=by
 simp[Uu,S3,Tw,h2];lia
theorem D3(Z:List LK):jN (.lst (Z.map jE)) (.lst [])=M.ok (.bl (decide (Z=[]))):=by
 cases Z with
 | nil=>rfl
 | cons a r =>
  have h1:=Ff (a::r);have h2:=B9 (a::r);simp only[jN,mh,dat,HG,j8,UQ,Bf];rw[aw ⟨CF h2 h1,by rfl,by simp[VV,Wr]⟩];unfold VJ;rw[Su];simp[W6];rfl
theorem Cw:jN (.tup [.str (Si "pulls"),tI []]) (.tup [.str (Si "pulls"),.tup []])=M.ok (.bl true):=by
 simp only[jN,mh,dat,j8,tI,UM,UQ,U4,Bf];rw[aw (by simp[Uu,S3,Th,Tw,TM,VV,Wr,L8])];unfold VJ;simp[W6,VJ];rfl
section
variable{u pt x:PV}
theorem zK(S:Sz Ob)(hx:Kp Ob xs):c8 [iM Ob [],tI xs,.lst []]=M.ok (way []):=by
 have nl:=uZ (Ls:=[]) (Z:=[]) (pt:=.lst []) S rfl (by simp) (by simp) hx;unfold c8 dX;have m0:bC (.tup [.int 0]) (.int 0)=M.ok (tI []):=Cy 0 (by decide);dsimp? [nl,show ((0:Nat):Int)=0 from rfl,decide_true,dJ,N3,m0,Hv]
theorem zc(S:Sz Ob)(a:Int):∃ ys:List Int,c5 (b_ 0 1) none (ak bS (ai cT (aa (ae 2) (aa (ak cJ (λ_=>M.ok (.int 50)) (ae 0)) aj))) (ae 1)) (Ob.zipIdx.map λa=>.tup [.int (a.2:Int),.int a.1]) [none,none,some (.sh (.int a))]=M.ok (ys.map PV.int)/\Kp Ob ys:=by
 have f6:=S.h6;have ex:∀ k:Nat,∃ y:Int,k<=50->cT [.int a,.int (50+(k:Int))]=M.ok (.int y):=λk=>by
  by_cases hk:k<=50
  .obtain⟨y,ey,_⟩:=w9 a (50+k) (by lia);rw[show ((50+k:Nat):Int)=50+(k:Int) by lia] at ey;exact⟨y,λ_=>ey⟩
  .exact⟨0,λh=>(hk h).elim⟩
 obtain⟨m,hm⟩:=WR.mp ex;refine⟨Ob.zipIdx.map λz=>m z.2%z.1,?_,by simp,λi hi=>?_⟩
 .rw[S_];refine lF (p:=λz:Int×Nat=>PV.int (z.2:Int)) (q:=λz=>PV.int z.1) Ob.zipIdx λz hz=>?_;have h1:=wQ hz;have h2:=S.hx _ (TX hz);dsimp? [hm z.2 (by lia),az (i:=m z.2) (j:=z.1) (by lia)];rfl
 .have h2:=FU S i hi;rw[gO (by simp;exact hi),WS,UB,<- gO hi];exact⟨Td _ (by lia),SO _ (by lia)⟩
theorem zB(xs:List Int)(h:xs.length<=100):cJ (.lst [.int 0]) (.lst (xs.map PV.int))=M.ok (.lst ((0::xs).map PV.int)):=by
 rw[cJ,aw (aW (by simp;lia))];rfl
theorem Hg(S:Sz Ob)(h:xs.length=Ob.length/\∀ z∈xs.zip Ob,0<=z.1/\z.1<z.2):Kp Ob xs:=⟨h.1,Hh h.1 h.2⟩
theorem He(ns:List Int):rQ [.gc (ns.map PV.int)]=M.ok (.bl true):=by
 obtain⟨c0,ec0⟩:=yT ns 0 (by decide);rw[show ((0:Nat):Int)=0 from rfl] at ec0;obtain⟨c1,ec1⟩:=yT ns 1 (by decide);rw[show ((1:Nat):Int)=1 from rfl] at ec1;obtain⟨_,es,Ob,rfl,S⟩:=yV c0;have s6:=S.h6;have mk:cj ay ff [.bG] [lI Ob,.lst []]=M.ok (iM Ob []):=ER (p:=lI Ob) (f:=tI) (.inl rfl) Ob [] rfl S (by decide) (by simp);obtain⟨xs,ex,kx⟩:=zc S c0;have zi:Ob.zipIdx.length<=sizeLine:=by rw[TN];exact aW (by lia)
 obtain⟨cs,Rb⟩:∃ cs,cs=ml ns 2 8:=⟨_,rfl⟩
 have cl:cs.length<=6:=by rw[Rb];exact rH ns 2 8
 have exz:∀ a:Int,∃ z:LK,dk [.int a,lI Ob,tI xs]=M.ok (jE z)/\vM Ob z:=λa=>by
  obtain⟨F,n,r,e,f⟩:=Ec S kx a true;exact⟨_,e,f⟩
 obtain⟨zf,hzf⟩:=WR.mp exz;have k1:c5 (cX 0) none (ai dk (aa (ae 0) (aa (ae 1) (aa (ae 2) aj)))) (cs.map PV.int) [none,some (.sh (lI Ob)),some (.sh (tI xs))]=M.ok ((cs.map zf).map jE):=by
  rw[S_];exact lK (inj:=PV.int) cs λa _=>by dsimp? [(hzf a).1];rfl
 obtain⟨zs,Rm⟩:∃ zs,zs=cs.map zf:=⟨_,rfl⟩
 rw[<- Rm] at k1;have zl:zs.length<=6:=by rw[Rm,R_];exact cl
 have fz:∀ z∈zs,vM Ob z:=λz h=>by
  rw[Rm] at h;obtain⟨a,_,rfl⟩:=Uv.mp h;exact(hzf a).2
 obtain⟨Z,hZ⟩:∃ Z,Z=zs.zipIdx.map λa=>wb a.1 a.2:=⟨_,rfl⟩
 have Zl:Z.length=zs.length:=by rw[hZ];simp
 have fZ:∀ z∈Z,vM Ob z:=λz h=>by
  rw[hZ] at h;obtain⟨a,ha,rfl⟩:=Uv.mp h;exact IX (fz _ (TX ha))
 have zT:zs.map jE=Z.map jE:=by
  rw[hZ,S_];apply List.ext_getElem
  .simp
  .intro i h1 h2;rw[WS,WS,UB];rfl
 have k2:c5 (b_ 0 1) none (ai fH (aa (ae 1) (aa (ae 0) aj))) (zs.zipIdx.map λa=>.tup [.int (a.2:Int),jE a.1]) [none,none]=M.ok (Z.map eO):=by
  rw[hZ,S_];exact lF (p:=λa:LK×Nat=>PV.int (a.2:Int)) (q:=λa=>jE a.1) zs.zipIdx λa _=>by dsimp? [DX];rfl
 have z1:cs.length<=sizeLine:=aW (by lia);have z2:zs.zipIdx.length<=sizeLine:=by rw[TN];exact aW (by lia)
 have dup:zip2 [.lst (Z.map eO),.lst (Z.map jE)]=M.ok (Z.map λz=>.tup [eO z,jE z]):=by
  rw[fJ (f:=eO) (g:=jE) Z Z rfl rfl];congr 1;exact xU (λa b:LK=>PV.tup [eO a,jE b]) Z
 refine oh.eq ?_;unfold rQ CG;dsimp? [ec0,es,mk,BM,R_,aw zi,ex,eV,dP,zQ,show Bs (.gc (ns.map PV.int)) (some 2) (some 8)=M.ok (.lst ((ml ns 2 8).map PV.int)) from yc ns 2 8,<- Rb,aw z1,k1,ym,aw z2,k2,show PV.tup (xs.map PV.int)=tI xs from rfl];rw[zT];dsimp? [dup];refine oh.loop (xs:=Z) (inj:=λz=>.tup [eO z,jE z]) (λzs env=>∃ y7 y8:Option SV,env=[some (.sh (.gc (ns.map PV.int))),some (.sh (.int c0)),some (.sh (lI Ob)),some (.sh (iM Ob [])),some (.sh (tI xs)),some (.sh (.lst (Z.map jE))),some (.sh (.lst (Z.map eO))),y7,y8,none,none,none,none]) ⟨_,_,rfl⟩ ?_ ?_
 .rintro z rr env ⟨y7,y8,rfl⟩;dsimp? [b_,er,eO,Jb,FL,Ja,show ed (Zd PV.lst (cB (fk z.b z.F)))=M.ok (lI z.F) by rw[xK];rfl,t0,t1,t2,BH,yk,decide_true];exact⟨_,rfl,_,_,rfl⟩
 rintro env ⟨y7,y8,rfl⟩;dsimp? [eV,dP,zQ,show Bs (.gc (ns.map PV.int)) (some 1) (some 63)=M.ok (.lst ((ml ns 1 63).map PV.int)) from yc ns 1 63,zB (ml ns 1 63) (by have:=rH ns 1 63;lia)];refine oh.loop (xs:=0::ml ns 1 63) (inj:=PV.int) (λzs env=>∃ y9 y10 Q1 Rt:Option SV,env=[some (.sh (.gc (ns.map PV.int))),some (.sh (.int c0)),some (.sh (lI Ob)),some (.sh (iM Ob [])),some (.sh (tI xs)),some (.sh (.lst (Z.map jE))),some (.sh (.lst (Z.map eO))),y7,y8,y9,y10,Q1,Rt]) ⟨_,_,_,_,rfl⟩ ?_ ?_
 .rintro a rr env ⟨y9,y10,Q1,Rt,rfl⟩;obtain⟨ys,ey,yl,yz⟩:=sF a (lI Ob) Ob rfl (λs hs=>by have:=S.hx s hs;lia) (by lia);have ky:Kp Ob ys:=Hg S ⟨yl,yz⟩;obtain⟨w,ew,hw⟩:∃ w,aS (.lst [.lst (Z.map eO),.tup (Z.map eO)]) (.int (a%2))=M.ok w/\cB w=some (Z.map eO):=by
   rcases Cg (a:=PV.lst (Z.map eO)) (b:=.tup (Z.map eO)) a with ⟨x,e,rfl | rfl⟩
   .exact⟨_,e,rfl⟩
   .exact⟨_,e,rfl⟩
  dsimp? [cX,ey];refine oh.loop (xs:=[xs,ys]) (inj:=tI) (λzs env=>(∃ Q1 Rt:Option SV,env=[some (.sh (.gc (ns.map PV.int))),some (.sh (.int c0)),some (.sh (lI Ob)),some (.sh (iM Ob [])),some (.sh (tI xs)),some (.sh (.lst (Z.map jE))),some (.sh (.lst (Z.map eO))),y7,y8,some (.sh (.int a)),some (.sh (tI ys)),Q1,Rt])/\∀ z∈zs,Kp Ob z) ⟨⟨_,_,rfl⟩,λz h=>by
   simp at h;rcases h with rfl | rfl
   .exact kx
   .exact ky⟩ ?_ ?_
  .rintro o rr env ⟨⟨Q1,Rt,rfl⟩,hm⟩;have ko:=hm o Sq;have e1:=Co (Ls:=[]) (pt:=w) S hw fZ (by lia) ko;have e2:=E_ (Z:=Z) fZ (ko.bd S) (by rw[ko.1];lia);rw[CS fZ] at e1;dsimp? [cX,az (i:=a) (j:=2) (by decide),ew,e1,e2,xt,decide_true,show ∀ b,xJ (λa=>a == "bool") oF oF (PV.bl b)=M.ok (.bl true) from λ_=>rfl];exact⟨_,rfl,⟨_,_,rfl⟩,λz h=>hm z (Sl _ h)⟩
  .rintro env ⟨⟨Q1,Rt,rfl⟩,_⟩;dsimp? [];exact⟨_,rfl,_,_,_,_,rfl⟩
 rintro env ⟨y9,y10,Q1,Rt,rfl⟩;dsimp? [BQ (Ls:=[]) S kx c0,D3]
 by_cases h:Z=[]
 .have e1:=Co (Ls:=[]) (Z:=[]) (pt:=.tup []) S rfl (by simp) (by simp) kx;have ew:(zd [] xs).all (λa=>decide (a=0))=true:=rfl;rw[ew] at e1;simp only[h,decide_true];dsimp? [e1,zK S kx,mV,N8,Cw];exact⟨_,rfl,rfl⟩
 .have l1:1<=Z.length:=List.length_pos_iff.mpr h;simp only[h,decide_false];dsimp? [ec1,wF (Ls:=[]) S fZ l1 (by lia) kx c1];exact⟨_,rfl,rfl⟩
end
end wq
theorem PySem.Challenge.cw_dialvault_k57_locks_met_holds : PySem.Challenge.rw_dialvault_k57_locks_met.Holds :=
  wq.hold HD.said λns _ _ => wq.He ns
end