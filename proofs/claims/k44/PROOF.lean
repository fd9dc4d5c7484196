import PyProof.Rows.All
import Wide.All
import OpenK.AllK
import Wide.FinOn
import Lean
import PyProof.EqAt
import PyProof.EqKinds
import PyProof.TupleCall
import PySem.Challenge.RW_dialvault_k44_whole_stills_of_stills
set_option Elab.async false
set_option linter.all false
set_option maxRecDepth 100000
set_option maxHeartbeats 0
open PySem renaming wpAny_bind->RM,wpAny_pure->SY,wpAny_field->TN,wpAny_setField_rec->Uj,wpAny_seqItems->Uo,wpAny_callSpecial?_slot->Ur,wpAny_call_entry->UQ,wpAny_mono->UU,wpAny_newObj_type->UX,wpAny_holding->U0,wpAny_rule->Vd,wpAny_onRaise->Vl,wpAny_truthy_bool->Vs,wpAny_Call_Name_kw->VE,wpAny_passesOwn->VR,wpAny_attempt->VZ,wpAny_pyIter_tuple->V7,wpAny_loadPart'->V9,wpAny_letGo->Wi,wpAny_standAt->WC,wpAny_execs_nil->WE,call_meets->WG,wpAny_loadPart->WL,wpAny_pyIter_enum->WN,wpAny_setField->WO,plainObj_wpAny_Assign_Attribute->W2,wpAny_pyIter_zip->W6,wpAny_updateSeq_pair->Xd,codeAny_mono->Xx,wpAny_letOwnedTupleGo_enum->XN,wpAny_call->XQ,wpAny_binaryOp_repeat_ref->XY,wpAny_letOwnedTupleGo_zip->XZ,wpAny_pyIter_list->X4,wpAny_loadPart_at->X5,noFill_tuple_add->Yc,wpAny_isInstance->Ye,wpAny_pyNext_range_end->Yn,wpAny_pyIter_rangeiter->Yo,wpAny_typeOf->Yq,typeIs_int->Ys,wpAny_ite_false->YK,codeAny_handlers_test->YM,wpAny_newTuple->YX,isSubtype_stop->YY,codeAny_call_builtin->YZ,wpAny_handleBy_cons->Zb,seq_tuple_add->Zd,wpAny_pyIter_range->Zl,wpAny_assign_Name->Zv,concat_meets->ZC,wpAny_sequenceKey->ZD,seqIndex_neg->ZE,slot_list_getitem->ZF,callType_new->ZH,seqIndex_of->Z1
open PySem.Heap renaming get?_push_of_some->SQ,get?_push_size->S2,lt_size->S7,size_push->Ua,get?_update_other->Uk,get?_update_self->UZ,get?_none_of_le->Wg,SameBut->Wq
open List renaming replicate->SS,getElem?_eq_getElem->SW,length_map->S0,getElem?_set->S5,getD_eq_getElem?_getD->S6,mem_iff_getElem->S8,size_toArray->Tc,mem_cons_of_mem->Tf,range->Tg,getElem?_append_right->Tj,mem_cons_self->Tp,getElem?_map->Tr,mem_cons->Tt,map_cons->Tw,getElem?_append_left->TH,length_append->TM,map_map->TY,length_cons->T5,getElem_mem->T6,mem_map->T_,length_drop->Uc,length_range->Ue,mem_singleton->Ui,append_nil->Ul,mem_append_right->Uq,getElem?_eq_some_iff->Ut,length_zip->Uu,zip_cons_cons->Uw,mem_range->UA,all_eq_true->UB,mem_nil_iff->UC,mem_append->UG,length_set->UH,replicate_succ->UI,append_assoc->UJ,getElem?_replicate->UK,of_mem_zip->UO,lookup_cons->UR,eq_of_mem_replicate->U3,pairwise_append->U6,flatten_cons->U9,getElem?_range->U_,length->Va,set_cons_zero->Vg,map_replicate->Vj,drop_eq_nil_of_le->Vy,lookup->Vz,zipIdx_cons->VB,getElem_zip->VC,length_mapIdx->VG,length_zipIdx->VL,perm_append_comm->VM,drop_eq_getElem_cons->VQ,getElem_map->V4,map_nil->V6,length_nil->V_,fst_mem_of_mem_zipIdx->Wo,length_take->Wr,pairwise_iff_getElem->Wx,map_congr_left->WA,set_cons_succ->WH,zip_nil_left->WM,pairwise_map->WS,length_replicate->W3,getElem?_eq_none->W5,eq_nil_iff_forall_not_mem->W8,mem_append_left->Xb,getElem?_set_ne->Xc,map_id->Xg,mem_filter->Xi,nodup_cons->Xj,zipIdx_nil->Xk,forIn_cons->Xl,map_append->Xn,filterMap_cons->Xo,length_zipWith->Xq,getElem_zipIdx->Xu,mem_filterMap->XH,foldl->XM,forIn_nil->XO,mem_reverse->Yi,ext_getElem->Yk,getElem?_set_self->Ym,take_of_length_le->Yu,zipWith->Yv,nil_append->YH,mem_iff_getElem?->YN,pairwise_reverse->YQ,length_filter_le->YS,getElem?_mapIdx->Y0,zip_nil_right->Zn,reverse_perm->ZJ,mapM_toArray->ZK,length_tail->ZT,take_length->ZV,foldl_cons->Z_,set_append->aaa,zip_append->aad
open Nat renaming le_refl->SX,zero_le->S9,lt_of_lt_of_le->S_,ne_of_lt->Tu,le_trans->TJ,lt_or_ge->TV,pow_le_pow_right->Uv,lt_of_le_of_lt->UD,le_add_right->US,lt_succ_self->Ve,ne_of_gt->Vk,two_pow_pos->Vx,lcm->VO,le_of_lt->VS,lt_irrefl->VU,mul_le_mul->V5,min_le_left->Wb,le_succ->Wh,mul_le_mul_right->Wn,mul_le_mul_left->WB,lt_trichotomy->WZ,mul_comm->Xw,add_zero->Xz,sub_self->XA,le_of_dvd->X9,min_le_right->Yd,le_of_eq->Yp,add_comm->Yt,sub_zero->Yw,eq_zero_of_not_pos->Yx,zero_add->YC,lt_or_eq_of_le->Zs,succ_mul->ZG,le_succ_of_le->ZL,dvd_mul_right->ZM,pow_succ->ZN,succ_ne_self->ZU,max_eq_right->ZW,dvd_mul_left->ZY,log2_lt->Z2,lcm_dvd->Z6,lcm_pos->Z7,pow_add->Z8
open PyProof.Rows renaming wpS_bind->S1,wpS_pure->Te,callWith_type1->Ux,slot_tuple_getitem->Uy,wpS_forRange->Vm,wpS_mono->VH,KK_mirror_equal->Wa,wpS_modify->W9,wpS_get->Xy,assignInOrder_cons->XG,wpS_lift->Yh,subscriptTail_builtinR->Yr,listItems_at->Yy,pairsOf_size->Yz,boot_zip->YL,entry_tuple_getitem->Y_,listUpdate_at->Zg,args_tuple_getitem->Zo,assignInOrder_nil->Zw,seqEpoch_at->Z5
open PySem.Value renaming ref->Td,none->Um,type->U7,bool->Vv,builtin->Xa,int->XD,str->X_,float->YT,notImplemented->YW
open Int renaming mul_ediv_cancel_left->Th,emod_lt_of_pos->To,emod_nonneg->Tz,gcd->TF,toNat_natCast->TR,eq_of_mul_eq_mul_left->TZ,mul_le_mul_of_nonneg_left->T8,dvd_zero->Uz,dvd_trans->UP,dvd_mul_left->UT,emod_eq_of_lt->UY,ediv_nonneg->U4,mul_neg_of_pos_of_neg->Vc,mul_le_mul_of_nonneg_right->Vi,mul_comm->Vn,mul_assoc->Vo,mul_zero->Vp,natAbs_mul->Vq,lt_trichotomy->Vt,eq_ofNat_of_zero_le->Vu,gcd_dvd_left->VD,dvd_add->VT,dvd_mul_of_dvd_right->V3,fdiv_eq_ediv_of_nonneg->Wm,ediv_le_self->Wv,toNat_of_nonneg->Wz,mul_nonpos_of_nonneg_of_nonpos->WI,one_mul->WK,natAbs_neg->WU,sub_zero->WV,emod_def->WW,add_zero->WX,le_of_lt->WY,neg_mul->Xh,ediv_mul_cancel->Xv,toNat->XE,sub_add_cancel->XT,eq_of_mul_eq_mul_right->XU,lt_of_le_of_lt->XX,natAbs_ediv_le_natAbs->X3,dvd_of_emod_eq_zero->Yl,lt_or_le->YB,dvd_refl->YD,sub_self->YE,le_trans->YF,zero_mul->YG,mul_ediv_add_emod->YR,mul_one->YV,mul_nonneg->Y3,mul_neg->Y4,mul_pos->Y5,mul_le_mul->Y6,ediv_self->Zh,ofNat_dvd->Zk,mul_ediv_assoc->Zr,natCast_nonneg->Zt,gcd_dvd_right->ZO,ofNat_le->ZP,ne_of_gt->ZQ,dvd_antisymm->ZZ,mul_sub->Z9
open Option.some renaming inj->Ti
open PySem.Builtin.SmallTypes renaming nextOf->Tq,ownedTupleIsFree->TU,ownedTupleHandOut->UW
open Option renaming map_eq_some_iff->Tv,getD_some->Vf,isSome_iff_exists->WD,bind_eq_some_iff->WJ,getD_none->ZR,bind_some->ZS,map_some->aac
open PySem.Builtin.Range renaming rangeSize->TQ,small->Xr,rangeFitsLong->XC
open Eq renaming trans->T7
open PySem.Str renaming ofString->T9
open Array renaming toList_append->Ub,getElem?_toList->Ug,length_toList->Us,getElem?_extract->UE,getElem?_eq_some_iff->UL,size_extract->UN,perm_iff_toList_perm->VI,toList_reverse->Wj,getElem?_eq_none->WQ,eq_empty_of_size_eq_zero->W7,toList_setIfInBounds->XS,toList_push->X6,find?_toList->Zm,append_empty->Zq,toList->Zu,toList_inj->ZX,size_map->aae
open Bool renaming and_eq_true->Ud,false_ne_true->Uh,false_eq_true->UM,and_eq_true_iff->Xf,eq_iff_iff->YJ,false_and->YU,true_and->Zi,and_true->Zj,not_eq_true'->ZI
open PySem.AutoSeq1 renaming wpAny_loadPart'->U1,sub_tuple_tuple->VV,idx_int->Yg
open PyProof.Rows.KeyOrd renaming kle_refl->U5,kle_of_not_klt->VN,kle_of_klt->We,kle_trans->Wu,klt_of_klt_of_kle->X8,not_klt_of_kle->YO,kle_antisymm->Zc
open False renaming elim->U8
open Ne renaming symm->Vb
open PySem.PyData renaming int->Vh,canLay0->VJ,depth->V8,canLayAll0->WT,depthAll->Xm
open True renaming intro->Vw
open PySem.Obj renaming mapFields->VA,data_mapFields->VF,mapSeq->VX,isFreed_of_fields->Wc
open PySem.Builtin.Slice renaming slicePlaces->VP,sliceAdjust->Ww,sliceApplied->XI
open PySem.Builtin.Tuple renaming tupleExact->VW,tupleItemsOf->XJ,tupleTooMany->XR
open PySem.Builtin.List renaming listTooLong->VY
open List.Pairwise renaming imp_of_mem->V2,imp->X7
open List.Perm renaming append_left->Wd,append_right->WR
open Classical renaming byContradiction->Wy,choose_spec->W4,choose->Yj,skolem->Z0
open PySem.NameKind renaming free->W_,cell->Ze
open PySem.Shared renaming heap->Xe
open PySem.Heap.SameBut renaming update->Xp
open PySem.Builtin.Int renaming intBits->Xs
open PySem.Calls renaming Name_function_global->XF
open PySem.Flow renaming next->Yb
open Nat.succ renaming inj->YA
open ForInStep renaming yield->YI
open Sum renaming inl->Y7,inr->Y8
open PyProof.Rows.IsTup renaming new->Y9
open PySem.EntryCells renaming newEntry->Za
open PySem.Code renaming quiet_builtin->Zp,isFrame->ZA
open PySem.Heap.Ns1 renaming of_empty->Zy
open PySem.Around renaming under->Zz
open Prod.mk renaming inj->Z4
open Array.Perm renaming refl->aab
open List.modifyTailIdx renaming go->aaf
noncomputable section
theorem aR(h:True:=by rfl):True:=h
theorem aD(h:True:=by decide):True:=h
theorem aI(h:True:=by intro _;rfl):True:=h
theorem aK(h:True:=by kernel_rfl):True:=h
theorem aF(h:True:=by first | exact .inl rfl | exact .inr rfl | assumption):True:=h
theorem aU(h:True:=by with_unfolding_all rfl):True:=h
theorem aN(h:True:=by decide +kernel):True:=h
theorem aG(h:True:=by first | exact .inl rfl | exact .inr rfl):True:=h
namespace L2
open PySem PySem.Spec PyProof.Rows
abbrev Key:=Sum Int Str
def Gm:Key->Value->Bool
 | .inl k,v=>Value.isInt k v
 | .inr x,v=>Value.isStrOf x v
def Mr(w:World):Key->Int
 | .inl k=>hashInt k
 | .inr x=>hashStr w x
theorem cy:∀ {k:Key} {v:Value},Gm k v=true->(∃ i t,k=Y7 i/\v=XD i t)\/(∃ x t,k=Y8 x/\v=X_ x t)
 | .inl i,v,h=>by
  obtain⟨t,e⟩:=Value.isInt_shape (k:=i) (v:=v) h;exact .inl ⟨i,t,rfl,e⟩
 | .inr x,v,h=>by
  obtain⟨t,e⟩:=Value.isStrOf_shape (x:=x) (v:=v) h;exact .inr ⟨x,t,rfl,e⟩
theorem HK(a b:Int):decide ((Y7 a:Key)=Y7 b)=(a==b):=by
 by_cases e:a=b
 .subst e;simp
 .have h:¬ (Y7 a:Key)=Y7 b:=λq=>e (Sum.inl.inj q);rw[decide_eq_false h];exact(beq_eq_false_iff_ne.mpr e).symm
theorem GP(a b:Str):decide ((Y8 a:Key)=Y8 b)=decide (a=b):=by
 by_cases e:a=b
 .subst e;simp
 .have h:¬ (Y8 a:Key)=Y8 b:=λq=>e (Sum.inr.inj q);rw[decide_eq_false h,decide_eq_false e]
theorem HA(a:Int)(b:Str):decide ((Y7 a:Key)=Y8 b)=false:=decide_eq_false (λq=>nomatch q)
theorem Iw(a:Str)(b:Int):decide ((Y8 a:Key)=Y7 b)=false:=decide_eq_false (λq=>nomatch q)
def xO(prog:Program)(w:World):PySem.KeyKind prog w Key where
 is:=Gm
 hash:=Mr w
 inj:=λv a b ha hb=>by
  rcases cy ha with ⟨i,t,rfl,rfl⟩ | ⟨x,t,rfl,rfl⟩
  .rcases cy hb with ⟨j,u,rfl,e⟩ | ⟨y,u,rfl,e⟩
   .injection e with e1 _;rw[e1]
   .exact nomatch e
  .rcases cy hb with ⟨j,u,rfl,e⟩ | ⟨y,u,rfl,e⟩
   .exact nomatch e
   .injection e with e1 _;rw[e1]
 byValue:=λk v h=>by
  rcases cy h with ⟨i,t,rfl,rfl⟩ | ⟨x,t,rfl,rfl⟩ <;> rfl
 pyHash:=λhv h=>by
  rcases cy hv with ⟨i,t,rfl,rfl⟩ | ⟨x,t,rfl,rfl⟩
  .exact wpAny_pyHash_int h
  .exact wpAny_pyHash_str h
 eqBool:=λhu hv h=>by
  rcases cy hu with ⟨i,t,rfl,rfl⟩ | ⟨x,t,rfl,rfl⟩
  .rcases cy hv with ⟨j,u,rfl,rfl⟩ | ⟨y,u,rfl,rfl⟩
   .rw[HK] at h;exact wpAny_eqBool_int h
   .rw[HA] at h;exact SeqAt.EqAt.int_str i t y u _ _ _ _ h
  .rcases cy hv with ⟨j,u,rfl,rfl⟩ | ⟨y,u,rfl,rfl⟩
   .rw[Iw] at h;exact SeqAt.EqAt.str_int x t j u _ _ _ _ h
   .rw[GP] at h;exact wpAny_eqBool_str h
 «strs»:=λk x t v h=>by
  rcases cy h with ⟨i,u,rfl,e⟩ | ⟨y,u,rfl,e⟩
  .exact nomatch e
  .injection e with e1 _
   subst e1;cases v <;> rfl
inductive V where
 | cJ | bl (b:Bool) | int (i:Int) | str (x:Str) | byt (b:Array UInt8) | Ge (b:UInt64) | ref (a:Addr) | ty (n:String)
 deriving DecidableEq
def RelV:V->Value->Prop
 | .cJ,u=>u=Um
 | .bl b,u=>u=Vv b
 | .int i,u=>∃ t,u=XD i t
 | .str x,u=>∃ t,u=X_ x t
 | .byt b,u=>∃ t,u=Value.bytes b t
 | .Ge b,u=>∃ t,u=YT b t
 | .ref a,u=>u=Td a
 | .ty n,u=>u=U7 n
abbrev Vals:List V->List Value->Prop:=Paired RelV
theorem Vals.length{xs:List V}{us:List Value}(r:Vals xs us):xs.length=us.length:=Paired.length r
theorem Vals.get:∀ {xs:List V} {us:List Value} {i:Nat} {x:V},Vals xs us->xs[i]?=some x->∃ u,us[i]?=some u/\RelV x u
 | _,_,_,_,.nil,e=>by simp at e
 | _,_,0,_,.cons r _,e=>by simp at e;subst e;exact⟨_,rfl,r⟩
 | _,_,i+1,x,.cons _ t,e=>by
  obtain⟨u,h1,h2⟩:=Vals.get (i:=i) (x:=x) t (by simpa using e);exact⟨u,by simpa using h1,h2⟩
theorem Vals.set{x:V}{u:Value}(r:RelV x u):∀ {xs:List V} {us:List Value} (i:Nat),Vals xs us->Vals (xs.set i x) (us.set i u)
 | _,_,_,.nil=>.nil
 | _,_,0,.cons _ t=>.cons r t
 | _,_,i+1,.cons q t=>.cons q (Vals.set r i t)
theorem Vals.append:∀ {xs ys:List V} {us ws:List Value},Vals xs us->Vals ys ws->Vals (xs++ys) (us++ws)
 | _,_,_,_,.nil,s=>s
 | _,_,_,_,.cons r t,s=>.cons r (Vals.append t s)
theorem Vals.take:∀ {xs:List V} {us:List Value} (n:Nat),Vals xs us->Vals (xs.take n) (us.take n)
 | _,_,0,_=>.nil
 | _,_,_+1,.nil=>.nil
 | _,_,n+1,.cons r t=>.cons r (Vals.take n t)
theorem Vals.drop:∀ {xs:List V} {us:List Value} (n:Nat),Vals xs us->Vals (xs.drop n) (us.drop n)
 | _,_,0,r=>r
 | _,_,_+1,.nil=>.nil
 | _,_,n+1,.cons _ t=>Vals.drop n t
def ml:Option V->Option Value->Prop
 | some v,some u=>RelV v u
 | none,none=>True
 | _,_=>False
def KV{κ:Type}:List (κ×V)->List (κ×Value)->Prop:=Paired λ(p:κ×V) (q:κ×Value)=>p.1=q.1/\RelV p.2 q.2
def kV:Key->V
 | .inl i=>.int i
 | .inr x=>.str x
inductive HO where
 | lst (xs:List V)
 | tup (xs:List V)
 | dK (O4:List (Key×V)) | dT (O4:List (List Key×V))
 | set (S:Int->Bool) (n:Nat)
 | ins (C dx:Addr) (fs:List (Str×V))
 | own (x:Addr)
 | xd (fs:List (Str×V))
 | met (f x:Addr)
 | hZ (lo hi:Int)
 | qL (o:Obj) (u:HO)
 | FO (ps:Array Value)
 | ext (φ:Heap->Prop)
abbrev Hp:=Addr->Option HO
def upd(H:Hp)(a:Addr)(o:HO):Hp:=λb=>if b=a then some o else H b
variable{H:Hp}
theorem aE{a:Addr}{o:HO}:upd H a o a=some o:=by unfold upd;rw[if_pos rfl]
variable{b:Addr}
theorem au{a:Addr}{o:HO}(h:b≠a):upd H a o b=H b:=by unfold upd;rw[if_neg h]
theorem yE{a:Addr}{o u:HO}:upd (upd H a o) a u=upd H a u:=by
 funext b;unfold upd;split <;> rfl
theorem bQ{a:Addr}{o:HO}(h:H a=some o)(h':H b=none):a≠b:=by
 intro e;subst e;rw[h] at h';cases h'
section
variable(P:Program)(w:World)
def b_(H:Hp)(h:Heap)(a:Addr):HO->Prop
 | .lst xs=>xs.length<=sizeLine/\∃ (N9:List Value) (n:Nat),Vals xs N9/\h.get? a=some { cls:=.type "list", data:=.seq N9.toArray n }
 | .tup xs=>xs.length<=sizeLine/\∃ N9:List Value,Vals xs N9/\IsTup h a N9.toArray
 | .dK O4=>O4.length<=sizeLine/\(a==sysModules)=false/\∃ vs,KV O4 vs/\h.DictOf (xO P w) a vs
 | .dT O4=>O4.length<=sizeLine/\(a==sysModules)=false/\∃ xs:List (List Key×Addr×Value),
   Paired (λ(p:List Key×V) (q:List Key×Addr×Value)=>p.1=q.1/\H q.2.1=some (.tup (p.1.map kV))/\RelV p.2 q.2.2) O4 xs ∧
   ∃ o es ep,h.get? a=some o/\o.ExactDict/\o.data=.dict es ep/\es.toList=xs.map (entryOfKey (tupleKind (xO P w)))/\(xs.map (·.1)).Nodup
 | .set S n=>h.SetOf (intKind P w) a S n
 | .ins C dx fs=>H dx=some (.own a)/\fs.length<=1000/\dx≠a/\h.get? a=some (PySem.W.instObj C dx) ∧
   ∃ mA,h.Ns1 dx mA/\(∀ f,ml (fs.lookup f) (mA f))/\PySem.Within mA (fs.map (·.1))
 | .own _=>∃ o,h.get? a=some o
 | .xd fs=>∃ mA,h.Ns1 a mA/\∀ f,ml (fs.lookup f) (mA f)
 | .hZ lo hi=>∃ t u v,h.get? a=some { cls:=.type "range", data:=.fields #[.int lo t,.int hi u,.int 1 v] }
 | .qL o u=>h.get? a=some o/\b_ H h a u
 | .FO ps=>h.get? a=some { cls:=.none,data:=.fields ps }
 | .met f x=>h.get? a=some (PySem.W.methodObj (.ref f) (.ref x))
 | .ext φ=>φ h/\(∃ o,h.get? a=some o)/\∀ h1 h2:Heap,φ h1->(∀ o,h1.get? a=some o->h2.get? a=some o)->φ h2
def mf(H:Hp)(h:Heap):Prop:=∀ a o,H a=some o->b_ P w H h a o
end
variable{h h':Heap}{H':Hp}{w:World}{P:Program}
section
variable{a:Addr}{o:HO}
theorem b_.lt(x:b_ P w H h a o):a<h.objs.size:=by
 cases o with
 | lst xs=>obtain⟨_,_,_,_,e⟩:=x;exact S7 e
 | tup xs=>obtain⟨_,_,_,p⟩:=x;exact p.lt
 | dK O4=>obtain⟨_,_,_,_,o,_,_,e,_⟩:=x;exact S7 e
 | dT O4=>obtain⟨_,_,_,_,o,_,_,e,_⟩:=x;exact S7 e
 | set S n=>obtain⟨o,_,_,_,e,_⟩:=x;exact S7 e
 | ins C dx fs=>obtain⟨_,_,_,e,_⟩:=x;exact S7 e
 | own y=>obtain⟨_,e⟩:=x;exact S7 e
 | xd fs=>obtain⟨_,⟨_,_,_,e,_⟩,_⟩:=x;exact S7 e
 | hZ lo hi=>obtain⟨_,_,_,e⟩:=x;exact S7 e
 | qL ob u=>obtain⟨e,_⟩:=x;exact S7 e
 | FO ps=>exact S7 (show h.get? a=some _ from x)
 | met f y=>exact S7 (show h.get? a=some _ from x)
 | ext φ=>obtain⟨_,⟨_,e⟩,_⟩:=x;exact S7 e
theorem Paired.Lp{α β:Type}{F G:α->β->Prop}:∀ {l₁:List α} {l₂:List β},Paired F l₁ l₂->(∀ a b,F a b->G a b)->Paired G l₁ l₂
 | _,_,.nil,_=>.nil
 | _,_,.cons r t,f=>.cons (f _ _ r) (Paired.Lp t f)
theorem b_.lQ(x:b_ P w H h a o)(k:∀ b u,(b=a\/H b=some (.own a))->h.get? b=some u->h'.get? b=some u)
  (ho:∀ b,H b=some (.own a)->H' b=some (.own a)) (ht:∀ b xs,H b=some (.tup xs)->H' b=some (.tup xs)):b_ P w H' h' a o:=by
 induction o with
 | lst xs=>obtain⟨z,N9,n,r,e⟩:=x;exact⟨z,N9,n,r,k _ _ (.inl rfl) e⟩
 | tup xs=>obtain⟨z,N9,r,ob,e,c⟩:=x;exact⟨z,N9,r,ob,k _ _ (.inl rfl) e,c⟩
 | dK O4=>obtain⟨z,y,vs,r,ob,es,ep,e,c⟩:=x;exact⟨z,y,vs,r,ob,es,ep,k _ _ (.inl rfl) e,c⟩
 | dT O4 =>
  obtain⟨z,y,xs,r,ob,es,ep,e,c⟩:=x;exact⟨z,y,xs,Paired.Lp r λp q z=>⟨z.1,ht _ _ z.2.1,z.2.2⟩,ob,es,ep,k _ _ (.inl rfl) e,c⟩
 | set S n=>obtain⟨ob,es,ep,t,e,c⟩:=x;exact⟨ob,es,ep,t,k _ _ (.inl rfl) e,c⟩
 | ins C dx fs =>
  obtain⟨d,z,ne,e,mA,⟨od,es,ep,e2,c⟩,r⟩:=x;exact⟨ho _ d,z,ne,k _ _ (.inl rfl) e,mA,⟨od,es,ep,k _ _ (.inr d) e2,c⟩,r⟩
 | own y=>obtain⟨ob,e⟩:=x;exact⟨ob,k _ _ (.inl rfl) e⟩
 | xd fs=>obtain⟨mA,⟨od,es,ep,e,c⟩,r⟩:=x;exact⟨mA,⟨od,es,ep,k _ _ (.inl rfl) e,c⟩,r⟩
 | hZ lo hi=>obtain⟨t,u,v,e⟩:=x;exact⟨t,u,v,k _ _ (.inl rfl) e⟩
 | qL ob u ih=>obtain⟨e,q⟩:=x;exact⟨k _ _ (.inl rfl) e,ih q⟩
 | FO ps =>
  have e:h.get? a=some { cls:=.none,data:=.fields ps }:=x;show h'.get? a=some { cls:=.none,data:=.fields ps };exact k a _ (.inl rfl) e
 | met f y =>
  have e:h.get? a=some (PySem.W.methodObj (.ref f) (.ref y)):=x;show h'.get? a=some (PySem.W.methodObj (.ref f) (.ref y));exact k a _ (.inl rfl) e
 | ext φ=>obtain⟨p,⟨o,e⟩,st⟩:=x;exact⟨st _ _ p λo q=>k _ _ (.inl rfl) q,⟨o,k _ _ (.inl rfl) e⟩,st⟩
theorem mf.lt(x:mf P w H h)(e:H a=some o):a<h.objs.size:=(x a o e).lt
theorem mf.fresh(x:mf P w H h)(e:h.objs.size<=a):H a=none:=by
 cases q:H a with
 | none=>rfl
 | some u=>exact absurd (S_ (x.lt q) e) (VU _)
theorem mf.kept(x:mf P w H h)(k:∀ b u,h.get? b=some u->h'.get? b=some u):mf P w H h':=λa o e =>
 (x a o e).lQ (λb u _ q=>k b u q) (λ_ q=>q) λ_ _ q=>q
theorem mf.laid(x:mf P w H h)(k:∀ b u,h.get? b=some u->h'.get? b=some u)(hp:h.objs.size<=a)(new:b_ P w (upd H a o) h' a o):mf P w (upd H a o) h':=λb u e=>by
 have hn:=x.fresh hp
 by_cases hb:b=a
 .subst hb;rw[aE] at e;cases e;exact new
 .rw[au hb] at e;exact(x b u e).lQ (λc v _ q=>k c v q) (λc q=>by rw[au (bQ q hn)];exact q) λc xs q=>by rw[au (bQ q hn)];exact q
end
def Rd(H:Hp)(a:Addr)(u:HO):Prop:=H a=some u\/∃ o,H a=some (.qL o u)
theorem Rd.ok{a:Addr}{u:HO}(r:Rd H a u)(x:mf P w H h):b_ P w H h a u:=by
 rcases r with r | ⟨o,r⟩
 .exact x a u r
 .obtain⟨_,q⟩:=x a _ r;exact q
def LV:Option HO->Prop
 | some (.lst _)=>True
 | some (.dK _)=>True
 | some (.dT _)=>True
 | some (.set _ _)=>True
 | some (.ins _ _ _)=>True
 | some (.ext _)=>True
 | _=>False
section
variable{x e:Addr}{o':HO}
theorem mf.write(ok:mf P w H h)(mu:LV (H x))(he:e=x\/H e=some (.own x))(k:∀ b u,b≠e->h.get? b=some u->h'.get? b=some u)(RZ:∃ u,h'.get? e=some u)
  (new:b_ P w (upd H x o') h' x o'):mf P w (upd H x o') h':=λb u q=>by
 have SM:∀ c y,H c=some (.own y)->c≠x:=λc y r z=>by subst z;rw[r] at mu;exact mu
 have ntup:∀ c xs,H c=some (.tup xs)->c≠x:=λc xs r z=>by subst z;rw[r] at mu;exact mu
 by_cases hb:b=x
 .subst hb;rw[aE] at q;cases q;exact new
 .rw[au hb] at q
  by_cases QH:b=e
  .have q':H b=some (.own x):=by
    rcases he with z | z
    .exact absurd (QH.trans z) hb
    .rw[QH];exact z
   rw[q] at q';cases q';obtain⟨v,hv⟩:=RZ;exact⟨v,by rw[QH];exact hv⟩
  .refine(ok b u q).lQ (λc v hc r=>k c v ?_ r) (λc r=>by rw[au (SM c b r)];exact r) λc xs r=>by rw[au (ntup c xs r)];exact r
   rcases hc with rfl | hc
   .exact QH
   .rintro rfl;rcases he with z | z
    .exact SM c b hc z
    .rw[hc] at z;cases z;exact hb rfl
end
structure Un (fs ex:List Addr) (H H':Hp) (h h':Heap):Prop where
 keep:∀ b o,h.get? b=some o->H b=none->b ∉ fs->b ∉ ex->h'.get? b=some o
 slot:∀ b o,h.get? b=some o->H b=none->b∈fs->b ∉ ex->∃ sl,h'.get? b=some { o with slots:=sl }
 free:∀ b o,h.get? b=some o->H b=none->b ∉ ex->H' b=none
 there:∀ b o,h.get? b=some o->b ∉ ex->∃ o',h'.get? b=some o'
 pk:∀ b xs,H b=some (.tup xs)->H' b=some (.tup xs)
 kS:∀ b o u,H b=some (.qL o u)->H' b=some (.qL o u)
 oP:∀ b ps,H b=some (.FO ps)->∃ more,H' b=some (.FO (ps++more))
section
variable{fs Rx ex ex':List Addr}{H1 H2:Hp}{h1 h2:Heap}{a x e:Addr}{o:HO}
theorem Un.any(u:Un fs ex H H1 h h1){ob:Obj}(q:h.get? b=some ob)(n:H b=none)(hx:b ∉ ex):∃ sl,h1.get? b=some { ob with slots:=sl }:=by
 by_cases hb:b∈fs
 .exact u.slot b ob q n hb hx
 .exact⟨ob.slots,u.keep b ob q n hb hx⟩
theorem Un.kept(k:∀ b u,h.get? b=some u->h'.get? b=some u):Un fs ex H H h h' :=
 ⟨λb ob q _ _ _=>k b ob q,λb ob q _ _ _=>⟨ob.slots,k b ob q⟩,λ_ _ _ n _=>n,λb ob q _=>⟨ob,k b ob q⟩,λ_ _ q=>q,λ_ _ _ q=>q,λ_ ps q=>⟨#[],by rw[q];simp⟩⟩
theorem Un.refl:Un fs ex H H h h:=Un.kept λ_ _ q=>q
theorem Un.laid(k:∀ b u,h.get? b=some u->h'.get? b=some u)(hp:h.objs.size<=a)(hn:H a=none):Un fs ex H (upd H a o) h h' where
 keep:=λb u q _ _ _=>k b u q
 slot:=λb u q _ _ _=>⟨u.slots,k b u q⟩
 free:=λb u q n _=>by rw[au (Tu (S_ (S7 q) hp))];exact n
 there:=λb u q _=>⟨u,k b u q⟩
 pk:=λb xs q=>by rw[au (bQ q hn)];exact q
 kS:=λb u xs q=>by rw[au (bQ q hn)];exact q
 oP:=λb ps q=>⟨#[],by rw[au (bQ q hn),q];simp⟩
theorem Un.write(mu:LV (H x))(he:e=x\/H e=some (.own x))(k:∀ b u,b≠e->h.get? b=some u->h'.get? b=some u)(RZ:∃ u,h'.get? e=some u):Un fs ex H (upd H x o) h h':=by
 have hx:∀ b,H b=none->b≠x:=λb n z=>by subst z;rw[n] at mu;exact mu
 have hb:∀ b,H b=none->b≠e:=λb n z=>by
  subst z;rcases he with r | r
  .exact hx b n r
  .rw[n] at r;cases r
 have hm:∀ b u,H b=some u->¬ LV (some u)->b≠x:=λb u q nm z=>by subst z;rw[q] at mu;exact nm mu
 refine⟨λb u q n _ _=>k b u (hb b n) q,λb u q n _ _=>⟨u.slots,k b u (hb b n) q⟩,λb u q n _=>by rw[au (hx b n)];exact n,λb u q _=>?_,
  λb xs q=>by rw[au (hm b _ q λz=>z)];exact q,λb u xs q=>by rw[au (hm b _ q λz=>z)];exact q,λb ps q=>⟨#[],by rw[au (hm b _ q λz=>z),q];simp⟩⟩
 by_cases QH:b=e
 .subst QH;exact RZ
 .exact⟨u,k b u QH q⟩
end
def LM(h:Heap)(H:Hp):List Addr:=(Tg h.objs.size).filter λa=>(H a).isSome
def uz(h:Heap)(H:Hp):Heap:=PySem.W.hideAll h (LM h H)
theorem zR(h:Heap)(H:Hp):(uz h H).objs.size=h.objs.size:=PySem.W.hideAll_size _ _
variable{o:Obj}
theorem AZ(e:h.get? b=some o)(n:H b=none):(uz h H).get? b=some o :=
 PySem.W.hideAll_get _ e λhm=>by
  have q:(H b).isSome=true:=(Xi.mp hm).2;rw[n] at q;simp at q
theorem DL(e:(uz h H).get? b=some o):h.get? b=some o/\H b=none:=by
 have e':h.get? b=some o:=PySem.W.of_hideAll (LM h H) e;refine⟨e',?_⟩;cases q:H b with
 | none=>rfl
 | some x =>
  have hm:b∈LM h H:=Xi.mpr ⟨UA.mpr (S7 e'),by simp[q]⟩;have z:(uz h H).get? b=none:=PySem.W.hideAll_none (LM h H) hm;rw[z] at e;cases e
def D8(g h:Heap)(L:Addr):List (Addr×Obj):=(Tg h.objs.size).filterMap λa=>if a=L\/(g.get? a).isSome=true then none else (h.get? a).map λo=>(a,o)
def rest(g h:Heap)(L d:Addr):List (Addr×Obj):=(D8 g h L).filter λp=>decide (p.1≠d)
structure Mod (K:PySem.W.Frag) (mg:Str->Option Value) (base:Heap):Prop where
 Gb:K.In base
 glob:base.Ns mainGlobals mg
 blt:∃ mb,base.Ns builtinsNs mb/\∀ x:Str,x ≠ "__name__" -> mb x=bootBuiltins x
 nolimit:base.NoLimit
structure Cx where
 prog:Program
 w:World
 K:PySem.W.Frag
 mg:Str->Option Value
 base:Heap
 A:Around
 N:List Str
 s₀:Shared
 H₀:Hp
 env:Env
 outer:List Env
 stack:List Env
 ex:List Addr
 fn:Str->Bool
 calm:Bool
 pn:List (Addr×Obj)
 xe:Value->Shared->Prop
def wm(l:List Env):List Addr:=l.filterMap (·.frame)
abbrev Cx.fs(X:Cx):List Addr:=wm X.outer
def BQ(sc:Scope)(x:Str):Prop:=sc.names.lookup x=some .local\/sc.names.lookup x=some .cell\/sc.names.lookup x=some .free
def Loc(sc:Scope)(x:Str):Prop:=sc.names.lookup x=some .local\/sc.names.lookup x=some .cell
def Look(env:Env)(h:Heap)(m:Str->Option Value)(x:Str)(u:Value):Prop :=
 (env.kindOf x=some .local/\m x=some u)\/((env.kindOf x=some .cell\/env.kindOf x=some .free)/\∃ c,env.cells.lookup x=some c/\h.IsCell c (some u))
structure Cx.Ok (X:Cx):Prop where
 mod:Mod X.K X.mg X.base
 kind:X.env.scope.kind=.function
 glob:X.env.globals=mainGlobals
 blt:X.env.builtins=builtinsNs
 above:X.s₀.heap.objs.size<=X.env.locals
 inj:∀ x y c,X.env.cells.lookup x=some c->X.env.cells.lookup y=some c->x=y
 has:∀ x,(X.env.kindOf x=some .cell\/X.env.kindOf x=some .free)->∃ c,X.env.cells.lookup x=some c
 Gf:∀ x c,X.fn x=true->X.env.cells.lookup x=some c->X.s₀.heap.objs.size<=c
 hd:X.calm=true->X.A.handled=none
 frames:X.A.frames=some X.stack
 IY:X.stack=X.outer\/(X.stack=X.env::X.outer/\X.env.frame=some X.env.locals)
 JM:∀ b∈X.ex,b≠X.env.locals/\∀ x c,X.env.cells.lookup x=some c->c≠b
 bs:∀ b o,X.base.get? b=some o->X.s₀.heap.get? b=some o/\X.H₀ b=none
 Dr:X.base.objs.size<=X.s₀.heap.objs.size
 tP:∀ b o,X.base.get? b=some o->b ∉ X.ex
 vD:∀ b∈X.ex,b ∉ X.fs
 kO:X.s₀.heap.FunFrames X.base X.outer
 DI:∀ b∈X.fs,X.H₀ b=none
structure Inv (X:Cx) (N5:List (Addr×Obj)) (σ:List (Option V)) (H:Hp) (s:Shared):Prop where
 ok:X.Ok
 os:s.os=X.s₀.os
 bare:AllBare s.gens
 base:Un X.fs X.ex X.H₀ H X.s₀.heap s.heap
 loc:∃ m,s.heap.Ns X.env.locals m/\∀ (i:Nat) (x:Str) (v:V),X.N[i]?=some x->σ[i]?=some (some v)->BQ X.env.scope x->∃ u,RelV v u/\Look X.env s.heap m x u
 cell:∀ x c,X.env.cells.lookup x=some c->∃ v,s.heap.IsCell c v
 free:H X.env.locals=none
 gq:∀ x c,X.env.cells.lookup x=some c->H c=none
 pin:∀ p∈X.pn++N5,s.heap.get? p.1=some p.2/\H p.1=none/\p.1≠X.env.locals/\p.1 ∉ X.fs/\∀ v,p.2.data≠.cell v
 bB:mf X.prog X.w H s.heap
 len:σ.length=X.N.length
variable{s:Shared}{N5:List (Addr×Obj)}{X:Cx}
variable{ch:List Addr}{d':Drawn}{t':Nat}{g':Array GenState}
variable{it:Addr}
variable{x:Str}{i:Nat}{N:List Str}
variable{u:Value}{v:V}{E:Value->Shared->Prop}{A:Around}
section
variable{σ:List (Option V)}
theorem Cx.Ok.Mw(ok:X.Ok)(e:X.base.get? b=some o):b ∉ X.fs:=λhb=>by
 have:=(ok.kO.mem hb).1;rw[e] at this;cases this
theorem Inv.bs(I:Inv X N5 σ H s):∀ b o,X.base.get? b=some o->s.heap.get? b=some o/\H b=none:=λb o e =>
 ⟨I.base.keep b o (I.ok.bs b o e).1 (I.ok.bs b o e).2 (I.ok.Mw e) (I.ok.tP b o e),I.base.free b o (I.ok.bs b o e).1 (I.ok.bs b o e).2 (I.ok.tP b o e)⟩
theorem Inv.bk(I:Inv X N5 σ H s):∀ b o,X.base.get? b=some o->s.heap.get? b=some o:=λb o e=>(I.bs b o e).1
theorem Inv.mod(I:Inv X N5 σ H s):Mod X.K X.mg X.base:=I.ok.mod
theorem Inv.jK(I:Inv X N5 σ H s):X.K.In s.heap:=I.ok.mod.Gb.keeps I.bk
theorem Inv.lt(I:Inv X N5 σ H s):X.env.locals<s.heap.objs.size:=let ⟨_,hn,_⟩:=I.loc;hn.lt
theorem Inv.sz(I:Inv X N5 σ H s):X.s₀.heap.objs.size<=s.heap.objs.size:=TJ I.ok.above (VS I.lt)
theorem Inv.L5(I:Inv X N5 σ H s){a:Addr}(h:s.heap.objs.size<=a):a ∉ X.fs:=λhb=>by
 obtain⟨_,o,ho,_⟩:=I.ok.kO.mem hb;exact absurd (S_ (S7 ho) (TJ I.sz h)) (VU _)
theorem Inv.B0(I:Inv X N5 σ H s):∀ x c,X.env.cells.lookup x=some c->c≠X.env.locals:=λx c e z=>by
 obtain⟨v,o,ho,hd⟩:=I.cell x c e;obtain⟨m,⟨o',es,ep,Ql,Sd,_⟩,_⟩:=I.loc;rw[z,Ql] at ho;cases ho;rw[Sd] at hd;cases hd
theorem Inv.kO(I:Inv X N5 σ H s):s.heap.FunFrames X.base X.outer:=by
 have all:∀ (l:List Env),(∀ b∈wm l,b∈X.fs)->X.s₀.heap.FunFrames X.base l->s.heap.FunFrames X.base l:=by
  intro l
  induction l with
  | nil=>intro _ _;trivial
  | cons env r ih =>
   intro hs hl;obtain⟨hk,⟨L,o,hf,hn,ho,hd⟩,hr⟩:=hl;have hL:L∈X.fs:=hs L (by unfold wm;rw[Xo,hf];exact Tp);obtain⟨sl,e⟩:=I.base.slot L o ho (I.ok.DI L hL) hL λz=>I.ok.vD L z hL;exact⟨hk,⟨L,_,hf,hn,e,hd⟩,ih (λb hb=>hs b (by unfold wm;rw[Xo,hf];exact Tf _ hb)) hr⟩
 exact all X.outer (λ_ hb=>hb) I.ok.kO
theorem Inv.stack(I:Inv X N5 σ H s):s.heap.FunFrames X.base X.stack:=by
 rcases I.ok.IY with e | ⟨e,hf⟩
 .rw[e];exact I.kO
 .rw[e];obtain⟨m,hn,_⟩:=I.loc;refine .cons (by rw[I.ok.kind];decide) hf hn ?_ I.kO;exact Wg (TJ I.ok.Dr I.ok.above)
theorem Inv.uD(I:Inv X N5 σ H s):∀ b∈wm X.stack,b∈X.env.locals::X.fs:=λb hb=>by
 rcases I.ok.IY with e | ⟨e,hf⟩
 .rw[e] at hb;exact Tf _ hb
 .rw[e] at hb;unfold wm at hb;rw[Xo,hf] at hb;exact hb
theorem Inv.ui(I:Inv X N5 σ H s):∀ b∈wm X.stack,H b=none:=λb hb=>by
 rcases Tt.mp (I.uD b hb) with e | hb
 .rw[e];exact I.free
 .obtain⟨_,o,ho,_⟩:=I.ok.kO.mem hb;exact I.base.free b o ho (I.ok.DI b hb) λz=>I.ok.vD b z hb
theorem Inv.step(I:Inv X N5 σ H s)
  (Qe:∀ b∈ch,(b∈X.ex\/X.s₀.heap.objs.size<=b)/\b≠X.env.locals/\(∀ x c,X.env.cells.lookup x=some c->c≠b)/\∀ p∈X.pn++N5,p.1≠b)
  (keep:∀ b o,b≠X.env.locals->b ∉ X.fs->b ∉ ch->s.heap.get? b=some o->H b=none->h'.get? b=some o)
  (slot:∀ b o,b≠X.env.locals->b∈X.fs->b ∉ ch->s.heap.get? b=some o->H b=none->∃ sl,h'.get? b=some { o with slots:=sl }) (free:∀ b o,b ∉ ch->s.heap.get? b=some o->H b=none->H' b=none)
  (there:∀ b o,b ∉ ch->s.heap.get? b=some o->∃ o',h'.get? b=some o')
  (pk:∀ b xs,H b=some (.tup xs)->H' b=some (.tup xs)) (kS:∀ b o u,H b=some (.qL o u)->H' b=some (.qL o u)) (oP:∀ b ps,H b=some (.FO ps)->∃ more,H' b=some (.FO (ps++more)))
  (ns:∀ m,s.heap.Ns X.env.locals m->h'.Ns X.env.locals m) (bB:mf X.prog X.w H' h') (hg:AllBare g') :
  Inv X N5 σ H' { s with heap:=h',gens:=g',drawn:=d',toks:=t' }:=by
 have neL:∀ b o,X.s₀.heap.get? b=some o->b≠X.env.locals:=λb o e=>Tu (S_ (S7 e) I.ok.above);have neC:∀ b o,X.s₀.heap.get? b=some o->b ∉ X.ex->b ∉ ch:=λb o e hx hb=>by
  rcases(Qe b hb).1 with z | z
  .exact hx z
  .exact absurd (S_ (S7 e) z) (VU _)
 have cellK:∀ x c,X.env.cells.lookup x=some c->∀ v,s.heap.IsCell c v->h'.IsCell c v:=λx c e v ⟨o,ho,hd⟩=>by
  have SK:c ∉ ch:=λz=>(Qe c z).2.2.1 x c e rfl
  by_cases hc:c∈X.fs
  .obtain⟨sl,q⟩:=slot c o (I.B0 x c e) hc SK ho (I.gq x c e);exact⟨_,q,hd⟩
  .exact⟨o,keep c o (I.B0 x c e) hc SK ho (I.gq x c e),hd⟩
 refine⟨I.ok,I.os,hg,⟨λb o e n hb hx=>?_,λb o e n hb hx=>?_,λb o e n hx=>?_,λb o e hx=>?_,λb xs e=>pk b xs (I.base.pk b xs e),λb o xs e=>kS b o xs (I.base.kS b o xs e),λb ps e=>?_⟩,?_,λx c e=>?_,?_,λx c e=>?_,λp hp=>?_,bB,I.len⟩
 .exact keep b o (neL b o e) hb (neC b o e hx) (I.base.keep b o e n hb hx) (I.base.free b o e n hx)
 .obtain⟨sl,e1⟩:=I.base.slot b o e n hb hx;obtain⟨sl',e2⟩:=slot b _ (neL b o e) hb (neC b o e hx) e1 (I.base.free b o e n hx);exact⟨sl',e2⟩
 .obtain⟨o',e1⟩:=I.base.there b o e hx;exact free b o' (neC b o e hx) e1 (I.base.free b o e n hx)
 .obtain⟨o',e1⟩:=I.base.there b o e hx;exact there b o' (neC b o e hx) e1
 .obtain⟨m1,e1⟩:=I.base.oP b ps e;obtain⟨m2,e2⟩:=oP b _ e1;exact⟨m1++m2,by rw[e2,Array.append_assoc]⟩
 .obtain⟨m,hn,hl⟩:=I.loc;refine⟨m,ns m hn,λi x v e1 e2 e3=>?_⟩;obtain⟨u,r,l⟩:=hl i x v e1 e2 e3;refine⟨u,r,?_⟩;rcases l with l | ⟨k,c,e,z⟩
  .exact .inl l
  .exact .inr ⟨k,c,e,cellK x c e _ z⟩
 .obtain⟨v,z⟩:=I.cell x c e;exact⟨v,cellK x c e v z⟩
 .obtain⟨m,⟨o,_,_,ho,_⟩,_⟩:=I.loc;exact free _ o (λz=>(Qe _ z).2.1 rfl) ho I.free
 .obtain⟨v,o,ho,hd⟩:=I.cell x c e;exact free c o (λz=>(Qe c z).2.2.1 x c e rfl) ho (I.gq x c e)
 .obtain⟨e,n,ne,nf,d⟩:=I.pin p hp;have SK:p.1 ∉ ch:=λz=>(Qe p.1 z).2.2.2 p hp rfl;exact⟨keep p.1 p.2 ne nf SK e n,free p.1 p.2 SK e n,ne,nf,d⟩
theorem Inv.un(I:Inv X N5 σ H s)(u:Un X.fs [] H H' s.heap h')(bB:mf X.prog X.w H' h'):Inv X N5 σ H' { s with heap:=h',toks:=t' }:=by
 obtain⟨m,⟨o,es,ep,ho,r⟩,_⟩:=id I.loc;obtain⟨sl,hL⟩:=u.any ho I.free (by simp);exact I.step (g':=s.gens) (d':=s.drawn) (ch:=[]) (λ_ z=>nomatch z) (λb o _ hb _ e n=>u.keep b o e n hb (by simp)) (λb o _ hb _ e n=>u.slot b o e n hb (by simp)) (λb o _ e n=>u.free b o e n (by simp)) (λb o _ e=>u.there b o e (by simp)) u.pk u.kS u.oP (λm' hm=>by
  obtain⟨o',es',ep',Ql,r'⟩:=hm;rw[ho] at Ql;cases Ql;exact⟨_,es',ep',hL,r'⟩) bB I.bare
theorem Inv.call(I:Inv X N5 σ H s)(u:Un (wm X.stack) ch H H' s.heap h')(bB:mf X.prog X.w H' h')(hg:AllBare g')
  (Qe:∀ b∈ch,(b∈X.ex\/X.s₀.heap.objs.size<=b)/\b≠X.env.locals/\(∀ x c,X.env.cells.lookup x=some c->c≠b)/\∀ p∈X.pn++N5,p.1≠b) :
  Inv X N5 σ H' { s with heap:=h',gens:=g',drawn:=d',toks:=t' }:=by
 obtain⟨m,⟨o,es,ep,ho,r⟩,_⟩:=id I.loc;obtain⟨sl,hL⟩:=u.any ho I.free λz=>(Qe _ z).2.1 rfl;exact I.step (ch:=ch) Qe (λb o hL hb hc e n=>u.keep b o e n (λz=>(Tt.mp (I.uD b z)).elim hL hb) hc) (λb o _ _ hc e n=>u.any e n hc) (λb o hc e n=>u.free b o e n hc) (λb o hc e=>u.there b o e hc) u.pk u.kS u.oP (λm' hm=>by
  obtain⟨o',es',ep',Ql,r'⟩:=hm;rw[ho] at Ql;cases Ql;exact⟨_,es',ep',hL,r'⟩) bB hg
theorem Inv.turned(I:Inv X N5 σ H s)(k:∀ b o,b≠it->s.heap.get? b=some o->h'.get? b=some o)(hn:H it=none)(hL:it≠X.env.locals)
  (h1:it∈X.ex\/X.s₀.heap.objs.size<=it) (h2:∀ x c,X.env.cells.lookup x=some c->c≠it) (h3:∀ p∈X.pn++N5,p.1≠it):Inv X N5 σ H { s with heap:=h',toks:=t' }:=by
 have nit:∀ b u,H b=some u->b≠it:=λb u e z=>by rw[z,hn] at e;cases e
 refine I.step (g':=s.gens) (d':=s.drawn) (ch:=[it]) (λb hb=>?_) (λb o _ _ hc e _=>k b o (λz=>hc (by simp[z])) e) (λb o _ _ hc e _=>⟨o.slots,k b o (λz=>hc (by simp[z])) e⟩) (λ_ _ _ _ n=>n)
  (λb o hc e=>⟨o,k b o (λz=>hc (by simp[z])) e⟩) (λ_ _ e=>e) (λ_ _ _ e=>e) (λb ps e=>⟨#[],by rw[e];simp⟩) (λm hm=>?_) (λb u e=>?_) I.bare
 .have e:b=it:=by simpa using hb
  subst e;exact⟨h1,hL,h2,h3⟩
 .obtain⟨o,es,ep,ho,r⟩:=hm;exact⟨o,es,ep,k _ o (Vb hL) ho,r⟩
 .refine(I.bB b u e).lQ (λc v hc q=>k c v ?_ q) (λ_ q=>q) λ_ _ q=>q;rcases hc with z | z
  .rw[z];exact nit b u e
  .exact nit c _ z
theorem Inv.tok(I:Inv X N5 σ H s)(t:Nat):Inv X N5 σ H { s with toks:=t }:=I.un (h':=s.heap) (t':=t) Un.refl I.bB
theorem Inv.kept{t':Nat}(I:Inv X N5 σ H s)(k:∀ b u,s.heap.get? b=some u->h'.get? b=some u):Inv X N5 σ H { s with heap:=h',toks:=t' }:=I.un (Un.kept k) (I.bB.kept k)
theorem Inv.laid{a:Addr}{o:HO}{t':Nat}(I:Inv X N5 σ H s)(k:∀ b u,s.heap.get? b=some u->h'.get? b=some u)(hp:s.heap.objs.size<=a)(new:b_ X.prog X.w (upd H a o) h' a o) :
  Inv X N5 σ (upd H a o) { s with heap:=h',toks:=t' }:=I.un (Un.laid k hp (I.bB.fresh hp)) (I.bB.laid k hp new)
theorem Inv.write{x e:Addr}{o:HO}{t':Nat}(I:Inv X N5 σ H s)(mu:LV (H x))(he:e=x\/H e=some (.own x))(k:∀ b u,b≠e->s.heap.get? b=some u->h'.get? b=some u)(RZ:∃ u,h'.get? e=some u)
  (new:b_ X.prog X.w (upd H x o) h' x o):Inv X N5 σ (upd H x o) { s with heap:=h',toks:=t' }:=I.un (Un.write mu he k RZ) (I.bB.write mu he k RZ new)
theorem Inv.yz{Qi:List (Addr×Obj)}(I:Inv X N5 σ H s)(h:∀ p∈Qi,s.heap.get? p.1=some p.2/\H p.1=none/\p.1≠X.env.locals/\p.1 ∉ X.fs/\∀ v,p.2.data≠.cell v):Inv X Qi σ H s :=
 ⟨I.ok,I.os,I.bare,I.base,I.loc,I.cell,I.free,I.gq,λp hp=>(UG.mp hp).elim (λz=>I.pin p (Xb _ z)) (h p),I.bB,I.len⟩
theorem pv(hN:N.Nodup){j:Nat}(a:N[i]?=some x)(b:N[j]?=some x):i=j:=by
 obtain⟨h1,e1⟩:=Ut.mp a;obtain⟨h2,e2⟩:=Ut.mp b;exact(List.getElem_inj hN).mp (e1.trans e2.symm)
theorem sj{M:Model}{Q:Unit->Shared->Prop}(I:Inv X N5 σ H s)(hN:X.N.Nodup)(hi:X.N[i]?=some x)(hx:Loc X.env.scope x)(r:RelV v u)
  (h:∀ s',Inv X N5 (σ.set i (some v)) H s'->(∃ a,Wq a s.heap s'.heap/\(a=X.env.locals\/X.env.cells.lookup x=some a))->Q () s') (hf:autoParam (X.fn x=true\/X.env.scope.names.lookup x=some .local) aF._auto_1):wpAny M A (storeName X.env x u) Q E s:=by
 obtain⟨m,hn,hl⟩:=id I.loc;have hcls:(X.env.scope.kind==.class||(X.env.scope.kind==.module&&X.env.locals != X.env.globals))=false:=by rw[I.ok.kind];rfl
 have hiσ:i<σ.length:=by rw[I.len];exact(Ut.mp hi).1
 have B0:=I.B0;have tracked:∀ {a:Addr} {h':Heap},(∃ o,s.heap.get? a=some o/\H a=none)->Wq a s.heap h'->mf X.prog X.w H h':=λ{a h'} ha hs b ob e=>by
  obtain⟨_,_,QA⟩:=ha;refine(I.bB b ob e).lQ (λc w' hc q=>(hs.2 c ?_).trans q) (λ_ q=>q) λ_ _ q=>q;rintro rfl;rcases hc with rfl | hc
  .rw[QA] at e;cases e
  .rw[QA] at hc;cases hc
 rcases hx with hk | hk
 .refine wpAny_storeName_local hk hn (λh' Sq hs=>?_) hcls;obtain⟨oL,_,_,hoL,_⟩:=id hn;refine h _ ⟨I.ok,I.os,I.bare,⟨λb o e n hb hx=>?_,λb o e n hb hx=>?_,I.base.free,λb o e hx=>?_,I.base.pk,I.base.kS,I.base.oP⟩,⟨_,Sq,λj y v' e1 e2 e3=>?_⟩,λy c e=>?_,I.free,I.gq,λp hp=>?_,tracked ⟨oL,hoL,I.free⟩ hs,by simpa using I.len⟩ ⟨_,hs,.inl rfl⟩
  .exact(hs.2 b (Tu (S_ (S7 e) I.ok.above))).trans (I.base.keep b o e n hb hx)
  .obtain⟨sl,e1⟩:=I.base.slot b o e n hb hx;exact⟨sl,(hs.2 b (Tu (S_ (S7 e) I.ok.above))).trans e1⟩
  .obtain⟨o',e1⟩:=I.base.there b o e hx;exact⟨o',(hs.2 b (Tu (S_ (S7 e) I.ok.above))).trans e1⟩
  .by_cases hj:j=i
   .subst hj;rw[hi] at e1;cases e1;rw[Ym hiσ] at e2;cases e2;exact⟨u,r,.inl ⟨hk,by simp⟩⟩
   .rw[Xc (Vb hj)] at e2;obtain⟨u',r',q⟩:=hl j y v' e1 e2 e3;refine⟨u',r',?_⟩;rcases q with ⟨k,e⟩ | ⟨k,c,e,z⟩
    .refine .inl ⟨k,?_⟩;have:y≠x:=λe=>hj (pv hN e1 (e▸hi));simp[this,e]
    .exact .inr ⟨k,c,e,z.sameBut hs (B0 y c e)⟩
  .obtain⟨w',z⟩:=I.cell y c e;exact⟨w',z.sameBut hs (B0 y c e)⟩
  .obtain⟨e,n,ne,nf,d⟩:=I.pin p hp;exact⟨(hs.2 p.1 ne).trans e,n,ne,nf,d⟩
 .have hfn:X.fn x=true:=by
   rcases hf with z | z
   .exact z
   .rw[z] at hk;cases hk
  obtain⟨c,hc⟩:=I.ok.has x (.inl hk);obtain⟨w',z⟩:=I.cell x c hc;refine wpAny_storeName_cell I.ok.kind hk hc z (λh' Rq hs=>?_);obtain⟨oc,hoc,hocd⟩:=id z;refine h { s with heap:=h' } ⟨I.ok,I.os,I.bare,⟨λb o e n hb hx=>?_,λb o e n hb hx=>?_,I.base.free,λb o e hx=>?_,I.base.pk,I.base.kS,I.base.oP⟩,⟨m,hn.sameBut hs (Vb (B0 x c hc)),λj y v' e1 e2 e3=>?_⟩,λy c' e=>?_,I.free,I.gq,λp hp=>?_,tracked ⟨oc,hoc,I.gq x c hc⟩ hs,by simpa using I.len⟩ ⟨c,hs,.inr hc⟩
  .exact(hs.2 b (Tu (S_ (S7 e) (I.ok.Gf x c hfn hc)))).trans (I.base.keep b o e n hb hx)
  .obtain⟨sl,e1⟩:=I.base.slot b o e n hb hx;exact⟨sl,(hs.2 b (Tu (S_ (S7 e) (I.ok.Gf x c hfn hc)))).trans e1⟩
  .obtain⟨o',e1⟩:=I.base.there b o e hx;exact⟨o',(hs.2 b (Tu (S_ (S7 e) (I.ok.Gf x c hfn hc)))).trans e1⟩
  .by_cases hj:j=i
   .subst hj;rw[hi] at e1;cases e1;rw[Ym hiσ] at e2;cases e2;exact⟨u,r,.inr ⟨.inl hk,c,hc,Rq⟩⟩
   .rw[Xc (Vb hj)] at e2;obtain⟨u',r',q⟩:=hl j y v' e1 e2 e3;refine⟨u',r',?_⟩;rcases q with q | ⟨k,c',e,z'⟩
    .exact .inl q
    .refine .inr ⟨k,c',e,z'.sameBut hs ?_⟩;rintro rfl;exact hj (pv hN e1 (I.ok.inj _ _ _ e hc▸hi))
  .by_cases hcc:c'=c
   .subst hcc;exact⟨_,Rq⟩
   .obtain⟨w2,z2⟩:=I.cell y c' e;exact⟨w2,z2.sameBut hs hcc⟩
  .obtain⟨e,n,ne,nf,d⟩:=I.pin p hp;refine⟨(hs.2 p.1 ?_).trans e,n,ne,nf,d⟩;intro q;rw[q,hoc] at e;have q':oc=p.2:=Ti e;exact d w' (by rw[<- q'];exact hocd)
theorem jT{M:Model}{Q:Unit->Shared->Prop}(I:Inv X N5 σ H s)(hN:X.N.Nodup)(hi:X.N[i]?=some x)(hx:Loc X.env.scope x)(r:RelV v u)
  (h:∀ s',Inv X N5 (σ.set i (some v)) H s'->Q () s') (hf:autoParam (X.fn x=true\/X.env.scope.names.lookup x=some .local) aF._auto_1):wpAny M A (storeName X.env x u) Q E s :=
 sj I hN hi hx r (λs' I' _=>h s' I') hf
theorem Inv.C0{s':Shared}(I:Inv X N5 σ H s)(ho:s'.os=s.os)(u:Un (wm X.stack) ch H H' s.heap s'.heap)(bB:mf X.prog X.w H' s'.heap)(hg:AllBare s'.gens)
  (Qe:∀ b∈ch,(b∈X.ex\/X.s₀.heap.objs.size<=b)/\b≠X.env.locals/\(∀ x c,X.env.cells.lookup x=some c->c≠b)/\∀ p∈X.pn++N5,p.1≠b):Inv X N5 σ H' s':=by
 obtain⟨h',g',d',t',o'⟩:=s';have e:o'=s.os:=ho;subst e;exact I.call (g':=g') (t':=t') (d':=d') u bB hg Qe
end
abbrev XK:=Value->Option Addr->Hp->Prop
abbrev St:=List (Option V)
abbrev VK:=V->Hp->Prop
abbrev TE:=St->Hp->VK->Prop
abbrev TT:=St->Hp->(Bool->Hp->Prop)->Prop
abbrev TA:=St->Hp->(List V->Hp->Prop)->Prop
structure Ends where
 nx:St->Hp->Prop
 rt:VK
 bk:St->Hp->Prop:=λ_ _=>False
 ct:St->Hp->Prop:=λ_ _=>False
abbrev TS:=Ends->St->Hp->Prop
def EP(X:Cx)(N5:List (Addr×Obj))(σ:St)(Q:VK)(u:Value)(s':Shared):Prop:=∃ v H',Inv X N5 σ H' s'/\RelV v u/\Q v H'
def TP(X:Cx)(N5:List (Addr×Obj))(σ:St)(Q:Bool->Hp->Prop)(b:Bool)(s':Shared):Prop:=∃ H',Inv X N5 σ H' s'/\Q b H'
def AP(X:Cx)(N5:List (Addr×Obj))(σ:St)(Q:List V->Hp->Prop)(us:List Value)(s':Shared):Prop:=∃ vs H',Inv X N5 σ H' s'/\Vals vs us/\Q vs H'
def SP(X:Cx)(N5:List (Addr×Obj))(D:Ends)(f:Flow)(s':Shared):Prop :=
 match f with
 | .next=>∃ σ' H',Inv X N5 σ' H' s'/\D.nx σ' H'
 | .brk=>∃ σ' H',Inv X N5 σ' H' s'/\D.bk σ' H'
 | .cont=>∃ σ' H',Inv X N5 σ' H' s'/\D.ct σ' H'
 | .ret u=>∃ v σ' H',Inv X N5 σ' H' s'/\RelV v u/\D.rt v H'
def PE(X:Cx)(e:Expr)(t:TE):Prop :=
 ∀ (N5:List (Addr×Obj)) (s:Shared) (σ:St) (H:Hp) (Q:VK),Inv X N5 σ H s->t σ H Q->wpAny (model X.prog X.w) X.A (eval e X.env) (EP X N5 σ Q) X.xe s
def PT(X:Cx)(e:Expr)(t:TT):Prop :=
 ∀ (N5:List (Addr×Obj)) (s:Shared) (σ:St) (H:Hp) (Q:Bool->Hp->Prop),Inv X N5 σ H s->t σ H Q->wpAny (model X.prog X.w) X.A (isTrue e X.env (eval e X.env)) (TP X N5 σ Q) X.xe s
def PW(X:Cx)(e:Expr)(t:TT):Prop :=
 ∀ (whole:Sem Value) (N5:List (Addr×Obj)) (s:Shared) (σ:St) (H:Hp) (Q:Bool->Hp->Prop),Inv X N5 σ H s->t σ H Q->wpAny (model X.prog X.w) X.A (isTrue e X.env whole) (TP X N5 σ Q) X.xe s
variable{e:Expr}
theorem PW.pt{t:TT}(h:PW X e t):PT X e t:=h _
def PA(X:Cx)(es:List Expr)(t:TA):Prop :=
 ∀ (pos:Pos) (N5:List (Addr×Obj)) (s:Shared) (σ:St) (H:Hp) (Q:List V->Hp->Prop),Inv X N5 σ H s->t σ H Q->wpAny (model X.prog X.w) X.A (spliced (backTo pos (starEach es X.env))) (AP X N5 σ Q) X.xe s
def PS(X:Cx)(st:Stmt)(t:TS):Prop :=
 ∀ (N5:List (Addr×Obj)) (s:Shared) (σ:St) (H:Hp) (D:Ends),Inv X N5 σ H s->t D σ H->wpAny (model X.prog X.w) X.A (exec st X.env) (SP X N5 D) X.xe s
def kN(X:Cx)(st:List Stmt)(t:TS):Prop :=
 ∀ (N5:List (Addr×Obj)) (s:Shared) (σ:St) (H:Hp) (D:Ends),Inv X N5 σ H s->t D σ H->wpAny (model X.prog X.w) X.A (execs st X.env) (SP X N5 D) X.xe s
theorem cX{α:Type}{t:Sem α}{Q Q':α->Shared->Prop}{M:Model}(h:wpAny M A t Q E s)(hQ:∀ a s,Q a s->Q' a s):wpAny M A t Q' E s:=UU h hQ λ_ _ x=>x
variable{Q:Value->Shared->Prop}{σ:St}
variable{ta:TE}
variable{c:Expr}
section
def L_(i:Nat):TE:=fun σ H Q=>∃ v,σ[i]?=some (some v)/\Q v H
def tC(v:V):TE:=λ_ H Q=>Q v H
theorem kZ{pos:Pos}(hN:X.N[i]?=some x)(hv:BQ X.env.scope x)(hd:autoParam ((x==("__debug__" : Str))=false) aD._auto_1)(Pc:autoParam ((x==("__classdict__" : Str))=false) aD._auto_1):PE X (.Name x pos) (L_ i):=by
 intro N5 s σ H Q I h;obtain⟨v,e,h⟩:=h;obtain⟨m,hn,hl⟩:=I.loc;obtain⟨u,r,l⟩:=hl i x v hN e hv;have fin:EP X N5 σ Q u s:=⟨v,H,I,r,h⟩
 rcases l with ⟨hk,hm⟩ | ⟨hk,c,hc,Qz⟩
 .exact wpAny_Name (wpAny_loadName_local I.ok.kind hk hn hm fin) hd
 .rcases hk with hk | hk
  .exact wpAny_Name (wpAny_loadName_cell I.ok.kind hk hc Qz fin) hd
  .exact wpAny_Name (wpAny_loadName_free I.ok.kind hk hc Qz fin Pc) hd
theorem G2{i j pos}:PE X (.Constant (.int i) j pos) (tC (.int i)):=λ_ _ _ H _ I h=>wpAny_Constant_int ⟨.int i,H,I.tok _,⟨_,rfl⟩,h⟩
theorem Ln{b j pos}:PE X (.Constant (.bool b) j pos) (tC (.bl b)):=λ_ _ _ H _ I h=>Constant_bool ⟨.bl b,H,I,rfl,h⟩
theorem IM{j pos}:PE X (.Constant .none j pos) (tC .cJ):=λ_ _ _ H _ I h=>Constant_none ⟨.cJ,H,I,rfl,h⟩
theorem G9{x j pos}:PE X (.Constant (.str x) j pos) (tC (.str x)):=λ_ _ _ H _ I h=>Calls.Constant_str ⟨.str x,H,I.tok _,⟨_,rfl⟩,h⟩
def Gl(X:Cx)(x:Str):Prop:=X.env.kindOf x=some .globalImplicit
theorem ju{pos:Pos}(I:Inv X N5 σ H s)(hg:Gl X x)(hm:X.mg x=some u)(h:Q u s)
  (hd:autoParam ((x==("__debug__" : Str))=false) aD._auto_1):wpAny (model X.prog X.w) X.A (eval (.Name x pos) X.env) Q E s :=
 XF I.ok.kind hg (Calls.loadGlobal_global (by rw[I.ok.glob];exact I.mod.glob.keeps I.bk) hm h) hd
theorem i8{pos:Pos}(I:Inv X N5 σ H s)(hg:Gl X x)(hm:X.mg x=none)(hv:bootBuiltins x=some u)(h:Q u s)
  (hn:autoParam (x ≠ "__name__") aD._auto_1) (hd:autoParam ((x==("__debug__" : Str))=false) aD._auto_1):wpAny (model X.prog X.w) X.A (eval (.Name x pos) X.env) Q E s:=by
 obtain⟨mb,h1,h2⟩:=I.mod.blt;exact XF I.ok.kind hg (Calls.loadGlobal_builtin (by rw[I.ok.glob];exact I.mod.glob.keeps I.bk) hm (by rw[I.ok.blt];exact h1.keeps I.bk) ((h2 x hn).trans hv) h) hd
theorem Fp{pos:Pos}(hg:Gl X x)(hm:X.mg x=some u)(r:RelV v u)(hd:autoParam ((x==("__debug__" : Str))=false) aD._auto_1):PE X (.Name x pos) (tC v) :=
 λ_ _ _ H _ I h=>ju I hg hm ⟨v,H,I,r,h⟩ hd
theorem lS{pos:Pos}(hg:Gl X x)(hm:X.mg x=none)(hv:bootBuiltins x=some u)(r:RelV v u)(hn:autoParam (x ≠ "__name__") aD._auto_1)(hd:autoParam ((x==("__debug__" : Str))=false) aD._auto_1):PE X (.Name x pos) (tC v) :=
 λ_ _ _ H _ I h=>i8 I hg hm hv ⟨v,H,I,r,h⟩ hn hd
variable{a b:Expr}{tb:TE}{pos:Pos}
def tB(t:TE):TT:=fun σ H Q=>t σ H λx H1=>∃ c,x=.bl c/\Q c H1
theorem Jx{t:TE}(h:PE X e t)(he:autoParam (∀ whole,isTrue e X.env whole=(do let v <- whole;standAt e.pos;holding [v] (truthy v))) aI._auto_1):PT X e (tB t):=by
 intro N5 s σ H Q I hw;refine isTrue_plain (cX (h N5 s σ H _ I hw) λv s1 ⟨x,H1,I1,r1,q1⟩=>?_) (he _);obtain⟨d,rfl,q⟩:=q1;cases r1;exact Vs ⟨H1,I1,q⟩
variable{tA tB':TT}{rest:List Expr}
def NM(t u:TT):TT:=fun σ H Q=>t σ H λc H1=>if c=true then Q true H1 else u σ H1 Q
def M0(t:TT):TT:=fun σ H Q=>t σ H λc H1=>Q (!c) H1
theorem pw_or1(ha:PT X a tA):PW X (.BoolOp .Or [a] pos) tA:=by
 intro wh N5 s σ H Q I h;refine isTrue_or (cX (ha N5 s σ H Q I h) λc s1 e=>?_);cases c with
 | false=>exact isTrue_or_nil e
 | true=>exact e
theorem pw_or(ha:PT X a tA)(hb:PW X (.BoolOp .Or (b::rest) pos) tB'):PW X (.BoolOp .Or (a::b::rest) pos) (NM tA tB'):=by
 intro wh N5 s σ H Q I h;refine isTrue_or (cX (ha N5 s σ H _ I h) λc s1 ⟨H1,I1,q1⟩=>?_);cases c with
 | true=>exact⟨H1,I1,q1⟩
 | false=>exact hb wh N5 s1 σ H1 Q I1 q1
theorem HE(ha:PT X a tA):PT X (.UnaryOp .Not a pos) (M0 tA):=by
 intro N5 s σ H Q I h;exact isTrue_not (ha N5 s σ H (λc H1=>Q (!c) H1) I h)
def JR(ta tb:TE):TE:=fun σ H Q=>ta σ H λx H1=>∃ c,x=.bl c/\if c=true then tb σ H1 Q else Q (.bl false) H1
def Kd(ta:TE):TE:=fun σ H Q=>ta σ H λx H1=>∃ c,x=.bl c/\Q (.bl (!c)) H1
theorem Dp{op}{t:TE}(h:PE X a t):PE X (.BoolOp op [a] pos) t:=λN5 s σ H Q I hw=>BoolOp_one (h N5 s σ H Q I hw)
theorem Jq(ha:PE X a ta)(hb:PE X (.BoolOp .And (b::rest) pos) tb):PE X (.BoolOp .And (a::b::rest) pos) (JR ta tb):=by
 intro N5 s σ H Q I h;refine BoolOp_and (cX (ha N5 s σ H _ I h) λv s1 ⟨x,H1,I1,r1,q1⟩=>?_);obtain⟨c,rfl,q1⟩:=q1;cases r1;refine Vs ?_;cases c with
 | true=>exact hb N5 s1 σ H1 Q I1 q1
 | false=>exact⟨.bl false,H1,I1,rfl,q1⟩
theorem Jb(ha:PE X a ta):PE X (.UnaryOp .Not a pos) (Kd ta):=by
 intro N5 s σ H Q I h;refine UnaryOp_ (cX (ha N5 s σ H _ I h) λv s1 ⟨x,H1,I1,r1,q1⟩=>?_);obtain⟨c,rfl,q1⟩:=q1;cases r1;exact not_of (Vs ⟨.bl (!c),H1,I1,rfl,q1⟩)
def NH(t:TT)(ta tb:TE):TE:=fun σ H Q=>t σ H λc H1=>if c=true then ta σ H1 Q else tb σ H1 Q
theorem BB(hc:PT X c tA)(ha:PE X a ta)(hb:PE X b tb):PE X (.IfExp c a b pos) (NH tA ta tb):=by
 intro N5 s σ H Q I h;refine wpAny_IfExp (cX (hc N5 s σ H _ I h) λd s1 ⟨H1,I1,q1⟩=>?_);cases d with
 | true=>exact ha N5 s1 σ H1 Q I1 q1
 | false=>exact hb N5 s1 σ H1 Q I1 q1
end
def iB(K:PySem.W.Frag)(H:Hp)(a:Addr)(xs:List V):Prop :=
 Rd H a (.lst xs) ∨
  ∃ (o:Obj) (N9:Array Value) (n:Nat),K.lookup a=some o/\o.cls=.type "list" /\ o.dict=none/\o.data=.seq N9 n/\N9.size<=sizeLine/\Vals xs N9.toList
def gi(K:PySem.W.Frag)(H:Hp)(a:Addr)(xs:List V):Prop :=
 Rd H a (.tup xs) ∨
  ∃ (o:Obj) (N9:Array Value) (n:Nat),K.lookup a=some o/\o.cls=.type "tuple" /\ o.data=.seq N9 n/\N9.size<=sizeLine/\Vals xs N9.toList
def Mz:Value->Option V
 | .none=>some .cJ
 | .bool b=>some (.bl b)
 | .int i _=>some (.int i)
 | .str x _=>some (.str x)
 | .bytes b _=>some (.byt b)
 | .float b _=>some (.Ge b)
 | .ref a=>some (.ref a)
 | .type n=>some (.ty n)
 | _=>none
theorem RelV.abs{x:V}(r:RelV x u):Mz u=some x:=by
 cases x with
 | cJ=>cases r;rfl
 | bl _=>cases r;rfl
 | int _=>obtain⟨t,rfl⟩:=r;rfl
 | str _=>obtain⟨t,rfl⟩:=r;rfl
 | byt _=>obtain⟨t,rfl⟩:=r;rfl
 | Ge _=>obtain⟨t,rfl⟩:=r;rfl
 | ref _=>cases r;rfl
 | ty _=>cases r;rfl
theorem RelV.inj{x y:V}{u:Value}(r:RelV x u)(q:RelV y u):x=y:=Ti (r.abs.symm.trans q.abs)
theorem Vals.inj:∀ {xs ys:List V} {us:List Value},Vals xs us->Vals ys us->xs=ys
 | _,_,_,.nil,.nil=>rfl
 | _,_,_,.cons r t,.cons r' t'=>by rw[r.inj r',Vals.inj t t']
section
variable{a:Addr}{xs ys:List V}
theorem iB.of{K:PySem.W.Frag}(h:H a=some (.lst xs)):iB K H a xs:=.inl (.inl h)
theorem gi.of{K:PySem.W.Frag}(h:H a=some (.tup xs)):gi K H a xs:=.inl (.inl h)
theorem Inv.list(I:Inv X N5 σ H s)(h:iB X.K H a xs):∃ N9:List Value,Vals xs N9/\PlainL s.heap a N9.toArray/\xs.length<=sizeLine:=by
 rcases h with h | ⟨o,N9,n,hk,hc,hd,hs,hz,r⟩
 .obtain⟨z,N9,n,r,e⟩:=h.ok I.bB;exact⟨N9,r,⟨_,n,e,rfl,rfl,rfl⟩,z⟩
 .refine⟨N9.toList,r,⟨o,n,I.jK a o hk,hc,hd,by simpa using hs⟩,?_⟩;have e:=r.length;simp only[Us] at e;lia
theorem Inv.tuple(I:Inv X N5 σ H s)(h:gi X.K H a xs):∃ N9:List Value,Vals xs N9/\IsTup s.heap a N9.toArray/\xs.length<=sizeLine:=by
 rcases h with h | ⟨o,N9,n,hk,hc,hs,hz,r⟩
 .obtain⟨z,N9,r,p⟩:=h.ok I.bB;exact⟨N9,r,p,z⟩
 .refine⟨N9.toList,r,⟨o,I.jK a o hk,hc,n,by simpa using hs⟩,?_⟩;have e:=r.length;simp only[Us] at e;lia
theorem Inv.pH(I:Inv X N5 σ H s)(h:iB X.K H a xs)(h':iB X.K H a ys):xs=ys:=by
 obtain⟨N9,r,⟨o,n,e,_,_,d⟩,_⟩:=I.list h;obtain⟨its',r',⟨o',n',e',_,_,d'⟩,_⟩:=I.list h';rw[e] at e';cases e';rw[d] at d';injection d' with d1 _
 have:N9=its':=by simpa using congrArg Zu d1
 subst this;exact r.inj r'
theorem Inv.mO(I:Inv X N5 σ H s)(h:gi X.K H a xs)(h':gi X.K H a ys):xs=ys:=by
 obtain⟨N9,r,⟨o,e,_,n,d⟩,_⟩:=I.tuple h;obtain⟨its',r',⟨o',e',_,n',d'⟩,_⟩:=I.tuple h';rw[e] at e';cases e';rw[d] at d';injection d' with d1 _
 have:N9=its':=by simpa using congrArg Zu d1
 subst this;exact r.inj r'
end
abbrev Cx.oO(X:Cx)(E:Value->Shared->Prop):Cx:={ X with xe:=E }
theorem Cx.Ok.oO{X:Cx}(ok:X.Ok)(E:Value->Shared->Prop):(X.oO E).Ok :=
 ⟨ok.mod,ok.kind,ok.glob,ok.blt,ok.above,ok.inj,ok.has,ok.Gf,ok.hd,ok.frames,ok.IY,ok.JM,ok.bs,ok.Dr,ok.tP,ok.vD,ok.kO,ok.DI⟩
theorem Cx.Ok.eQ(ok:(X.oO E).Ok):X.Ok :=
 ⟨ok.mod,ok.kind,ok.glob,ok.blt,ok.above,ok.inj,ok.has,ok.Gf,ok.hd,ok.frames,ok.IY,ok.JM,ok.bs,ok.Dr,ok.tP,ok.vD,ok.kO,ok.DI⟩
theorem Inv.oO(I:Inv X N5 σ H s)(E:Value->Shared->Prop):Inv (X.oO E) N5 σ H s:=⟨I.ok.oO E,I.os,I.bare,I.base,I.loc,I.cell,I.free,I.gq,I.pin,I.bB,I.len⟩
theorem Inv.eQ(I:Inv (X.oO E) N5 σ H s):Inv X N5 σ H s:=⟨I.ok.eQ,I.os,I.bare,I.base,I.loc,I.cell,I.free,I.gq,I.pin,I.bB,I.len⟩
theorem SP.eQ{D:Ends}{f:Flow}{s':Shared}(h:SP (X.oO E) N5 D f s'):SP X N5 D f s':=by
 cases f with
 | next=>obtain⟨σ',H',I,q⟩:=h;exact⟨σ',H',I.eQ,q⟩
 | brk=>obtain⟨σ',H',I,q⟩:=h;exact⟨σ',H',I.eQ,q⟩
 | cont=>obtain⟨σ',H',I,q⟩:=h;exact⟨σ',H',I.eQ,q⟩
 | ret u=>obtain⟨v,σ',H',I,r,q⟩:=h;exact⟨v,σ',H',I.eQ,r,q⟩
variable{te:TE}
variable{tc:TT}
section
variable{st:Stmt}{rest:List Stmt}{t u:TS}{pos:Pos}
def Lj:TS:=λD σ H=>D.nx σ H
def Nc(t u:TS):TS:=λD σ H=>t { D with nx:=u D } σ H
theorem yx:kN X [] Lj:=λ_ _ σ H _ I h=>WE ⟨σ,H,I,h⟩
theorem vb(h1:PS X st t)(h2:kN X rest u):kN X (st::rest) (Nc t u):=by
 intro N5 s σ H D I h;refine wpAny_execs_cons (cX (h1 N5 s σ H { D with nx:=u D } I h) λf s1 q=>?_);cases f with
 | next =>
  obtain⟨σ',H',I',q⟩:=q;exact h2 N5 s1 σ' H' D I' q
 | ret v=>exact q
 | brk=>exact q
 | cont=>exact q
theorem DP(h1:PS X st t):kN X [st] t:=by
 intro N5 s σ H D I h;refine wpAny_execs_cons (cX (h1 N5 s σ H D I h) λf s1 q=>?_);cases f with
 | next=>exact WE q
 | ret v=>exact q
 | brk=>exact q
 | cont=>exact q
theorem Inv.quiet(I:Inv X N5 σ H s):interactive X.env=false:=by simp[interactive,I.ok.kind]
def Kz(te:TE):TS:=λD σ H=>te σ H λ_ H1=>D.nx σ H1
theorem tH(he:PE X e te)(hs:autoParam (swapsWith e none pos.line X.env=pure false) aR._auto_1):PS X (.Expr e pos) (Kz te):=by
 intro N5 s σ H D I h;exact wpAny_Expr_any (cX (he N5 s σ H _ I h) λv s1 ⟨x,H1,I1,r1,q1⟩=>⟨σ,H1,I1,q1⟩) I.quiet hs
def M4(te:TE):TS:=λD σ H=>te σ H D.rt
theorem HZ(he:PE X e te):PS X (.Return (some e) pos) (M4 te):=by
 intro N5 s σ H D I h;exact wpAny_Return_some (cX (he N5 s σ H _ I h) λv s1 ⟨x,H1,I1,r1,q1⟩=>⟨x,σ,H1,I1,r1,q1⟩)
def Mh(c:TT)(t u:TS):TS:=λD σ H=>c σ H λb H1=>if b=true then t D σ H1 else u D σ H1
theorem Lz{a b:List Stmt}(hc:PT X c tc)(ha:kN X a t)(hb:kN X b u):PS X (.If c a b pos) (Mh tc t u):=by
 intro N5 s σ H D I h;refine wpAny_If (cX (hc N5 s σ H _ I h) λd s1 ⟨H1,I1,q1⟩=>?_);cases d with
 | true=>exact ha N5 s1 σ H1 D I1 q1
 | false=>exact hb N5 s1 σ H1 D I1 q1
end
abbrev TG:=V->St->Hp->(St->Hp->Prop)->Prop
abbrev GG:=List V->St->Hp->(St->Hp->Prop)->Prop
def PG(X:Cx)(target:Expr)(t:TG):Prop :=
 ∀ (N5:List (Addr×Obj)) (s:Shared) (σ:St) (H:Hp) (v:V) (u:Value) (Q:St->Hp->Prop),Inv X N5 σ H s->RelV v u->t v σ H Q ->
  wpAny (model X.prog X.w) X.A (assign target X.env u) (λ_ s'=>∃ σ' H',Inv X N5 σ' H' s'/\Q σ' H') X.xe s
def LB(X:Cx)(ts:List Expr)(t:GG):Prop :=
 ∀ (N5:List (Addr×Obj)) (s:Shared) (σ:St) (H:Hp) (vs:List V) (us:List Value) (Q:St->Hp->Prop),Inv X N5 σ H s->Vals vs us->t vs σ H Q ->
  wpAny (model X.prog X.w) X.A (assignInOrder ((assignEach ts X.env).map (·.2)) us) (λ_ s'=>∃ σ' H',Inv X N5 σ' H' s'/\Q σ' H') X.xe s
abbrev JA:=V->V->V->Hp->(Hp->Prop)->Prop
def J_(X:Cx)(t:JA):Prop :=
 ∀ (N5:List (Addr×Obj)) (s:Shared) (σ:St) (H:Hp) (o i v:V) (ov iv u:Value) (Q:Hp->Prop),Inv X N5 σ H s->RelV o ov->RelV i iv->RelV v u->t o i v H Q ->
  wpAny (model X.prog X.w) X.A (setItem ov iv u) (λ_ s'=>∃ H',Inv X N5 σ H' s'/\Q H') X.xe s
variable{es:List Expr}
variable{n k:Nat}
variable{tg:Expr}
section
variable{pos:Pos}
def aJ(i:Nat):TG:=λv σ H Q=>Q (σ.set i (some v)) H
theorem EZ(hN:X.N.Nodup)(hi:X.N[i]?=some x)(hx:Loc X.env.scope x)(hf:autoParam (X.fn x=true\/X.env.scope.names.lookup x=some .local) aF._auto_1):PG X (.Name x pos) (aJ i):=by
 intro N5 s σ H v u Q I r h;exact Zv (jT I hN hi hx r (λs' I'=>⟨_,H,I',h⟩) hf)
def iM:GG:=λvs σ H Q=>vs=[]/\Q σ H
def br(t:TG)(u:GG):GG:=λvs σ H Q=>∃ v r,vs=v::r/\t v σ H fun σ' H'=>u r σ' H' Q
theorem cx:LB X [] iM:=by
 intro N5 s σ H vs us Q I r h;obtain⟨e,h⟩:=h;subst e;cases r;exact Zw ⟨σ,H,I,h⟩
theorem aH{t:TG}{u:GG}(h1:PG X e t)(h2:LB X es u)
  (hs:autoParam ((assignEach (e::es) X.env).map (·.2)=assign e X.env::(assignEach es X.env).map (·.2)) aR._auto_1):LB X (e::es) (br t u):=by
 intro N5 s σ H vs us Q I r h;obtain⟨v,vr,e1,h⟩:=h;subst e1;cases r with
 | cons r rr =>
  rw[hs];refine XG (cX (h1 N5 s σ H _ _ _ I r h) λ_ s1 ⟨σ1,H1,I1,q1⟩=>?_);exact h2 N5 s1 σ1 H1 _ _ Q I1 rr q1
def iF(K:PySem.W.Frag)(n:Nat)(t:GG):TG:=λv σ H Q=>∃ a xs,v=.ref a/\gi K H a xs/\xs.length=n/\t xs σ H Q
theorem dc{t:GG}(hc:X.calm=true)(h:LB X es t)
  (hn:autoParam ((assignEach es X.env).length=n) aR._auto_1) (Oz:autoParam ((assignEach es X.env).findIdx? (·.1)=none) aR._auto_1):PG X (.Tuple es k pos) (iF X.K n t):=by
 intro N5 s σ H v u Q I r hw;obtain⟨a,xs,e1,hq,hl,hw⟩:=hw;subst e1;cases r;obtain⟨N9,rv,ht,hz⟩:=I.tuple hq;refine assign_Tuple_tuple (I.ok.hd hc) ht (by simp[hn,<- hl,rv.length]) Oz λh' hx=>?_;have I1:Inv X N5 σ H { s with heap:=h' }:=I.kept (t':=s.toks) λb o e=>hx b o (Tu (S7 e)) e;exact h N5 _ σ H xs _ Q I1 (by simpa using rv) hw
def MQ(to ti:TE)(t:JA):TG:=λv σ H Q=>to σ H λo H1=>ti σ H1 λi H2=>t o i v H2 λH3=>Q σ H3
theorem HM{o i:Expr}{to ti:TE}{t:JA}(ho:PE X o to)(hi:PE X i ti)(hs:J_ X t)
  (ha:autoParam (∀ v,assign (.Subscript o i pos) X.env v=(do
   let ov <- holding [v] (eval o X.env)
   let iv <- holding [v,ov] (eval i X.env)
   standAt pos
   holding [v,ov,iv] (setItem ov iv v)
   release [v,ov,iv] [])) aI._auto_1):PG X (.Subscript o i pos) (MQ to ti t):=by
 intro N5 s σ H v u Q I r h;rw[ha];refine RM (U0 (cX (ho N5 s σ H _ I h) λov s1 ⟨x,H1,I1,r1,q1⟩=>?_));refine RM (U0 (cX (hi N5 s1 σ H1 _ I1 q1) λiv s2 ⟨y,H2,I2,r2,q2⟩=>?_));refine RM (WC (RM (U0 (cX (hs N5 s2 σ H2 x y v ov iv u _ I2 r1 r2 r q2) λ_ s3 ⟨H3,I3,q3⟩=>?_))));exact wpAny_release ⟨σ,H3,I3,q3⟩
def Hj(te:TE)(g:TG):TS:=λD σ H=>te σ H λx H1=>g x σ H1 D.nx
theorem JH{g:TG}(he:PE X e te)(hg:PG X tg g)(hs:autoParam (swapsWithSole [tg] e pos.line X.env=pure false) aR._auto_1)(hw:autoParam (swappedStores [tg] e X.env=pure none) aR._auto_1)
  (h1:autoParam ((assignEach [tg] X.env).map (·.2)=[assign tg X.env]) aR._auto_1):PS X (.Assign [tg] e pos) (Hj te g):=by
 intro N5 s σ H D I h;refine wpAny_Assign_stores (cX (he N5 s σ H _ I h) λv s1 ⟨x,H1,I1,r1,q1⟩=>?_) hs hw;rw[h1];exact cX (hg N5 s1 σ H1 x v _ I1 r1 q1) λ_ s2 q=>q
theorem wV{pos':Pos}(hN:X.N.Nodup)(hi:X.N[i]?=some x)(hx:Loc X.env.scope x)(he:PE X e te)(hs:autoParam (swapsWith e (some (.Name x pos')) pos.line X.env=pure false) aR._auto_1)(hf:autoParam (X.fn x=true\/X.env.scope.names.lookup x=some .local) aF._auto_1) :
  PS X (.Assign [.Name x pos'] e pos) (Hj te (aJ i)):=by
 intro N5 s σ H D I h;refine wpAny_Assign_Name (cX (he N5 s σ H _ I h) λv s1 ⟨y,H1,I1,r1,q1⟩=>?_) hs;exact jT I1 hN hi hx r1 (λs2 I2=>⟨_,H1,I2,q1⟩) hf
def MJ(i j:Nat)(ta:TA):TS:=λD σ H=>ta σ H λvs H1=>∃ v w,vs=[v,w]/\D.nx ((σ.set i (some v)).set j (some w)) H1
theorem G6{j:Nat}{y:Str}{a b:Expr}{ta:TA}{px py pt:Pos}{kt k2 RU}(hc:X.calm=true)(hN:X.N.Nodup)(hi:X.N[i]?=some x)(hj:X.N[j]?=some y)(RB:i≠j)
  (hx:X.env.scope.names.lookup x=some .local) (hy:X.env.scope.names.lookup y=some .local) (ha:PA X [a,b] ta)
  (hw:swappedStores [.Tuple [.Name x px,.Name y py] kt pt] (.Tuple [a,b] k2 RU) X.env=pure (some [x,y]))
  (hs:autoParam (swapsWithSole [.Tuple [.Name x px,.Name y py] kt pt] (.Tuple [a,b] k2 RU) pos.line X.env=pure false) aR._auto_1) :
  PS X (.Assign [.Tuple [.Name x px,.Name y py] kt pt] (.Tuple [a,b] k2 RU) pos) (MJ i j ta):=by
 intro N5 s σ H D I h;rw[exec_Assign_arm];refine RM (WC ?_);rw[hs];refine RM (SY ?_);rw[if_neg (by decide)];refine RM (Tuple_ (cX (ha _ N5 s σ H _ I h) λus s1 ⟨vs,H1,I1,r1,q1⟩=>?_));obtain⟨v,w,e1,q1⟩:=q1;subst e1;obtain⟨u1,u2,rfl,rv,PX⟩:∃ u1 u2,us=[u1,u2]/\RelV v u1/\RelV w u2:=by
  cases r1 with
  | cons p q =>
   cases q with
   | cons p' q' =>
    cases q';exact⟨_,_,rfl,p,p'⟩
 refine UX ?_ (by show 2<=sizeLine;decide);have I2:Inv X N5 σ H1 { s1 with heap:=s1.heap.push { cls:=.type "tuple", data:=.seq [u1,u2].toArray } }:=I1.kept (t':=s1.toks) λb o e=>SQ _ e;rw[hw];refine RM (SY ?_);show wpAny (model X.prog X.w) X.A (do rule "assign.swapped-stores";let items <- unpackItems (.ref s1.heap.objs.size) 2 none;assignInOrder [λv=>bindName X.env y v,λv=>bindName X.env x v] items.reverse;pure Yb) _ _ _;refine RM (Vd (RM (unpackItems_tuple (items:=#[u1,u2]) (I.ok.hd hc) (Y9 s1.heap _) λh' Sy=>?_)));have I3:=I2.kept (h':=h') (t':=s1.toks) λb o e=>Sy b o (Tu (S7 e)) e;show wpAny _ _ (assignInOrder [λv=>bindName X.env y v,λv=>bindName X.env x v] [u2,u1] >>= λ_=>pure Yb) _ _ _;refine RM (XG (wpAny_bindName (jT I3 hN hj (.inl hy) PX (λs2 I4=>?_) (.inr hy))));refine XG (wpAny_bindName (jT I4 hN hi (.inl hx) rv (λs3 I5=>Zw (SY ?_)) (.inr hx)));rw[List.set_comm _ _ (Vb RB)] at I5;exact⟨_,H1,I5,q1⟩
end
variable{tb:TS}{body:List Stmt}
section
variable{pos:Pos}
def IS(c:TT)(tb:TS):TS:=λD σ H=>∃ W:Nat->St->Hp->Prop,(∃ m,W m σ H)/\∀ m σ H,W m σ H ->
 c σ H λb H1=>if b=true then ∃ N:St->Hp->Prop,(∀ σ' H',N σ' H'->∃ m',m'<m/\W m' σ' H')/\tb { D with nx:=N,ct:=N,bk:=D.nx } σ H1 else D.nx σ H1
theorem Dw(hp:PassesOwn (model X.prog X.w) X.A X.env X.xe)(hc:PT X c tc)(hb:kN X body tb):PS X (.While c body [] pos) (IS tc tb):=by
 intro N5 s σ H D I h;obtain⟨W,⟨m0,w0⟩,turn⟩:=h;refine wpAny_While (codeAny_whileLoop (λn s'=>∃ σ' H',Inv X N5 σ' H' s'/\W n σ' H') ?_ m0 ⟨σ,H,I,w0⟩);rintro n s1 ⟨σ1,H1,I1,w1⟩;refine VR hp (cX (hc N5 s1 σ1 H1 _ I1 (turn n σ1 H1 w1)) λb s2 ⟨H2,I2,q2⟩=>?_);cases b with
 | true =>
  obtain⟨N,hN,q2⟩:=q2;rw[if_pos rfl];refine VR hp (cX (hb N5 s2 σ1 H2 _ I2 q2) λf s3 q3=>?_);cases f with
  | next =>
   obtain⟨σ3,H3,I3,n3⟩:=q3;obtain⟨m',hm,w3⟩:=hN σ3 H3 n3;exact⟨m',hm,σ3,H3,I3,w3⟩
  | cont =>
   obtain⟨σ3,H3,I3,n3⟩:=q3;obtain⟨m',hm,w3⟩:=hN σ3 H3 n3;exact⟨m',hm,σ3,H3,I3,w3⟩
  | brk=>exact q3
  | ret v=>exact q3
 | false =>
  rw[if_neg Uh];exact WE ⟨σ1,H2,I2,q2⟩
end
structure It where
 go:Nat->Hp->Prop
 wg:Nat->Hp->V->Hp->Prop
 stop:Nat->Hp->Prop
def lV(X:Cx)(N5:List (Addr×Obj))(H:Hp)(b:Addr):Prop :=
 H b=none/\b≠X.env.locals/\b ∉ X.fs/\(b∈X.ex\/X.s₀.heap.objs.size<=b)/\(∀ x c,X.env.cells.lookup x=some c->c≠b)/\∀ p∈X.pn++N5,p.1≠b
theorem Inv.t5(I:Inv X N5 σ H s)(hb:s.heap.objs.size<=b)(hn:H' b=none):lV X N5 H' b:=by
 refine⟨hn,Vk (S_ I.lt hb),I.L5 hb,.inr (TJ I.sz hb),λx c e z=>?_,λp hp z=>?_⟩
 .obtain⟨v,q⟩:=I.cell x c e;exact absurd (S_ q.lt (by rw[z];exact hb)) (VU _)
 .exact absurd (S_ (S7 (I.pin p hp).1) (by rw[z];exact hb)) (VU _)
structure Turn (P:Program) (w:World) (K:PySem.W.Frag) (tg:Expr) (J:It) (fp:List Addr) (it:Addr) (tn:Nat->Heap->Prop):Prop where
 mem:it∈fp
 obj:∀ i h,tn i h->∀ b∈fp,∃ o,h.get? b=some o/\∀ v,o.data≠.cell v
 keep:∀ i h h',tn i h->(∀ b∈fp,∀ o,h.get? b=some o->h'.get? b=some o)->tn i h'
 item:∀ (X:Cx),X.prog=P->X.w=w->X.K=K->X.calm=true->∀ (i:Nat) (N5:List (Addr×Obj)) (s:Shared) (σ:St) (H:Hp) (E:Value->Shared->Prop),Inv X N5 σ H s->(∀ b∈fp,lV X N5 H b)->tn i s.heap->J.go i H ->
  wpAny (model P w) X.A (pyNext (.ref it)) (λr s1=>∃ u,r=some u ∧
   wpAny (model P w) X.A (letOwnedTupleGo tg (.ref it) u) (λ_ s2=>∃ x H',Inv X N5 σ H' s2/\RelV x u/\J.wg i H x H'/\tn (i+1) s2.heap/\∀ b∈fp,H' b=none) E s1) E s
 done:∀ (X:Cx),X.prog=P->X.w=w->X.K=K->X.calm=true->∀ (i:Nat) (N5:List (Addr×Obj)) (s:Shared) (σ:St) (H:Hp) (E:Value->Shared->Prop),Inv X N5 σ H s->(∀ b∈fp,lV X N5 H b)->tn i s.heap->J.stop i H ->
  wpAny (model P w) X.A (pyNext (.ref it)) (λr s1=>r=none/\Inv X N5 σ H s1) E s
 self:∀ (A:Around) (i:Nat) (s:Shared) (Q:Value->Shared->Prop) (E:Value->Shared->Prop),tn i s.heap->Q (.ref it) s->wpAny (model P w) A (pyIter (.ref it)) Q E s
abbrev TI:=St->Hp->(It->Hp->Prop)->Prop
def Nh(X:Cx)(N5:List (Addr×Obj))(σ:St)(tg:Expr)(R:It->Hp->Prop)(itv:Value)(s2:Shared):Prop :=
 ∃ (it:Addr) (fp:List Addr) (tn:Nat->Heap->Prop) (J:It) (H':Hp),itv=.ref it/\Inv X N5 σ H' s2/\Turn X.prog X.w X.K tg J fp it tn/\tn 0 s2.heap/\(∀ b∈fp,lV X N5 H' b)/\R J H'
def PI(X:Cx)(tg iter:Expr)(wi:TI):Prop :=
 ∀ (N5:List (Addr×Obj)) (s:Shared) (σ:St) (H:Hp) (R:It->Hp->Prop),Inv X N5 σ H s->wi σ H R ->
  wpAny (model X.prog X.w) X.A (eval iter X.env) (λv s1=>wpAny (model X.prog X.w) X.A (pyIter v) (Nh X N5 σ tg R) X.xe s1) X.xe s
theorem ya {M : Model} {n : String} {vs : Array Value} {Q : Unit -> Shared -> Prop} (ho : s.heap.get? it = some o) (hc : o.cls = .type n) (hd : o.data = .fields vs)
    (hn : ["enumerate", "zip", "dict_itemiterator", "dict_reverseitemiterator", "odict_iterator", "itertools.zip_longest", "itertools.pairwise"].contains n = false) (hQ : Q () s) : wpAny M A (letOwnedTupleGo tg (.ref it) u) Q E s := by
  unfold letOwnedTupleGo;cases tg <;> first
    | exact SY hQ
    | (cases u <;> first
        | exact SY hQ
        | (refine RM (wpAny_load ho ?_)
           rw [hc, hd];show wpAny M A (if (["enumerate", "zip", "dict_itemiterator", "dict_reverseitemiterator", "odict_iterator", "itertools.zip_longest", "itertools.pairwise"].contains n && vs[0]? == some (rawInt _)) = true then _ else _) Q E s;rw [if_neg (by intro h; rw [hn, YU] at h; cases h)];exact SY hQ))
def NC(K:PySem.W.Frag)(a:Addr):It :=
 ⟨λi H=>∃ xs x,iB K H a xs/\xs[i]?=some x,λi H x H'=>H'=H/\∀ xs,iB K H a xs->xs[i]?=some x,λi H=>∃ xs,iB K H a xs/\xs.length<=i⟩
def Nz(K:PySem.W.Frag)(a:Addr):It :=
 ⟨λi H=>∃ xs x,gi K H a xs/\xs[i]?=some x,λi H x H'=>H'=H/\∀ xs,gi K H a xs->xs[i]?=some x,λi H=>∃ xs,gi K H a xs/\xs.length<=i⟩
def KA(lo:Int)(n:Nat):It:=⟨λi _=>i<n,λi H x H'=>H'=H/\x=.int (lo+i),λi _=>n<=i⟩
theorem yU{K:PySem.W.Frag}(a it:Addr):Turn P w K tg (NC K a) [it] it (λi h=>h.IsListIter it a i) where
 mem:=by simp
 obj:=λi h st b hb=>by
  have e:b=it:=by simpa using hb
  subst e;obtain⟨o,e,c,d⟩:=st;exact⟨o,e,λv z=>by rw[d] at z;cases z⟩
 keep:=λi h h' st k=>st.at λo e=>k it (by simp) o e
 item:=by
  intro X hP hw hK hc i N5 s σ H E I hf st hg;subst hP hw hK;obtain⟨xs,x,hq,hx⟩:=hg;obtain⟨N9,rv,p,hz⟩:=I.list hq;obtain⟨u,hu,ru⟩:=rv.get hx;obtain⟨f0,f1,f2,f3,f4,f5⟩:=hf it (by simp);refine wpAny_pyNext_list_item st p.isList (x:=u) (by simpa using hu) λh' N8 sb=>?_;have I1:Inv X N5 σ H { s with heap:=h' }:=I.turned (t':=s.toks) (λb o hb e=>(sb.2 b hb).trans e) f0 f1 f3 f4 f5;obtain⟨o,e,c,d⟩:=id N8;exact⟨u,rfl,ya (s:={ s with heap:=h' }) e c d (by decide) ⟨x,H,I1,ru,⟨rfl,λys hy=>by rw[I.pH hy hq];exact hx⟩,N8,λb hb=>(hf b hb).1⟩⟩
 done:=by
  intro X hP hw hK hc i N5 s σ H E I hf st hg;subst hP hw hK;obtain⟨xs,hq,hx⟩:=hg;obtain⟨N9,rv,p,hz⟩:=I.list hq;obtain⟨f0,f1,f2,f3,f4,f5⟩:=hf it (by simp);have hl:=rv.length;exact wpAny_pyNext_list_end (I.ok.hd hc) st p.isList (by simp;lia) λh' eb=>⟨rfl,I.turned (t':=s.toks) (λb o hb e=>eb b o hb e) f0 f1 f3 f4 f5⟩
 self:=λ_ _ _ _ _ st h=>wpAny_pyIter_listiter st h
theorem w4{K:PySem.W.Frag}(a it:Addr):Turn P w K tg (Nz K a) [it] it (λi h=>h.IsTupleIter it a i) where
 mem:=by simp
 obj:=λi h st b hb=>by
  have e:b=it:=by simpa using hb
  subst e;obtain⟨o,e,c,d⟩:=st;exact⟨o,e,λv z=>by rw[d] at z;cases z⟩
 keep:=λi h h' st k=>st.at λo e=>k it (by simp) o e
 item:=by
  intro X hP hw hK hc i N5 s σ H E I hf st hg;subst hP hw hK;obtain⟨xs,x,hq,hx⟩:=hg;obtain⟨N9,rv,p,hz⟩:=I.tuple hq;obtain⟨u,hu,ru⟩:=rv.get hx;obtain⟨f0,f1,f2,f3,f4,f5⟩:=hf it (by simp);refine wpAny_pyNext_tuple_item st (show s.heap.IsTuple a N9.toArray from p) (x:=u) (by simpa using hu) λh' N8 sb=>?_;have I1:Inv X N5 σ H { s with heap:=h' }:=I.turned (t':=s.toks) (λb o hb e=>(sb.2 b hb).trans e) f0 f1 f3 f4 f5;obtain⟨o,e,c,d⟩:=id N8;exact⟨u,rfl,ya (s:={ s with heap:=h' }) e c d (by decide) ⟨x,H,I1,ru,⟨rfl,λys hy=>by rw[I.mO hy hq];exact hx⟩,N8,λb hb=>(hf b hb).1⟩⟩
 done:=by
  intro X hP hw hK hc i N5 s σ H E I hf st hg;subst hP hw hK;obtain⟨xs,hq,hx⟩:=hg;obtain⟨N9,rv,p,hz⟩:=I.tuple hq;obtain⟨f0,f1,f2,f3,f4,f5⟩:=hf it (by simp);have hl:=rv.length;exact wpAny_pyNext_tuple_end (I.ok.hd hc) st (show s.heap.IsTuple a N9.toArray from p) (by simp;lia) λh' eb=>⟨rfl,I.turned (t':=s.toks) (λb o hb e=>eb b o hb e) f0 f1 f3 f4 f5⟩
 self:=λ_ _ _ _ _ st h=>wpAny_pyIter_tupleiter st h
theorem w_{K:PySem.W.Frag}(it:Addr)(lo:Int)(n:Nat):Turn P w K tg (KA lo n) [it] it (λi h=>IsRangeIter h it (lo+(i:Nat)*1) ((n:Int)-(i:Nat)) 1) where
 mem:=by simp
 obj:=λi h st b hb=>by
  have e:b=it:=by simpa using hb
  subst e;exact⟨_,st,λv z=>by
   have z':Data.fields _=Data.cell v:=z;cases z'⟩
 keep:=λi h h' st k=>k it (by simp) _ st
 item:=by
  intro X hP hw hK hc i N5 s σ H E I hf st hg;subst hP hw hK;obtain⟨f0,f1,f2,f3,f4,f5⟩:=hf it (by simp);have W:=Walks.range (prog:=X.prog) (w:=X.w) (I.ok.hd hc) it lo 1 n;refine W.item i s _ _ hg st λv h' tk hv N8 kk=>?_;obtain⟨t,rfl⟩:=hv;have I1:Inv X N5 σ H { s with heap:=h',toks:=tk }:=I.turned (λb o hb e=>kk b o (by simpa using hb) e) f0 f1 f3 f4 f5;refine⟨_,rfl,ya (s:={ s with heap:=h',toks:=tk }) (n := "range_iterator") N8 rfl rfl (by decide) ⟨.int (lo+i),H,I1,⟨t,?_⟩,⟨rfl,rfl⟩,N8,λb hb=>(hf b hb).1⟩⟩;rw[YV]
 done:=by
  intro X hP hw hK hc i N5 s σ H E I hf st hg;subst hP hw hK;obtain⟨f0,f1,f2,f3,f4,f5⟩:=hf it (by simp);exact Yn (I.ok.hd hc) st (by have:n<=i:=hg;lia) λh' eb=>⟨rfl,I.turned (t':=s.toks) (λb o hb e=>eb b o hb e) f0 f1 f3 f4 f5⟩
 self:=λ_ _ _ _ _ st h=>Yo st h
variable{p:Pos}
variable{fp:List Addr}
theorem vT{R:It->Hp->Prop}{lo hi:Int}{t u v:Tok}{tk:Nat}(I:Inv X N5 σ H s)(h1:-(2^62)<=lo)(h2:lo<2^62)(h3:-(2^62)<=hi)(h4:hi<2^62)
  (q:R (KA lo (hi-lo).toNat) H):wpAny (model X.prog X.w) X.A (pyIter (.ref s.heap.objs.size)) (Nh X N5 σ tg R) E { s with heap:=s.heap.push { cls:=.type "range", data:=.fields #[.int lo t,.int hi u,.int 1 v] },toks:=tk }:=by
 refine Zl (IsRange.new ..) (small_one h1 h2 h3 h4) ?_;have I1:Inv X N5 σ H { s with heap:=s.heap.push { cls:=.type "range", data:=.fields #[.int lo t,.int hi u,.int 1 v] },toks:=tk }:=I.kept λb o e=>SQ _ e;refine⟨(s.heap.push { cls:=.type "range", data:=.fields #[.int lo t,.int hi u,.int 1 v] }).objs.size,[(s.heap.push { cls:=.type "range", data:=.fields #[.int lo t,.int hi u,.int 1 v] }).objs.size],_,_,H,rfl,
  I1.kept (t':=tk) λb o e=>SQ _ e,w_ _ lo (hi-lo).toNat,?_,λb hb=>?_,q⟩
 .have e1:lo+((0:Nat):Int)*1=lo:=by simp
  have e2:(((hi-lo).toNat:Nat):Int)-((0:Nat):Int)=TQ lo hi 1:=by rw[rangeSize_one];split <;> lia
  show IsRangeIter _ _ (lo+((0:Nat):Int)*1) ((((hi-lo).toNat:Nat):Int)-((0:Nat):Int)) 1;rw[e1,e2];exact S2 _ rfl
 .have e:b=(s.heap.push { cls:=.type "range", data:=.fields #[.int lo t,.int hi u,.int 1 v] }).objs.size:=by simpa using hb
  subst e;exact I1.t5 (SX _) (I1.bB.fresh (SX _))
def Gw(ta:TA):TI:=fun σ H R=>ta σ H λvs H1=>∃ j:Int,vs=[.int j]/\-(2^62)<=j/\j<2^62/\R (KA 0 j.toNat) H1
def FQ(ta:TA):TI:=fun σ H R=>ta σ H λvs H1=>∃ i j:Int,vs=[.int i,.int j]/\(-(2^62)<=i/\i<2^62/\-(2^62)<=j/\j<2^62)/\R (KA i (j-i).toNat) H1
theorem eJ{a:Expr}{ta:TA}{pos:Pos}(hg:Gl X "range")(hm:X.mg "range" = none)(ha:PA X [a] ta)(hs:autoParam (starEach [a] X.env=[(false,eval a X.env)]) aR._auto_1):PI X tg (.Call (.Name "range" p) [a] [] pos) (Gw ta):=by
 intro N5 s σ H R I h;refine Call_ (i8 I hg hm boot_range (Ux (cX (ha pos N5 s σ H _ I h) λus s1 ⟨vs,H1,I1,r1,q1⟩=>?_) hs rfl));obtain⟨j,e,q1,q2,q⟩:=q1;subst e;cases r1 with
 | cons r rr =>
  cases rr;obtain⟨t,rfl⟩:=r;exact call_range_1 (vT I1 (by lia) (by lia) q1 q2 (by simpa using q))
theorem Ae{a b:Expr}{ta:TA}{pos:Pos}(hg:Gl X "range")(hm:X.mg "range" = none)(ha:PA X [a,b] ta)(hs:autoParam (starEach [a,b] X.env=[(false,eval a X.env),(false,eval b X.env)]) aR._auto_1)(PH:autoParam (starEach [b] X.env=[(false,eval b X.env)]) aR._auto_1) :
  PI X tg (.Call (.Name "range" p) [a,b] [] pos) (FQ ta):=by
 intro N5 s σ H R I h;refine Call_ (i8 I hg hm boot_range (Ux (cX (ha pos N5 s σ H _ I h) λus s1 ⟨vs,H1,I1,r1,q1⟩=>?_) (by rw[hs,PH]) (by rw[PH];rfl)));obtain⟨i,j,e,⟨q1,q2,q3,q4⟩,q⟩:=q1;subst e;cases r1 with
 | cons r rr =>
  cases rr with
  | cons r' rr =>
   cases rr;obtain⟨t,rfl⟩:=r;obtain⟨t',rfl⟩:=r';exact call_range_2 (vT I1 q1 q2 q3 q4 q)
def Mv(wi:TI)(g:TG)(tb:TS):TS:=λD σ H=>wi σ H λJ H1=>∃ W:Nat->Nat->St->Hp->Prop,(∃ m,W 0 m σ H1)/\∀ i m σ H,W i m σ H ->
 (J.stop i H/\D.nx σ H)\/(J.go i H/\∃ N:St->Hp->Prop,(∀ σ' H',N σ' H'->∃ m',m'<m/\W (i+1) m' σ' H')/\∀ x H',J.wg i H x H'->g x σ H' fun σ2 H2=>tb { D with nx:=N,ct:=N,bk:=D.nx } σ2 H2)
def mv(fp:List Addr)(h:Heap):List (Addr×Obj):=fp.filterMap λb=>(h.get? b).map λo=>(b,o)
theorem jd(hb:b∈fp)(e:h.get? b=some o):(b,o)∈mv fp h:=XH.mpr ⟨b,hb,by rw[e];rfl⟩
theorem zw{p:Addr×Obj}(hp:p∈mv fp h):p.1∈fp/\h.get? p.1=some p.2:=by
 obtain⟨b,hb,e⟩:=XH.mp hp;cases q:h.get? b with
 | none=>rw[q] at e;cases e
 | some o =>
  rw[q] at e;have e':(b,o)=p:=Ti e;subst e';exact⟨hb,q⟩
theorem Inv.pinned(I:Inv X N5 σ H s)(hf:∀ b∈fp,lV X N5 H b)(ho:∀ b∈fp,∃ o,s.heap.get? b=some o/\∀ v,o.data≠.cell v):Inv X (N5++mv fp s.heap) σ H s :=
 I.yz λp hp=>(UG.mp hp).elim (λz=>I.pin p (Uq _ z)) λz=>by
  obtain⟨hb,e⟩:=zw z;obtain⟨f0,f1,f2,_⟩:=hf p.1 hb;obtain⟨o,e',d⟩:=ho p.1 hb;rw[e] at e';cases e';exact⟨e,f0,f1,f2,d⟩
theorem Inv.lZ{pl:List (Addr×Obj)}(I:Inv X (N5++pl) σ H s):Inv X N5 σ H s:=I.yz λp hp=>I.pin p (Uq _ (Xb _ hp))
theorem Hg{iter:Expr}{wi:TI}{g:TG}{pos:Pos}(hp:PassesOwn (model X.prog X.w) X.A X.env X.xe)(hc:X.calm=true)(hi:PI X tg iter wi)(hg:PG X tg g)(hb:kN X body tb)
  (hs:autoParam (∀ x,foldedSetIterable iter X.env x=pure x) aI._auto_1):PS X (.For tg iter body [] pos) (Mv wi g tb):=by
 intro N5 s σ H D I h;refine wpAny_For (cX (hi N5 s σ H _ I h) λv s1 h1=>cX h1 λitv s2 h2=>?_) hs;obtain⟨it,fp,tn,J,H2,e,I2,T,Oq,f2,W,⟨m0,w0⟩,turn⟩:=h2;subst e;have Qw:∀ {H':Hp},(∀ b∈fp,H' b=none)->∀ b∈fp,lV X N5 H' b:=λhn b hb=>⟨hn b hb,(f2 b hb).2⟩
 refine codeAny_forLoop_any (λn s'=>∃ i σ' H',Inv X N5 σ' H' s'/\tn i s'.heap/\(∀ b∈fp,H' b=none)/\W i n σ' H') ?_ m0 ⟨0,σ,H2,I2,Oq,λb hb=>(f2 b hb).1,w0⟩;rintro n s3 ⟨i,σ3,H3,I3,P6,fr3,w3⟩;rcases turn i n σ3 H3 w3 with ⟨stop,qn⟩ | ⟨go,N,hN,step⟩
 .refine VR hp (cX (T.done X rfl rfl rfl hc i N5 s3 σ3 H3 X.xe I3 (Qw fr3) P6 stop) λr s4 ⟨hr,I4⟩=>?_);subst hr;exact WE ⟨σ3,H3,I4,qn⟩
 .refine VR hp (cX (T.item X rfl rfl rfl hc i N5 s3 σ3 H3 X.xe I3 (Qw fr3) P6 go) λr s4 ⟨u,hr,h4⟩=>?_);subst hr;refine VR hp (cX h4 λ_ s5 ⟨x,H5,I5,r5,y5,RH,fr5⟩=>?_);have I5':=I5.pinned (Qw fr5) (T.obj _ _ RH);refine VR hp (cX (hg _ s5 σ3 H5 x u _ I5' r5 (step x H5 y5)) λ_ s6 ⟨σ6,H6,I6,q6⟩=>?_);refine VR hp (cX (hb _ s6 σ6 H6 _ I6 q6) λf s7 q7=>?_);have again:∀ {σ7:St} {H7:Hp},Inv X (N5++mv fp s5.heap) σ7 H7 s7->N σ7 H7->∃ m,m<n/\∃ i σ' H',Inv X N5 σ' H' s7/\tn i s7.heap/\(∀ b∈fp,H' b=none)/\W i m σ' H':=λ{σ7 H7} I7 n7=>by
   obtain⟨m',hm,w7⟩:=hN σ7 H7 n7;refine⟨m',hm,i+1,σ7,H7,I7.lZ,T.keep _ _ _ RH λb hb o e=>(I7.pin (b,o) (Uq _ (Uq _ (jd hb e)))).1,λb hb=>?_,w7⟩;obtain⟨o,e,d⟩:=T.obj _ _ RH b hb;exact(I7.pin (b,o) (Uq _ (Uq _ (jd hb e)))).2.1
  cases f with
  | next=>obtain⟨σ7,H7,I7,n7⟩:=q7;exact again I7 n7
  | cont=>obtain⟨σ7,H7,I7,n7⟩:=q7;exact again I7 n7
  | brk=>obtain⟨σ7,H7,I7,q7⟩:=q7;exact⟨σ7,H7,I7.lZ,q7⟩
  | ret v=>obtain⟨x7,σ7,H7,I7,r7,q7⟩:=q7;exact⟨x7,σ7,H7,I7.lZ,r7,q7⟩
abbrev R2:=V->V->Hp->VK->Prop
def hV(X:Cx)(f:Value->Value->Sem Value)(r:R2):Prop :=
 ∀ (N5:List (Addr×Obj)) (s:Shared) (σ:St) (H:Hp) (x y:V) (v u:Value) (Q:VK),Inv X N5 σ H s->RelV x v->RelV y u->r x y H Q ->
  wpAny (model X.prog X.w) X.A (f v u) (EP X N5 σ Q) X.xe s
def Ms(X:Cx)(f:Value->Sem Value)(r:V->Hp->VK->Prop):Prop :=
 ∀ (N5:List (Addr×Obj)) (s:Shared) (σ:St) (H:Hp) (x:V) (v:Value) (Q:VK),Inv X N5 σ H s->RelV x v->r x H Q ->
  wpAny (model X.prog X.w) X.A (f v) (EP X N5 σ Q) X.xe s
def dw(X:Cx)(f:Value)(r:List V->Hp->VK->Prop):Prop :=
 ∀ (N5:List (Addr×Obj)) (s:Shared) (σ:St) (H:Hp) (xs:List V) (us:List Value) (Q:VK),Inv X N5 σ H s->Vals xs us->r xs H Q ->
  wpAny (model X.prog X.w) X.A (call f us) (EP X N5 σ Q) X.xe s
def Kc(r:R2)(ta tb:TE):TE:=fun σ H Q=>ta σ H λx H1=>tb σ H1 λy H2=>r x y H2 Q
def Nt(r:V->Hp->VK->Prop)(ta:TE):TE:=fun σ H Q=>ta σ H λx H1=>r x H1 Q
def rI(C:Int->Int->Prop)(g:Int->Int->V):R2:=λx y H Q=>∃ i j,x=.int i/\y=.int j/\C i j/\Q (g i j) H
def yc(g:Int->Int->V):R2:=λx y H Q=>∃ i j,x=.int i/\y=.int j/\Q (g i j) H
def rU(g:Int->V):V->Hp->VK->Prop:=λx H Q=>∃ i,x=.int i/\Q (g i) H
variable{f:Value->Value->Sem Value}
variable{r:R2}
section
variable{a b:Expr}{tb tc:TE}{pos:Pos}
theorem Hh(ha:PE X a ta)(hb:PE X b tb){R:V->V->Hp->Prop}(I:Inv X N5 σ H s)
  (h:ta σ H λx H1=>tb σ H1 λy H2=>R x y H2)
  (hf:∀ v u s2 x y H2,Inv X N5 σ H2 s2->RelV x v->RelV y u->R x y H2->wpAny (model X.prog X.w) X.A (f v u) Q X.xe s2) :
  wpAny (model X.prog X.w) X.A (eval a X.env) (λv s₁=>wpAny (model X.prog X.w) X.A (eval b X.env) (λu s₂=>wpAny (model X.prog X.w) X.A (f v u) Q X.xe s₂) X.xe s₁) X.xe s:=by
 refine cX (ha N5 s σ H _ I h) λv s1 ⟨x,H1,I1,r1,q1⟩=>?_;refine cX (hb N5 s1 σ H1 _ I1 q1) λu s2 ⟨y,H2,I2,r2,q2⟩=>?_;exact hf v u s2 x y H2 I2 r1 r2 q2
theorem Gu{op:Operator}(ho:hV X (binaryOp op) r)(ha:PE X a ta)(hb:PE X b tb):PE X (.BinOp a op b pos) (Kc r ta tb):=by
 intro N5 s σ H Q I h;exact wpAny_BinOp (Hh ha hb I h λv u s2 x y H2 I2 rx ry q=>ho N5 s2 σ H2 x y v u Q I2 rx ry q)
theorem JW{op:UnaryOp}{r:V->Hp->VK->Prop}(ho:Ms X (unaryOp op) r)(ha:PE X a ta):PE X (.UnaryOp op a pos) (Nt r ta):=by
 intro N5 s σ H Q I h;exact UnaryOp_ (cX (ha N5 s σ H _ I h) λv s1 ⟨x,H1,I1,r1,q1⟩=>ho N5 s1 σ H1 x v Q I1 r1 q1)
theorem Ma{C:Int->Int->Prop}{g:Int->Int->Int}
  (rule:∀ (i j:Int) (t u:Tok) (s:Shared) (Q:Value->Shared->Prop) (E:Value->Shared->Prop),C i j->Q (.int (g i j) s.toks) { s with toks:=s.toks+1 }->wpAny (model X.prog X.w) X.A (f (.int i t) (.int j u)) Q E s) :
  hV X f (rI C λi j=>.int (g i j)):=by
 intro N5 s σ H x y v u Q I rx ry h;obtain⟨i,j,rfl,rfl,hc,q⟩:=h;obtain⟨t,rfl⟩:=rx;obtain⟨t',rfl⟩:=ry;exact rule i j t t' s _ _ hc ⟨.int (g i j),H,I.tok _,⟨_,rfl⟩,q⟩
theorem Lf{g:Int->Int->Int}
  (rule:∀ (i j:Int) (t u:Tok) (s:Shared) (Q:Value->Shared->Prop) (E:Value->Shared->Prop),Q (.int (g i j) s.toks) { s with toks:=s.toks+1 }->wpAny (model X.prog X.w) X.A (f (.int i t) (.int j u)) Q E s) :
  hV X f (yc λi j=>.int (g i j)):=by
 intro N5 s σ H x y v u Q I rx ry h;obtain⟨i,j,rfl,rfl,q⟩:=h;obtain⟨t,rfl⟩:=rx;obtain⟨t',rfl⟩:=ry;exact rule i j t t' s _ _ ⟨.int (g i j),H,I.tok _,⟨_,rfl⟩,q⟩
theorem EI{g:Int->Int->Bool}
  (rule:∀ (i j:Int) (t u:Tok) (s:Shared) (Q:Value->Shared->Prop) (E:Value->Shared->Prop),Q (.bool (g i j)) s->wpAny (model X.prog X.w) X.A (f (.int i t) (.int j u)) Q E s) :
  hV X f (yc λi j=>.bl (g i j)):=by
 intro N5 s σ H x y v u Q I rx ry h;obtain⟨i,j,rfl,rfl,q⟩:=h;obtain⟨t,rfl⟩:=rx;obtain⟨t',rfl⟩:=ry;exact rule i j t t' s _ _ ⟨.bl (g i j),H,I,rfl,q⟩
theorem I_:hV X (binaryOp .Add) (yc λi j=>.int (i+j)):=Lf λ_ _ _ _ _ _ _ q=>add_int q
theorem Hn:hV X (binaryOp .Sub) (yc λi j=>.int (i-j)):=Lf λ_ _ _ _ _ _ _ q=>sub_int q
theorem E3:hV X (binaryOp .Mod) (rI (λ_ j=>j≠0) λi j=>.int (i.fmod j)):=Ma λ_ _ _ _ _ _ _ hc q=>mod_int' hc q
theorem NY{f:Value->Sem Value}{g:Int->Int}
  (rule:∀ (i:Int) (t:Tok) (s:Shared) (Q:Value->Shared->Prop) (E:Value->Shared->Prop),Q (.int (g i) s.toks) { s with toks:=s.toks+1 }->wpAny (model X.prog X.w) X.A (f (.int i t)) Q E s) :
  Ms X f (rU λi=>.int (g i)):=by
 intro N5 s σ H x v Q I rx h;obtain⟨i,rfl,q⟩:=h;obtain⟨t,rfl⟩:=rx;exact rule i t s _ _ ⟨.int (g i),H,I.tok _,⟨_,rfl⟩,q⟩
theorem IW:Ms X (unaryOp .USub) (rU λi=>.int (-i)):=NY λ_ _ _ _ _ q=>neg_int q
end
variable{op:CmpOp}
variable{us:List Value}
section
variable{a b:Expr}{tb tc:TE}{pos:Pos}
theorem t6{Q:VK}{k k':Bool}(I:Inv X N5 σ H s)(q:Q (.bl k) H)(e:k=k'):EP X N5 σ Q (.bool k') s:=by
 subst e;exact⟨.bl k,H,I,rfl,q⟩
theorem AF:hV X (compareOp .Lt) (yc λi j=>.bl (decide (i<j))):=EI λ_ _ _ _ _ _ _ q=>lt_int q
theorem vc:hV X (compareOp .LtE) (yc λi j=>.bl (decide (i<=j))):=EI λ_ _ _ _ _ _ _ q=>le_int q
theorem F4:hV X (compareOp .Gt) (yc λi j=>.bl (decide (j<i))):=EI λ_ _ _ _ _ _ _ q=>gt_int q
theorem Gg:hV X (compareOp .GtE) (yc λi j=>.bl (decide (j<=i))):=EI λ_ _ _ _ _ _ _ q=>ge_int q
theorem BH:hV X (compareOp .Is) (λx y H Q=>y=.cJ/\Q (.bl (decide (x=.cJ))) H):=by
 intro N5 s σ H x y v u Q I rx ry h;obtain⟨rfl,q⟩:=h;cases ry;refine is_none_gen (t6 I q ?_);cases x <;> first
  | (cases rx;rfl)
  | (obtain⟨t,rfl⟩:=rx;rfl)
theorem yD:hV X (compareOp .IsNot) (λx y H Q=>y=.cJ/\Q (.bl (!decide (x=.cJ))) H):=by
 intro N5 s σ H x y v u Q I rx ry h;obtain⟨rfl,q⟩:=h;cases ry;refine isnot_none_gen (t6 I q ?_);cases x <;> first
  | (cases rx;rfl)
  | (obtain⟨t,rfl⟩:=rx;rfl)
theorem hV.or{r':R2}(h:hV X f r)(h':hV X f r'):hV X f (λx y H Q=>r x y H Q\/r' x y H Q):=by
 intro N5 s σ H x y v u Q I rx ry q;rcases q with q | q
 .exact h N5 s σ H x y v u Q I rx ry q
 .exact h' N5 s σ H x y v u Q I rx ry q
theorem dD(b:Expr)(h:autoParam (op≠.In) aD._auto_1)(h2:autoParam (op≠.NotIn) aD._auto_1):behindInMarks op b=false:=by
 have e1:(op==CmpOp.In)=false:=by cases op <;> first | rfl | exact absurd rfl h
 have e2:(op==CmpOp.NotIn)=false:=by cases op <;> first | rfl | exact absurd rfl h2
 cases b <;> simp[behindInMarks,e1,e2]
theorem E4(ho:hV X (compareOp op) r)(ha:PE X a ta)(hb:PE X b tb)(hm:behindInMarks op b=false):PE X (.Compare a [op] [b] pos) (Kc r ta tb):=by
 intro N5 s σ H Q I h;exact wpAny_Compare1 (Hh ha hb I h λv u s2 x y H2 I2 rx ry q=>ho N5 s2 σ H2 x y v u Q I2 rx ry q) hm
def Ly(t:TE):TT:=fun σ H Q=>t σ H λx H'=>∃ k,x=.bl k/\Q k H'
theorem FF(ho:hV X (compareOp op) r)(ha:PE X a ta)(hb:PE X b tb)(hm:behindInMarks op b=false):PT X (.Compare a [op] [b] pos) (Ly (Kc r ta tb)):=by
 intro N5 s σ H Q I h;refine wpAny_isTrue_Compare1 (cX (ha N5 s σ H _ I h) λv s1 ⟨x,H1,I1,r1,q1⟩=>cX (hb N5 s1 σ H1 _ I1 q1) λu s2 ⟨y,H2,I2,r2,q2⟩ =>
  cX (ho N5 s2 σ H2 x y v u _ I2 r1 r2 q2) λc s3 ⟨z,H3,I3,r3,k,e,q3⟩=>?_) hm
 subst e;cases r3;exact Vs ⟨H3,I3,q3⟩
def CV(r r':R2)(ta tb tc:TE):TE:=fun σ H Q=>ta σ H λx H1=>tb σ H1 λy H2=>r x y H2 λz H3=>∃ k,z=.bl k ∧
 (if k=true then tc σ H3 λw' H4=>r' y w' H4 Q else Q (.bl false) H3)
theorem Ct{RT:CmpOp}{r':R2}(ho:hV X (compareOp op) r)(Ql:hV X (compareOp RT) r')(ha:PE X a ta)(hb:PE X b tb)(hc:PE X c tc)
  (hm:autoParam (lastMarks [op,RT] [b,c]=false) aU._auto_1):PE X (.Compare a [op,RT] [b,c] pos) (CV r r' ta tb tc):=by
 intro N5 s σ H Q I h;refine Compare_chain (cX (ha N5 s σ H _ I h) λv s1 ⟨x,H1,I1,r1,q1⟩=>chain_link (cX (hb N5 s1 σ H1 _ I1 q1) λu s2 ⟨y,H2,I2,r2,q2⟩ =>
  cX (ho N5 s2 σ H2 x y v u _ I2 r1 r2 q2) λd s3 ⟨z,H3,I3,r3,k,e,q3⟩=>?_)) hm
 subst e;cases r3;refine Vs ?_;cases k with
 | false=>exact ite_ff ⟨.bl false,H3,I3,rfl,q3⟩
 | true=>exact ite_tt (chain_last (cX (hc N5 s3 σ H3 _ I3 q3) λw' s4 ⟨z',H4,I4,r4,q4⟩=>Ql N5 s4 σ H4 y z' u w' Q I4 r2 r4 q4))
theorem mM:(sizeLine:Nat)<2^63:=by rw[sizeLine_eq];decide
theorem wt:hV X (binaryOp .Add) (λx y H Q=>∃ i j,x=.str i/\y=.str j/\i.length+j.length<=sizeLine/\Q (.str (i++j)) H):=by
 intro N5 s σ H x y v u Q I rx ry h;obtain⟨i,j,rfl,rfl,hz,q⟩:=h;obtain⟨t,rfl⟩:=rx;obtain⟨t',rfl⟩:=ry;exact add_str (λt' tk=>⟨.str (i++j),H,I.tok _,⟨_,rfl⟩,q⟩) hz
theorem vals1{x:V}(r:Vals [x] us):∃ u,us=[u]/\RelV x u:=by
 cases r with
 | cons r1 r2=>cases r2;exact⟨_,rfl,r1⟩
theorem vals2{x y:V}(r:Vals [x,y] us):∃ u w',us=[u,w']/\RelV x u/\RelV y w':=by
 cases r with
 | cons r1 r2 =>
  cases r2 with
  | cons r3 r4=>cases r4;exact⟨_,_,rfl,r1,r3⟩
theorem ze(hc:X.calm=true):dw X (.builtin "max") (λxs H Q=>∃ i j,xs=[.int i,.int j]/\Q (.int (if j>i then j else i)) H):=by
 intro N5 s σ H xs us Q I r h;obtain⟨i,j,rfl,q⟩:=h;obtain⟨u,w',rfl,⟨t,rfl⟩,⟨t',rfl⟩⟩:=vals2 r;refine max_two_ints (I.ok.hd hc) λh' tk k=>⟨_,H,I.kept k,?_,q⟩
 by_cases hj:j>i
 .rw[if_pos hj,if_pos hj];exact⟨_,rfl⟩
 .rw[if_neg hj,if_neg hj];exact⟨_,rfl⟩
end
structure wY (h:Heap) (x dx C:Addr) (mA:Str->Option Value):Prop where
 obj:h.get? x=some (PySem.W.instObj C dx)
 ns:h.Ns1 dx mA
 ne:dx≠x
variable{mA:Str->Option Value}{dx:Addr}
theorem mK(n:h.Ns1 dx mA):∃ od,h.get? dx=some od/\∀ name,PySem.W.lookIn name od=some (mA name):=by
 obtain⟨o,es,ep,ho,hd,hk,_,hm⟩:=n;refine⟨o,ho,λname=>?_⟩;have e:=hm name;unfold nsFind findBy at e;rw[<- Zm] at e;unfold PySem.W.lookIn;rw[hd];dsimp only
 split
 .rename_i y q;rw[q] at e;exact congrArg some e
 .rename_i q;rw[q] at e;have a:es.toList.any (·.refKey)=false:=by
   rw[List.any_eq_false];intro y hy;obtain⟨z,t,P4⟩:=hk y (Array.mem_toList_iff.mp hy);simp[DictEntry.refKey,P4]
  have a':¬ es.toList.any (·.refKey)=true:=by rw[a];exact Uh
  rw[if_neg a'];exact congrArg some e
variable{C:Addr}
theorem wY.look{x:Addr}(I:wY h x dx C mA):∃ od,PySem.W.InstAt h x (PySem.W.instObj C dx) C (some od)/\∀ name,PySem.W.lookIn name od=some (mA name) :=
 let ⟨od,ho,hl⟩:=mK I.ns
 ⟨od,⟨I.obj,rfl,rfl,ho⟩,hl⟩
variable{prog:Program}
variable{pl:Sem Bool}
variable{kw:List (Str×Value)}
section
variable{K:PySem.W.Frag}{x f:Addr}{name:Str}{v:Value}
theorem get_map{expr:Bool}(X:K.In s.heap)(I:wY s.heap x dx C mA)(hg:PySem.W.plainGet K C name=true)(hh:PySem.W.hasDictIn K C=true)
  (ha:PySem.W.findIn K (.ref C) name=some none) (hv:mA name=some v) (Rt:PySem.W.handedIn v=true) (h:Q v { s with toks:=s.toks+1 }) :
  wpAny (model prog w) A (getAttr (.ref x) name expr) Q E s:=by
 obtain⟨od,J,hl⟩:=I.look;exact PySem.W.get_value X J (PySem.W.plainGet_of hg).1 (PySem.W.findObj_own hh ha rfl (by rw[hl,hv])) Rt h
theorem C2{Q:Value×List Value->Shared->Prop}(X:K.In s.heap)(I:wY s.heap x dx C mA)(hg:PySem.W.plainGet K C name=true)
  (hf:PySem.W.findIn K (.ref C) name=some (some (.ref f))) (ht:PySem.W.isFn K (.ref f)=true) (hv:mA name=none) (h:Q (.ref f,[.ref x]) s) :
  wpAny (model prog w) A (getMethod (.ref x) name pl) Q E s:=by
 obtain⟨od,J,hl⟩:=I.look;exact PySem.W.method_fn X J (PySem.W.plainGet_of hg).1 (PySem.W.plainGet_of hg).2 hf (beq_iff_eq.mp ht) (by show (PySem.W.lookIn name od).map (·.isSome)=some false;rw[hl,hv];rfl) h
theorem FN{ns:List Str}{Q:Unit->Shared->Prop}(X:K.In s.heap)(I:wY s.heap x dx C mA)
  (hs:PySem.W.findIn K (.ref C) "__setattr__" = some (some (.builtin "object.__setattr__"))) (hp:PySem.W.plainOver K C=true) (ht:PySem.W.takerIn K C name=some none) (hh:PySem.W.hasDictIn K C=true)
  (hw:PySem.Within mA ns) (Pd:ns.length<=sizeLine)
  (h:∀ h',wY h' x dx C (λy=>if y=name then some v else mA y)->Wq dx s.heap h'->Q () { s with heap:=h',toks:=s.toks+2 }) :
  wpAny (model prog w) A (setAttr (.ref x) name v) Q E s:=by
 obtain⟨od,J,hl⟩:=I.look;refine PySem.W.set_plain X J hs (PySem.W.osa_open (s:={ s with toks:=s.toks+1 }) (r:=none) X J hp ht λb=>?_);obtain⟨cd,hc,Sd⟩:=PySem.W.any_some hh;have hx:s.heap.get? x=some ⟨.ref C,some dx,.plain,#[]⟩:=I.obj;refine RM (SY (RM (RM (WL hx (RM (PySem.W.Looks.here (s:={ s with toks:=s.toks+1 }) (PySem.W.looks_clsIn X hc) ?_))))));rw[Sd];refine SY (a:=some dx) (RM (SY (RM ?_)));refine wpAny_nsSet1 (s:={ s with toks:=s.toks+1 }) I.ns λh' QO PH=>?_;obtain⟨oD,esD,epD,hoD,hdD,QU⟩:=QO.count (PySem.Within.cons name v hw);refine RM (wpAny_lookBehind hoD (by rw[hdD];exact pastItsLine_dict (TJ QU (by rw[T5];lia))) ?_);exact SY (h _ ⟨(PH.2 _ (Vb I.ne)).trans I.obj,QO,I.ne⟩ PH)
theorem Ck{R:Result->Shared->Prop}{vs:List Value}(X:K.In s.heap)(hm:PySem.W.makesIn K C=true)
  (hi:PySem.W.findIn K (.ref C) "__init__" = some (some (.ref f))) (hf:PySem.W.typeIn K (.ref f)=some (.type "function"))
  (h:codeAny (model prog w) (A.under (.builtin "type.__call__" ⟨.ref C::vs,kw⟩)) (.call (.ref f) ⟨.ref (s.heap.objs.size+1)::vs,kw⟩) (PySem.W.InitBack (s.heap.objs.size+1) R)
   { s with heap:=(s.heap.push PySem.W.emptyDict).push (PySem.W.instObj C s.heap.objs.size) }) :
  codeAny (model prog w) A (.call (.ref C) ⟨vs,kw⟩) R s:=by
 obtain⟨hh,g,d,t,os⟩:=s;exact PySem.W.make_core (PySem.W.makes_of X hm) (PySem.W.looks_findIn X hi) (λself=>PySem.W.bind_fn X self hf) (.inl rfl) h
end
def jJ(f:Str)(v:V):List (Str×V)->List (Str×V)
 | []=>[(f,v)]
 | (g,x)::r=>if g=f then (g,v)::r else (g,x)::jJ f v r
theorem mW(f g:Str)(v:V):∀ fs:List (Str×V),(jJ f v fs).lookup g=if g=f then some v else fs.lookup g
 | []=>by
  show Vz g [(f,v)]=_
  by_cases h:g=f
  .have hb:(g==f)=true:=beq_iff_eq.mpr h;simp only[Vz,hb,if_pos h]
  .have hb:(g==f)=false:=beq_eq_false_iff_ne.mpr h;simp only[Vz,hb,if_neg h]
 | (k,x)::r=>by
  have ih:=mW f g v r;rw[show jJ f v ((k,x)::r)=(if k=f then (k,v)::r else (k,x)::jJ f v r) from rfl]
  by_cases hk:k=f
  .rw[if_pos hk]
   by_cases h:g=k
   .have hb:(g==k)=true:=beq_iff_eq.mpr h;simp only[Vz,hb,if_pos (h.trans hk)]
   .have hb:(g==k)=false:=beq_eq_false_iff_ne.mpr h;simp only[Vz,hb,if_neg (λe:g=f=>h (e.trans hk.symm))]
  .rw[if_neg hk]
   by_cases h:g=k
   .have hb:(g==k)=true:=beq_iff_eq.mpr h;simp only[Vz,hb,if_neg (λe:g=f=>hk (h.symm.trans e))]
   .have hb:(g==k)=false:=beq_eq_false_iff_ne.mpr h;simp only[Vz,hb];exact ih
theorem mH(f:Str)(v:V):∀ fs:List (Str×V),f∈(jJ f v fs).map (·.1)/\∀ g,g∈fs.map (·.1)->g∈(jJ f v fs).map (·.1)
 | []=>⟨by simp[jJ],λg h=>by simp at h⟩
 | (k,x)::r=>by
  obtain⟨i1,i2⟩:=mH f v r;rw[show jJ f v ((k,x)::r)=(if k=f then (k,v)::r else (k,x)::jJ f v r) from rfl]
  by_cases hk:k=f
  .rw[if_pos hk];subst hk;exact⟨by simp,λg h=>by simpa using h⟩
  .rw[if_neg hk];refine⟨?_,λg h=>?_⟩
   .rw[Tw];exact Tf _ i1
   .rw[Tw] at h ⊢;rcases Tt.mp h with e | e
    .exact Tt.mpr (.inl e)
    .exact Tf _ (i2 g e)
theorem m_(f:Str)(v:V):∀ fs:List (Str×V),(jJ f v fs).length<=fs.length+1
 | []=>by simp[jJ]
 | (k,x)::r=>by
  have ih:=m_ f v r;rw[show jJ f v ((k,x)::r)=(if k=f then (k,v)::r else (k,x)::jJ f v r) from rfl]
  by_cases hk:k=f
  .rw[if_pos hk,T5,T5];lia
  .rw[if_neg hk,T5,T5];lia
theorem ml.some_of{o:Option Value}(r:ml (some v) o):∃ u,o=some u/\RelV v u:=by
 cases o with
 | none=>exact(show False from r).elim
 | some u=>exact⟨u,rfl,r⟩
theorem ml.none_of{o:Option Value}(r:ml none o):o=none:=by
 cases o with
 | none=>rfl
 | some u=>exact(show False from r).elim
theorem zM(r:RelV v u):PySem.W.handedIn u=true:=by
 cases v with
 | cJ=>cases (show u=Um from r);rfl
 | bl b=>cases (show u=Vv b from r);rfl
 | int i=>obtain⟨t,e⟩:=(show ∃ t,u=XD i t from r);cases e;rfl
 | str x=>obtain⟨t,e⟩:=(show ∃ t,u=X_ x t from r);cases e;rfl
 | byt b=>obtain⟨t,e⟩:=(show ∃ t,u=Value.bytes b t from r);cases e;rfl
 | Ge b=>obtain⟨t,e⟩:=(show ∃ t,u=YT b t from r);cases e;rfl
 | ref a=>cases (show u=Td a from r);rfl
 | ty n=>cases (show u=U7 n from r);rfl
section
variable{a:Addr}{fs Rx:List (Str×V)}
theorem l5(bB:mf P w H h)(e:H a=some (.ins C dx fs)):∃ mA,wY h a dx C mA/\(∀ f,ml (fs.lookup f) (mA f))/\PySem.Within mA (fs.map (·.1))/\fs.length<=1000/\H dx=some (.own a):=by
 obtain⟨d,z,ne,ob,mA,n,r,q⟩:=(show b_ P w H h a (.ins C dx fs) from bB a _ e)
 exact⟨mA,⟨ob,n,ne⟩,r,q,z,d⟩
end
structure ma (K:PySem.W.Frag) (C:Addr):Prop where
 pg:PySem.W.plainGet K C Str.empty=true
 hd:PySem.W.hasDictIn K C=true
 po:PySem.W.plainOver K C=true
 sa:PySem.W.findIn K (.ref C) "__setattr__" = some (some (.builtin "object.__setattr__"))
theorem ma.get{K:PySem.W.Frag}(c:ma K C)(f:Str):PySem.W.plainGet K C f=true:=c.pg
def bX(K:PySem.W.Frag)(C:Addr)(f:Str):Prop:=PySem.W.findIn K (.ref C) f=some none
theorem bX.Gk{K:PySem.W.Frag}{f:Str}(n:bX K C f):PySem.W.takerIn K C f=some none:=by
 unfold PySem.W.takerIn;rw[show PySem.W.findIn K (.ref C) f=some none from n];rfl
structure Meth (K:PySem.W.Frag) (C:Addr) (m:Str) (f:Addr):Prop where
 at_:PySem.W.findIn K (.ref C) m=some (some (.ref f))
 fn:PySem.W.isFn K (.ref f)=true
 kp:PySem.W.keepIn K (.ref f)=true
variable{m:Str}
section
variable{a:Addr}{fs:List (Str×V)}{f:Str}
theorem wL{b:Bool}(I:Inv X N5 σ H s)(e:H a=some (.ins C dx fs))(c:ma X.K C)(n:bX X.K C f)(l:fs.lookup f=some v)
  (h:∀ u s',Inv X N5 σ H s'->RelV v u->Q u s'):wpAny (model X.prog X.w) A (getAttr (.ref a) f b) Q E s:=by
 obtain⟨mA,O,r,_,_,_⟩:=l5 I.bB e;obtain⟨u,hu,ru⟩:=ml.some_of (v:=v) (o:=mA f) (by rw[<- l];exact r f);exact get_map I.jK O (c.get f) c.hd n hu (zM ru) (h u _ (I.tok _) ru)
theorem qq{g:Addr}{Q:Value×List Value->Shared->Prop}(I:Inv X N5 σ H s)(e:H a=some (.ins C dx fs))(c:ma X.K C)(k:Meth X.K C m g)(l:fs.lookup m=none)
  (h:Q (.ref g,[.ref a]) s):wpAny (model X.prog X.w) A (getMethod (.ref a) m pl) Q E s:=by
 obtain⟨mA,O,r,_,_,_⟩:=l5 I.bB e;have hn:mA m=none:=ml.none_of (by rw[<- l];exact r m);exact C2 I.jK O (c.get m) k.at_ k.fn hn h
theorem w9{y:V}{Q:Unit->Shared->Prop}(I:Inv X N5 σ H s)(e:H a=some (.ins C dx fs))(c:ma X.K C)(n:bX X.K C f)(hl:fs.length<1000)(ry:RelV y u)
  (h:∀ s',Inv X N5 σ (upd H a (.ins C dx (jJ f y fs))) s'->Q () s'):wpAny (model X.prog X.w) A (setAttr (.ref a) f u) Q E s:=by
 obtain⟨mA,O,r,wi,_,ho⟩:=l5 I.bB e;have hz:(fs.map (·.1)).length<=sizeLine:=by rw[S0,sizeLine_eq];lia
 refine FN I.jK O c.sa c.po n.Gk c.hd wi hz λh' O' sb=>h _ ?_;have hd:∃ o,h'.get? dx=some o:=let ⟨o,_,_,e',_⟩:=O'.ns;⟨o,e'⟩
 refine I.write (x:=a) (e:=dx) (by rw[e];exact Vw) (.inr ho) (λb q hb z=>(sb.2 b hb).trans z) hd ?_;refine⟨by rw[au O.ne];exact ho,?_,O.ne,O'.obj,_,O'.ns,λg=>?_,λg hg=>?_⟩
 .have:=m_ f y fs;lia
 .show ml ((jJ f y fs).lookup g) (if g=f then some u else mA g);rw[mW]
  by_cases q:g=f
  .rw[if_pos q,if_pos q];exact ry
  .rw[if_neg q,if_neg q];exact r g
 .by_cases q:g=f
  .rw[q];exact(mH f y fs).1
  .refine(mH f y fs).2 g (wi g λz=>hg ?_);show (if g=f then some u else mA g)=none;rw[if_neg q];exact z
theorem Inv.made(I:Inv X N5 σ H s):Inv X N5 σ (upd (upd H s.heap.objs.size (.own (s.heap.objs.size+1))) (s.heap.objs.size+1) (.ins C s.heap.objs.size []))
  { s with heap:=(s.heap.push PySem.W.emptyDict).push (PySem.W.instObj C s.heap.objs.size) }:=by
 have e1:(s.heap.push PySem.W.emptyDict).get? s.heap.objs.size=some PySem.W.emptyDict:=S2 s.heap rfl;have e2:((s.heap.push PySem.W.emptyDict).push (PySem.W.instObj C s.heap.objs.size)).get? (s.heap.objs.size+1)=some (PySem.W.instObj C s.heap.objs.size):=by
  have:=S2 (s.heap.push PySem.W.emptyDict) (o:=PySem.W.instObj C s.heap.objs.size) rfl
  rwa [Ua] at this
 have e3:(s.heap.push PySem.W.emptyDict).Ns s.heap.objs.size (λ_=>none):=⟨PySem.W.emptyDict,#[],_,e1,rfl,(λe he=>absurd he (by simp)),λ_=>rfl⟩
 have I1:=I.laid (a:=s.heap.objs.size) (o:=.own (s.heap.objs.size+1)) (h':=s.heap.push PySem.W.emptyDict) (t':=s.toks) (λb u q=>SQ _ q) (SX _) ⟨_,e1⟩;refine I1.laid (a:=s.heap.objs.size+1) (o:=.ins C s.heap.objs.size []) (t':=s.toks) (λb u q=>SQ _ q) (Yp (Ua _ _)) ?_;have ne:s.heap.objs.size≠s.heap.objs.size+1:=Tu (Ve _);refine⟨by rw[au ne,aE],S9 _,ne,e2,λ_=>none,(Zy e3).at λo q=>SQ _ q,λ_=>Vw,λy hy=>absurd rfl hy⟩
theorem FC{env:Env}{f:Str}{pos:Pos}(hb:attributeBase e f env (eval e env)=eval e env)
  (h:wpAny (model prog w) A (eval e env) (λo s₁=>wpAny (model prog w) A (getAttr o f true) Q E s₁) E s):wpAny (model prog w) A (eval (.Attribute e f pos) env) Q E s :=
 Attribute_any_ h (by rw[arm_eval_Attribute,hb])
end
def MB(K:PySem.W.Frag)(ta:TE)(f:Str):TE:=fun σ H Q=>ta σ H λx H1=>∃ a C dx fs v,x=.ref a/\H1 a=some (.ins C dx fs)/\ma K C/\bX K C f/\fs.lookup f=some v/\Q v H1
def Ml(K:PySem.W.Frag)(ta tv:TE)(f:Str):TS:=λD σ H=>tv σ H λy H1=>ta σ H1 λx H2=>∃ a C dx fs,x=.ref a/\H2 a=some (.ins C dx fs)/\ma K C/\bX K C f/\fs.length<1000 ∧
 D.nx σ (upd H2 a (.ins C dx (jJ f y fs)))
section
variable{o value:Expr}{f:Str}{pos pos' tpos:Pos}{tv:TE}
theorem G0(he:PE X e ta)(hb:attributeBase e f X.env (eval e X.env)=eval e X.env):PE X (.Attribute e f pos) (MB X.K ta f):=by
 intro N5 s σ H Q I h;refine FC hb (cX (he N5 s σ H _ I h) λu s1 ⟨x,H1,I1,rx,a,C,dx,fs,v,ex,ea,c,n,l,q⟩=>?_);subst ex;obtain rfl:u=Td a:=rx;exact wL I1 ea c n l λu' s2 I2 ru=>⟨v,H1,I2,ru,q⟩
theorem JE(ha:PE X o ta)(hv:PE X value tv)(hs:swapsWith value (some (.Attribute o f pos')) pos.line X.env=pure false):PS X (.Assign [.Attribute o f pos'] value pos) (Ml X.K ta tv f):=by
 intro N5 s σ H D I h;refine W2 (cX (hv N5 s σ H _ I h) λu s1 ⟨y,H1,I1,ry,q⟩=>cX (ha N5 s1 σ H1 _ I1 q) λov s2 ⟨x,H2,I2,rx,a,C,dx,fs,ex,ea,c,n,l,q2⟩=>?_) hs;subst ex;obtain rfl:ov=Td a:=rx;exact w9 I2 ea c n l ry λs3 I3=>⟨σ,_,I3,q2⟩
end
section
variable{c:Value}{b:Bool}
inductive jM (K:PySem.W.Frag) (H:Hp):V->Value->Prop where
 | cJ:jM K H .cJ (.type "NoneType")
 | bl (x:Bool):jM K H (.bl x) (.type "bool")
 | int (i:Int):jM K H (.int i) (.type "int")
 | str (x:Str):jM K H (.str x) (.type "str")
 | Ge (x:UInt64):jM K H (.Ge x) (.type "float")
 | lst {a:Addr} {xs:List V} (e:H a=some (.lst xs)):jM K H (.ref a) (.type "list")
 | qL {a:Addr} {o:Obj} {xs:List V} (e:H a=some (.qL o (.lst xs))):jM K H (.ref a) (.type "list")
 | tup {a:Addr} {xs:List V} (e:H a=some (.tup xs)):jM K H (.ref a) (.type "tuple")
 | dK {a:Addr} {O4:List (Key×V)} (e:H a=some (.dK O4)):jM K H (.ref a) (.type "dict")
 | dT {a:Addr} {O4:List (List Key×V)} (e:H a=some (.dT O4)):jM K H (.ref a) (.type "dict")
 | ins {a C dx:Addr} {fs:List (Str×V)} (e:H a=some (.ins C dx fs)) (cl:ma K C) (ha:PySem.W.findIn K (.ref C) "__class__" = some (some (.builtin "object.__class__")))
   (hn:PySem.W.specialIn K (.builtin "object.__class__") "__get__" = some (some (.builtin "getset_descriptor.__get__"))) (JP:PySem.W.takesIn K (.builtin "object.__class__")=some true)
   (hm:PySem.W.mroIn K C (.type "object")=some true):jM K H (.ref a) (.ref C)
theorem zI{x:V}{t:Value}(I:Inv X N5 σ H s)(rx:RelV x u)(ty:jM X.K H x t)(e:PySem.W.kitOne X.K t c=some b)(h:∀ tk,Q (.bool b) { s with toks:=tk }) :
  wpAny (model X.prog X.w) A (call (.builtin "isinstance") [u,c]) Q E s:=by
 cases ty with
 | cJ=>cases (show u=Um from rx);exact PySem.W.kia_one PySem.W.kitx_none I.jK Vw e (λz=>nomatch z) h
 | bl y=>cases (show u=Vv y from rx);exact PySem.W.kia_one PySem.W.kitx_bool I.jK Vw e (λz=>nomatch z) h
 | int i=>obtain⟨t,q⟩:=(show ∃ t,u=XD i t from rx);cases q;exact PySem.W.kia_one PySem.W.kitx_int I.jK Vw e (λz=>nomatch z) h
 | str y=>obtain⟨t,q⟩:=(show ∃ t,u=X_ y t from rx);cases q;exact PySem.W.kia_one PySem.W.kitx_str I.jK Vw e (λz=>nomatch z) h
 | Ge y=>obtain⟨t,q⟩:=(show ∃ t,u=YT y t from rx);cases q;exact PySem.W.kia_one PySem.W.kitx_float I.jK Vw e (λz=>nomatch z) h
 | @lst a xs ea =>
  cases (show u=Td a from rx);obtain⟨_,_,n,_,h1⟩:=(show b_ X.prog X.w H s.heap a (.lst xs) from I.bB a _ ea)
  exact PySem.W.kia_one PySem.W.kitx_list I.jK ⟨_,h1,rfl⟩ e (λz=>nomatch z) h
 | @qL a ob xs ea =>
  cases (show u=Td a from rx);obtain⟨_,_,_,n,_,h1⟩:=(show b_ X.prog X.w H s.heap a (.qL ob (.lst xs)) from I.bB a _ ea)
  exact PySem.W.kia_one PySem.W.kitx_list I.jK ⟨_,h1,rfl⟩ e (λz=>nomatch z) h
 | @tup a xs ea =>
  cases (show u=Td a from rx);obtain⟨_,_,_,p⟩:=(show b_ X.prog X.w H s.heap a (.tup xs) from I.bB a _ ea)
  obtain⟨o,h1,h2,_⟩:=p;exact PySem.W.kia_one PySem.W.kitx_tuple I.jK ⟨o,h1,h2⟩ e (λz=>nomatch z) h
 | @dK a O4 ea =>
  cases (show u=Td a from rx);obtain⟨_,_,vs,_,p⟩:=(show b_ X.prog X.w H s.heap a (.dK O4) from I.bB a _ ea)
  obtain⟨o,es,ep,h1,h2,_⟩:=p;exact PySem.W.kia_one PySem.W.kitx_dict I.jK ⟨o,h1,h2.1⟩ e (λz=>nomatch z) h
 | @dT a O4 ea =>
  cases (show u=Td a from rx);obtain⟨_,_,xs,_,o,es,ep,h1,h2,_⟩:=(show b_ X.prog X.w H s.heap a (.dT O4) from I.bB a _ ea)
  exact PySem.W.kia_one PySem.W.kitx_dict I.jK ⟨o,h1,h2.1⟩ e (λz=>nomatch z) h
 | @ins a C dx fs ea cl ha hn JP hm =>
  cases (show u=Td a from rx);obtain⟨mA,O,_⟩:=l5 I.bB ea;obtain⟨od,J,_⟩:=O.look;exact PySem.W.kia_one (PySem.W.kitx_own (cl.get _) cl.hd ha hn JP hm) I.jK J e (λz=>nomatch z) h
end
structure cA (k:Nat) (A:Around):Prop where
 hd:A.handled=none
 dp:A.depth+3*k+5<recursionLimit
 un:A.units+16*k+200<cLine
theorem cA.mono{j:Nat}(r:cA k A)(h:j<=k):cA j A:=⟨r.hd,by have:=r.dp;lia,by have:=r.un;lia⟩
theorem cA.deeper{k:Nat}{A:Around}(r:cA (k+1) A)(env:Env):cA k (A.deeper env) :=
 ⟨r.hd,by have:=r.dp;show A.depth+1+3*k+5<_;lia,by have:=r.un;show A.units+3+16*k+200<_;lia⟩
theorem xo:(A.under (.builtin "type.__call__" ⟨.ref C::us,kw⟩)).depth=A.depth+1:=by
 first | rfl | simp[Zz,Code.weight,Code.isCreation,Code.isGuard,Code.isCaller,Code.frames,ZA,guardIds]
theorem xF:(A.under (.builtin "type.__call__" ⟨.ref C::us,kw⟩)).units=A.units+1:=by
 first | rfl | simp[Zz,Code.cUnits,Code.frames,ZA]
theorem cA.make(r:cA (k+1) A)(C:Addr)(us:List Value)(kw:List (Str×Value)):cA k (A.under (.builtin "type.__call__" ⟨.ref C::us,kw⟩)) :=
 ⟨r.hd,by have:=r.dp;rw[xo];lia,by have:=r.un;rw[xF];lia⟩
theorem cA.depth{k:Nat}{A:Around}(r:cA k A):A.depth<recursionLimit:=by have:=r.dp;lia
theorem cA.units{k:Nat}{A:Around}(r:cA k A):A.units+64<cLine:=by have:=r.un;lia
def Kq:TA:=λ_ H Q=>Q [] H
def J9(ta:TE)(tr:TA):TA:=fun σ H Q=>ta σ H λx H1=>tr σ H1 λxs H2=>Q (x::xs) H2
variable{t:TA}
section
variable{pos:Pos}
theorem kW:PA X [] Kq:=λ_ _ _ _ H Q I h=>Calls.spliced_nil ⟨[],H,I,.nil,h⟩
theorem fI(ha:PE X e te)(hr:PA X es t)(hs:autoParam (starEach (e::es) X.env=(false,eval e X.env)::starEach es X.env) aR._auto_1):PA X (e::es) (J9 te t):=by
 intro pos N5 s σ H Q I h;rw[hs];show wpAny _ _ (spliced ((false,eval e X.env)::backTo pos (starEach es X.env))) _ _ s;refine Calls.spliced_cons (cX (ha N5 s σ H _ I h) λu s1 ⟨x,H1,I1,r1,q1⟩=>?_);exact cX (hr pos N5 s1 σ H1 _ I1 q1) λus s2 ⟨xs,H2,I2,r2,q2⟩=>⟨x::xs,H2,I2,.cons r1 r2,q2⟩
def M8(t:TA):TE:=fun σ H Q=>t σ H λxs H1=>xs.length<=sizeLine/\∀ p,H1 p=none->Q (.ref p) (upd H1 p (.tup xs))
def Ng(t:TA):TE:=fun σ H Q=>t σ H λxs H1=>xs.length<=sizeLine/\∀ p,H1 p=none->Q (.ref p) (upd H1 p (.lst xs))
theorem AW{x1}(h:PA X es t):PE X (.Tuple es x1 pos) (M8 t):=by
 intro N5 s σ H Q I hq;refine wpAny_Tuple_spliced (cX (h pos N5 s σ H _ I hq) λus s1 ⟨xs,H1,I1,r,z,q⟩=>⟨by rw[<- r.length];exact z,?_⟩);have hf:H1 s1.heap.objs.size=none:=I1.bB.fresh (SX _);refine⟨.ref s1.heap.objs.size,upd H1 s1.heap.objs.size (.tup xs),I1.laid (t':=s1.toks) (λb u e=>SQ _ e) (SX _) ?_,rfl,q _ hf⟩;exact⟨z,us,r,⟨_,S2 _ rfl,rfl,_,rfl⟩⟩
theorem C_(h:PA X es t):PE X (.List es pos) (Ng t):=by
 intro N5 s σ H Q I hq;refine wpAny_List_spliced (cX (h pos N5 s σ H _ I hq) λus s1 ⟨xs,H1,I1,r,z,q⟩=>⟨by rw[<- r.length];exact z,?_⟩);have hf:H1 s1.heap.objs.size=none:=I1.bB.fresh (SX _);refine⟨.ref s1.heap.objs.size,upd H1 s1.heap.objs.size (.lst xs),I1.laid (t':=s1.toks) (λb u e=>SQ _ e) (SX _) ?_,rfl,q _ hf⟩;exact⟨z,us,0,r,S2 _ rfl⟩
end
abbrev Sp:=List V->Hp->VK->XK->Prop
abbrev JL:=List Env->Hp->Shared->XK->Value->Shared->Prop
structure wu (P:Program) (w:World) (K:PySem.W.Frag) (mg:Str->Option Value) (base:Heap) (A:Around) (outer:List Env) (s:Shared) (H:Hp):Prop where
 frames:A.frames=some outer
 mod:Mod K mg base
 bs:∀ b o,base.get? b=some o->s.heap.get? b=some o/\H b=none
 Dr:base.objs.size<=s.heap.objs.size
 kO:s.heap.FunFrames base outer
 DI:∀ b∈wm outer,H b=none
 bB:mf P w H s.heap
 bare:AllBare s.gens
def CE(outer:List Env)(P:Program)(w:World)(H:Hp)(s:Shared)(Q:VK)(u:Value)(s':Shared):Prop :=
 ∃ v H',s'.os=s.os/\AllBare s'.gens/\Un (wm outer) [] H H' s.heap s'.heap/\mf P w H' s'.heap/\RelV v u/\Q v H'
def CR(CX:JL)(outer:List Env)(P:Program)(w:World)(H:Hp)(s:Shared)(Q:VK)(E:XK)(r:Result)(s':Shared):Prop :=
 match r with
 | .ok (.ret u)=>CE outer P w H s Q u s'
 | .ok _=>False
 | .error e=>CX outer H s E e s'
structure aY (P:Program) (w:World) (K:PySem.W.Frag) (mg:Str->Option Value) (base:Heap) (CX:JL) (k:Nat) (f:Addr) (fd:FuncData) (ps:List Str) (sp:Sp):Prop where
 len:∀ vs H Q E,sp vs H Q E->vs.length=ps.length
 run:∀ (A:Around) (outer:List Env) (s:Shared) (H:Hp) (args:Args) (us:List Value) (vs:List V) (Q:VK) (E:XK),cA k A->wu P w K mg base A outer s H->BindsTo s fd args (ps.zip us)->Vals vs us->sp vs H Q E ->
  codeAny (model P w) A (.call (.ref f) args) (CR CX outer P w H s Q E) s
variable{outer:List Env}{base:Heap}{mg:Str->Option Value}
theorem wu.make{K:PySem.W.Frag}(e:wu P w K mg base A outer s H)(C:Addr)(us:List Value)(kw:List (Str×Value)) :
  wu P w K mg base (A.under (.builtin "type.__call__" ⟨.ref C::us,kw⟩)) outer s H:=⟨by first | exact e.frames | (simpa [Zz,Code.envs,ZA,pushEnvs] using e.frames),e.mod,e.bs,e.Dr,e.kO,e.DI,e.bB,e.bare⟩
section
variable{s':Shared}
theorem Inv.kP(I:Inv X N5 σ H s):wu X.prog X.w X.K X.mg X.base X.A X.stack s H :=
 ⟨I.ok.frames,I.ok.mod,I.bs,TJ I.ok.Dr I.sz,I.stack,I.ui,I.bB,I.bare⟩
theorem Inv.after{Q:VK}(I:Inv X N5 σ H s)(h:CE X.stack X.prog X.w H s Q u s'):EP X N5 σ Q u s':=by
 obtain⟨v,H',os,bare,un,bB,r,q⟩:=h;obtain⟨hh,g,d,t,os'⟩:=s';obtain rfl:os'=s.os:=os;exact⟨v,H',I.call (h':=hh) (g':=g) (d':=d) (t':=t) (ch:=[]) un bB bare (λb z=>absurd z (by simp)),r,q⟩
end
def Binds(K:PySem.W.Frag)(fd:FuncData)(ps:List Str)(ds:List Value):Prop :=
 ∀ (s:Shared) (us:List Value),K.In s.heap->(us++ds).length=ps.length->BindsTo s fd ⟨us,[]⟩ (ps.zip (us++ds))
variable{ps:List Str}{fd:FuncData}
theorem Binds.all{K:PySem.W.Frag}(h:∀ us:List Value,us.length=ps.length->bindArgs fd ⟨us,[]⟩=pure (ps.zip us)):Binds K fd ps []:=λs us _ hl=>by
 rw[Ul] at hl ⊢;exact .of_eq (h us hl)
variable{sp:Sp}{CX:JL}
section
variable{f:Addr}{OZ:List V}{ds:List Value}{E:XK}{pos apos:Pos}{o:Expr}
structure Mk (K:PySem.W.Frag) (C f:Addr):Prop where
 makes:PySem.W.makesIn K C=true
 init:PySem.W.findIn K (.ref C) "__init__" = some (some (.ref f))
 fn:PySem.W.isFn K (.ref f)=true
 kp:PySem.W.keepIn K (.ref C)=true
end
section
variable{f:Addr}{ks:List Str}{E:XK}{pos apos kpos:Pos}{o:Expr}{kws:List Keyword}{tk:TA}{nm:Option Str}
variable{g:List Value->List Value->List Value}{gV:List V->List V->List V}
end
structure cH (N P:List Str) (sc:Scope):Prop where
 kind:sc.kind=.function
 co:sc.isCoroutine=false
 gen:sc.isGenerator=false
 nd:N.Nodup
 pre:N.take P.length=P
 par:∀ x∈P,sc.names.lookup x=some .local\/sc.names.lookup x=some .cell
 GH:∀ y∈sc.names,y.2≠.free
theorem rY{kindOf:Str->Option NameKind}{x:Str}:∀ {binds:List (Str×Value)} {m:Str->Option Value},(∀ v,(x,v) ∉ binds)->bindL kindOf binds m x=m x
 | [],_,_=>rfl
 | (n,v)::r,m,h=>by
  unfold bindL;rw[rY λw hw=>h w (Tf _ hw)]
  split
  .have:x≠n:=by rintro rfl;exact h v Tp
   simp[this]
  .rfl
theorem rE{kindOf:Str->Option NameKind}{x:Str}:∀ {binds:List (Str×Value)} {m:Str->Option Value},(∀ v,(x,v) ∉ binds)->bindC kindOf binds m x=m x
 | [],_,_=>rfl
 | (n,v)::r,m,h=>by
  unfold bindC;rw[rE λw hw=>h w (Tf _ hw)]
  split
  .rfl
  .have:x≠n:=by rintro rfl;exact h v Tp
   simp[this]
theorem sF{kindOf:Str->Option NameKind}{x:Str}{v:Value}:∀ {P:List Str} {vs:List Value} {i:Nat} {m:Str->Option Value},P.Nodup->P[i]?=some x->vs[i]?=some v->kindOf x=some .local ->
  bindL kindOf (P.zip vs) m x=some v
 | [],_,_,_,_,h,_,_=>by simp at h
 | _::_,[],_,_,_,_,h,_=>by simp at h
 | p::P,w::vs,0,m,nd,h1,h2,hk=>by
  simp at h1 h2;subst h1;subst h2;show bindL kindOf ((p,w)::P.zip vs) m p=_;unfold bindL;rw[rY λv hv=>(Xj.mp nd).1 (UO hv).1,if_pos hk];simp
 | p::P,w::vs,i+1,m,nd,h1,h2,hk=>by
  show bindL kindOf ((p,w)::P.zip vs) m x=_;unfold bindL;exact sF (i:=i) (Xj.mp nd).2 (by simpa using h1) (by simpa using h2) hk
theorem rG{kindOf:Str->Option NameKind}{x:Str}{v:Value}:∀ {P:List Str} {vs:List Value} {i:Nat} {m:Str->Option Value},P.Nodup->P[i]?=some x->vs[i]?=some v->kindOf x≠some .local ->
  bindC kindOf (P.zip vs) m x=some v
 | [],_,_,_,_,h,_,_=>by simp at h
 | _::_,[],_,_,_,_,h,_=>by simp at h
 | p::P,w::vs,0,m,nd,h1,h2,hk=>by
  simp at h1 h2;subst h1;subst h2;show bindC kindOf ((p,w)::P.zip vs) m p=_;unfold bindC;rw[rE λv hv=>(Xj.mp nd).1 (UO hv).1,if_neg hk];simp
 | p::P,w::vs,i+1,m,nd,h1,h2,hk=>by
  show bindC kindOf ((p,w)::P.zip vs) m x=_;unfold bindC;exact rG (i:=i) (Xj.mp nd).2 (by simpa using h1) (by simpa using h2) hk
def start(N:List Str)(vs:List V):St:=vs.map some++SS (N.length-vs.length) none
def lF(CX:JL)(P:Program)(w:World)(K:PySem.W.Frag)(mg:Str->Option Value)(base:Heap)(N:List Str)(qual:Str)(scope:Scope)(f:Addr)(cd:Value)(A:Around)(outer:List Env)(s:Shared)(H:Hp)(E:XK):Cx where
 prog:=P
 w:=w
 K:=K
 mg:=mg
 base:=base
 A:=A.deeper (envOfC qual scope s.heap.objs.size f cd)
 N:=N
 s₀:=s
 H₀:=H
 env:=envOfC qual scope s.heap.objs.size f cd
 outer:=outer
 stack:=envOfC qual scope s.heap.objs.size f cd::outer
 ex:=[]
 calm:=true
 fn:=λ_=>true
 pn:=[]
 xe:=λe s'=>wpAny (model P w) (A.deeper (envOfC qual scope s.heap.objs.size f cd)) (leaving (envOfC qual scope s.heap.objs.size f cd) e) (λ_ s''=>CX outer H s E e s'') (λe' s''=>CX outer H s E e' s'') s'
theorem uT{sc:Scope}(h:sc.names.lookup x=some .cell):∃ c,(cellsFrom n sc.names []).lookup x=some c:=by
 have q:=PySem.W.cellsFrom_some sc.names n [] (.inl h);exact WD.mp q
variable{scope:Scope}
theorem yQ{K:PySem.W.Frag}{qual:Str}{f:Addr}{cd:Value}{s1:Shared}{E:XK}{vs:List V}
  (S:cH N ps scope) (hd:A.handled=none) (e0:wu P w K mg base A outer s H) (hl:vs.length=ps.length) (r:Vals vs us)
  (x:InCallC s s.heap.objs.size (bindL (envOfC qual scope s.heap.objs.size f cd).kindOf (ps.zip us) λ_=>none) (cellsFrom (s.heap.objs.size+1) scope.names []) (bindC (envOfC qual scope s.heap.objs.size f cd).kindOf (ps.zip us) λ_=>none) s1) :
  Inv (lF CX P w K mg base N qual scope f cd A outer s H E) [] (start N vs) H s1:=by
 have OH:ps.length<=N.length:=by have:=congrArg Va S.pre;rw[Wr] at this;lia
 obtain⟨h1,tk,rfl,hk⟩:=x.done;have xf:∀ b:Addr,b ∉ (lF CX P w K mg base N qual scope f cd A outer s H E).ex:=λb z=>absurd (show b∈([]:List Addr) from z) (by simp);refine⟨⟨e0.mod,S.kind,rfl,rfl,SX _,λy z c h1 h2=>?_,λy hy=>?_,λy c _ h=>?_,λ_=>hd,Around.frames_deeper e0.frames,.inr ⟨rfl,rfl⟩,λb z=>absurd z (xf b),e0.bs,e0.Dr,λb _ _=>xf b,λb z=>absurd z (xf b),e0.kO,e0.DI⟩,
  rfl,e0.bare,Un.kept hk,⟨_,x.toInCall.ns,λi y v h1 h2 h3=>?_⟩,λy c h=>⟨_,x.cell y c h⟩,e0.bB.fresh (SX _),λy c h=>?_,λp hp=>absurd (show p∈([]:List (Addr×Obj)) from hp) (by simp),e0.bB.kept hk,?_⟩
 .exact name_of_addr x.apart (PySem.mem_of_lookup h1) (PySem.mem_of_lookup h2)
 .have hy:scope.names.lookup y=some .cell\/scope.names.lookup y=some .free:=hy;rcases hy with hy | hy
  .exact uT hy
  .exact absurd rfl (S.GH _ (PySem.mem_of_lookup hy))
 .exact VS (x.above y c (PySem.mem_of_lookup h))
 .have hi:i<vs.length:=by
   unfold start at h2
   by_cases hi:i<vs.length
   .exact hi
   .rw[Tj (by simpa using hi)] at h2;rw[UK] at h2
    split at h2 <;> cases h2
  have ha:vs[i]?=some v:=by
   unfold start at h2;rw[TH (by simpa using hi),Tr] at h2;cases e:vs[i]? with
   | none=>rw[e] at h2;cases h2
   | some a=>rw[e] at h2;cases h2;rfl
  obtain⟨u,hu,rv⟩:=r.get ha;have hp:ps[i]?=some y:=by
   rw[<- S.pre,List.getElem?_take_of_lt (by lia)];exact h1
  have ndP:ps.Nodup:=by rw[<- S.pre];exact S.nd.sublist (List.take_sublist _ _)
  refine⟨u,rv,?_⟩;rcases S.par y (List.mem_of_getElem? hp) with k | k
  .exact .inl ⟨k,sF ndP hp hu k⟩
  .obtain⟨c,e⟩:=uT (n:=s.heap.objs.size+1) k;refine .inr ⟨.inl k,c,e,?_⟩;have q:=x.cell y c e;rw[rG ndP hp hu (by show scope.names.lookup y≠_;rw[k];decide)] at q;exact q
 .exact e0.bB.fresh (VS (x.above y c (PySem.mem_of_lookup h)))
 .unfold start;show _=N.length;rw[TM,S0,W3];lia
theorem K8{K:PySem.W.Frag}{f:Addr}{name qual:Str}{params:Arguments}{dV kV doc pm Ox ct oc:Value}{an od:Option Addr}
  {Rf:Array (Option Value)} (lk:K.lookup f=some ⟨oc,od,.func (PySem.W.fnOf name qual params body scope dV kV doc pm an Ox ct),Rf⟩) (Pc:PySem.W.codeIn K Ox qual=true) (S:cH N ps scope)
  (len:∀ vs H Q E,sp vs H Q E->vs.length=ps.length)
  (QT:∀ (A:Around) (outer:List Env) (s:Shared) (H:Hp) (vs:List V) (Q:VK) (E:XK),cA k (A.deeper (envOfC qual scope s.heap.objs.size f Ox))->sp vs H Q E ->
   ∃ t,kN (lF CX P w K mg base N qual scope f Ox A outer s H E) body t/\t { nx:=λ_ H'=>Q .cJ H',rt:=Q } (start N vs) H) :
  aY P w K mg base CX (k+1) f (PySem.W.fnOf name qual params body scope dV kV doc pm an Ox ct) ps sp:=by
 refine⟨len,λA outer s H args us vs Q E hr e0 hb r hsp=>?_⟩;have hl:=len _ _ _ _ hsp;have KX:K.In s.heap:=e0.mod.Gb.keeps λb o e=>(e0.bs b o e).1;have lim:s.heap.NoLimit:=e0.mod.nolimit.keeps λb o e=>(e0.bs b o e).1;have So:∀ y∈ps.zip us,scope.names.lookup y.1=some .local\/(scope.names.lookup y.1=some .cell/\((cellsFrom (s.heap.objs.size+1) scope.names []).lookup y.1).isSome=true):=λ⟨n,v⟩ hy=>by
  rcases S.par n (UO hy).1 with q | q
  .exact .inl q
  .exact .inr ⟨q,PySem.W.cellsFrom_some _ _ _ (.inl q)⟩
 refine codeAny_call_function hr.depth (KX _ _ lk) rfl S.co S.gen rfl (PySem.W.codeRec_of KX Pc) (hb _ _ _ _ ?_);refine wpAny_newFunctionEnv_cells S.kind So λenv he s1 x=>?_;subst he;refine⟨lim.keeps x.toInCall.keep,codeAny_func ?_⟩;obtain⟨t,ht,hq⟩:=QT A outer s H vs Q E (hr.deeper _) hsp;have I:Inv (lF CX P w K mg base N qual scope f Ox A outer s H E) [] (start N vs) H s1:=yQ S hr.hd e0 hl r x;refine UU (ht [] s1 (start N vs) H _ I hq) (λfl s' hs=>?_) λe s' hs=>hs;have fin:∀ {σ':St} {H':Hp} {v:V} {u:Value},Inv (lF CX P w K mg base N qual scope f Ox A outer s H E) [] σ' H' s'->RelV v u->Q v H'->CE outer P w H s Q u s' :=
  λ{σ' H' v u} J rv q=>⟨v,H',J.os,J.bare,J.base,J.bB,rv,q⟩
 cases fl with
 | ret u =>
  obtain⟨v,σ',H',J,rv,q⟩:=hs;exact fin J rv q
 | next =>
  obtain⟨σ',H',J,q⟩:=hs;exact fin (v:=V.cJ) (u:=Um) J rfl q
 | brk =>
  obtain⟨_,_,_,q⟩:=hs;exact U8 q
 | cont =>
  obtain⟨_,_,_,q⟩:=hs;exact U8 q
section
variable{pos:Pos}{id T:String}{r:List V->Hp->VK->Prop}
def MF(r:List V->Hp->VK->Prop)(t:TA):TE:=fun σ H Q=>t σ H λvs H1=>r vs H1 Q
theorem pO(hc:dw X (.builtin id) r)(hg:Gl X x)(hm:X.mg x=none)(hv:bootBuiltins x=some (.builtin id))(ha:PA X (e::es) t)(hn:autoParam (x ≠ "__name__") aD._auto_1)(Pa:autoParam ((x==("__debug__" : Str))=false) aD._auto_1)
  (he:autoParam (starEach (e::es) X.env=(false,eval e X.env)::starEach es X.env) aR._auto_1) (OH:autoParam ((backTo pos (starEach es X.env)).any (·.1)=false) aR._auto_1):PE X (.Call (.Name x p) (e::es) [] pos) (MF r t):=by
 intro N5 s σ H Q I h;refine VE (i8 I hg hm hv ?_ hn Pa);exact PyProof.Rows.callWith_builtin1 (cX (ha pos N5 s σ H _ I h) λus s1 ⟨vs,H1,I1,r1,q1⟩=>hc N5 s1 σ H1 vs us Q I1 r1 q1) he OH
theorem sy(hc:dw X (.type T) r)(hg:Gl X x)(hm:X.mg x=none)(hv:bootBuiltins x=some (.type T))(ha:PA X (e::es) t)(hn:autoParam (x ≠ "__name__") aD._auto_1)(Pa:autoParam ((x==("__debug__" : Str))=false) aD._auto_1)
  (he:autoParam (starEach (e::es) X.env=(false,eval e X.env)::starEach es X.env) aR._auto_1) (OH:autoParam ((backTo pos (starEach es X.env)).any (·.1)=false) aR._auto_1):PE X (.Call (.Name x p) (e::es) [] pos) (MF r t):=by
 intro N5 s σ H Q I h;refine VE (i8 I hg hm hv ?_ hn Pa);exact Ux (cX (ha pos N5 s σ H _ I h) λus s1 ⟨vs,H1,I1,r1,q1⟩=>hc N5 s1 σ H1 vs us Q I1 r1 q1) he OH
end
end L2
namespace HT
open PySem PyProof.Rows
def lexLt:List Int->List Int->Bool
 | [],[]=>false
 | [],_::_=>true
 | _::_,[]=>false
 | x::xs,y::ys=>if x=y then lexLt xs ys else decide (x<y)
theorem dJ(x y:Int)(xs ys:List Int):lexLt (x::xs) (y::ys)=if x=y then lexLt xs ys else decide (x<y):=rfl
theorem rm:lexLt [] []=false:=rfl
theorem pK(y:Int)(ys:List Int):lexLt [] (y::ys)=true:=rfl
theorem pX(x:Int)(xs:List Int):lexLt (x::xs) []=false:=rfl
theorem vB(A:Around)(s:Shared)(a:Int)(t:Tok)(c:Int)(u:Tok):∃ e,SeqAt.EqAt A s (.int a t) (.int c u) e/\(e=true ↔ a=c) :=
 ⟨(a==c),SeqAt.EqAt.int_int a t c u,by simp⟩
theorem v7(A:Around)(s:Shared)(a:Int)(t:Tok)(c:Int)(u:Tok)(prog:Program)(w:World)(E:Value->Shared->Prop)(Q:Value->Shared->Prop)(h:Q (.bool (decide (a<c))) s) :
  wpAny (model prog w) A (richCompare .Lt (.int a t) (.int c u)) Q E s :=
 (PyProof.Rows.lt_int h:wpAny (model prog w) A (compareOp .Lt (.int a t) (.int c u)) Q E s)
section
open PySem.SeqAt
open PySem.AutoSeq1 (wpAny_loadPart')
open PySem.MeetsSeq PySem.MeetsSeq2 PySem.MeetsSeq3
theorem qK(l b:Addr)(items OJ:Array Value)(n n2:Nat)(dd Rn:Option Addr)(sl RG:Array (Option Value))(ns ms:List Int)(hi:IntsAre items.toList ns)(hj:IntsAre OJ.toList ms) :
  Meets (Builtin.«tuple.__lt__» ⟨[.ref l,.ref b],[]⟩)
   (λ_ R s=>s.heap.get? l=some { cls:=.type "tuple", dict:=dd,data:=.seq items n,slots:=sl }/\s.heap.get? b=some { cls:=.type "tuple", dict:=Rn,data:=.seq OJ n2,slots:=RG } ∧
    R (.ok (.ret (.bool (lexLt ns ms)))) s) :=
 .of_wp λprog w A R s h=>by
  obtain⟨hp,g,d,tk,os⟩:=s;obtain⟨hl,hb,h⟩:=h;have f2:=VV;have z1:items.size=ns.length:=by rw[<- hi.length];simp
  have z2:OJ.size=ms.length:=by rw[<- hj.length];simp
  wp_walk using V9 hl,V9 hb,wpAny_forIn_list _ (λrest b s'=>b.1=none/\s'=⟨hp,g,d,tk,os⟩/\∃ (vs ws:List Value) (QQ QP:List Int),rest=vs.zip ws ∧
   IntsAre vs QQ/\IntsAre ws QP/\QQ.length+OJ.size=QP.length+items.size/\R (.ok (.ret (.bool (lexLt QQ QP)))) ⟨hp,g,d,tk,os⟩) _
  case turn =>
   rintro⟨y,x⟩ rest b s' ⟨hb',rfl,vs,ws,QQ,QP,hz,hvi,hwi,hlen,hR⟩;cases hvi with
   | nil=>rw[WM] at hz;cases hz
   | cons a t hvi' =>
    cases hwi with
    | nil=>rw[Zn] at hz;cases hz
    | cons c u hwi' =>
     rw[Uw] at hz;injection hz with hyx vS
     injection hyx with hy hx
     subst hy hx;rw[dJ] at hR;simp only[T5] at hlen;obtain⟨e,he,QZ⟩:=vB A.in1 ⟨hp,g,d,tk,os⟩ a t c u;refine RM (he prog w _ _ ?_);cases e with
     | true =>
      rw[if_pos (QZ.mp rfl)] at hR
      wp_walk
      exact⟨rfl,rfl,_,_,_,_,vS,hvi',hwi',by lia,hR⟩
     | false =>
      rw[if_neg (λq=>absurd (QZ.mpr q) Uh)] at hR;have hri:=v7 A.in1 ⟨hp,g,d,tk,os⟩ a t c u prog w
      wp_walk using hri
      exact⟨_,rfl,by simpa using hR⟩
  case fin =>
   rintro⟨b1,b2⟩ s' ⟨hb',rfl,vs,ws,QQ,QP,hz,hvi,hwi,hlen,hR⟩;simp only at hb';subst hb';have hv:lexLt QQ QP=decide (items.size<OJ.size):=by
    cases hvi with
    | nil =>
     cases hwi with
     | nil =>
      simp only[V_] at hlen;rw[rm];exact(decide_eq_false (by lia)).symm
     | cons c u hw =>
      simp only[V_,T5] at hlen;rw[pK];exact(decide_eq_true (by lia)).symm
    | cons a t hv =>
     cases hwi with
     | nil =>
      simp only[V_,T5] at hlen;rw[pX];exact(decide_eq_false (by lia)).symm
     | cons c u hw =>
      rw[Uw] at hz;cases hz
   rw[hv] at hR
   wp_walk
   exact⟨_,rfl,by simpa [Builtin.Tuple.tupleCompareSizes] using hR⟩
  case h =>
   exact⟨rfl,rfl,items.toList,OJ.toList,ns,ms,rfl,hi,hj,by lia,h⟩
end
variable{Q:Value->Shared->Prop}{items:Array Value}
section
variable{prog:Program}{w:World}{A:Around}{E:Value->Shared->Prop}{s:Shared}
theorem wz{l b:Addr}{OJ:Array Value}{ns ms:List Int}(hl:IsTup s.heap l items)(hb:IsTup s.heap b OJ)(hi:IntsAre items.toList ns)(hj:IntsAre OJ.toList ms)
  (hu:A.units<cLine) (h:Q (.bool (lexLt ns ms)) s):wpAny (model prog w) A (compareOp .Lt (.ref l) (.ref b)) Q E s:=by
 obtain⟨⟨cls,dd,data,sl⟩,ho,hc,n,hd⟩:=id hl;obtain⟨⟨R3,Rn,data2,RG⟩,Qn,QN,n2,hd2⟩:=id hb;simp only at hc hd QN hd2;subst hc hd QN hd2;exact richCompare_meets_room (op:=.Lt) ⟨_,ho,rfl⟩ ⟨_,Qn,rfl⟩ PySem.F.slot_tuple_lt PySem.F.entry_tuple_lt (PySem.F.args_tuple_lt_2 _ _) (qK l b items OJ n n2 dd Rn sl RG ns ms hi hj)
  ⟨ho,Qn,show Vv (lexLt ns ms)≠YW/\Q (.bool (lexLt ns ms)) s from ⟨(λx=>nomatch x),h⟩⟩ hu
theorem Ex{t b:Addr}{vs ws:List Value}(ht:IsTup s.heap t vs.toArray)(hb:IsTup s.heap b ws.toArray)(hv:vs≠[])
  (h1:ws=[]->Q (.ref t) s) (h2:ws≠[]->Q (.ref s.heap.objs.size) { s with heap:=s.heap.push { cls:=.type "tuple", data:=.seq (vs++ws).toArray } })
  (Pd:vs.length+ws.length<=sizeLine):wpAny (model prog w) A (binaryOp .Add (.ref t) (.ref b)) Q E s:=by
 obtain⟨⟨cls,dd,data,sl⟩,ho,hc,n,hd⟩:=id ht;obtain⟨⟨R3,Rn,data2,RG⟩,Qn,QN,n2,hd2⟩:=id hb;simp only at hc hd QN hd2;subst hc hd QN hd2;have e:vs.toArray++ws.toArray=(vs++ws).toArray:=by simp
 by_cases hw:ws=[]
 .exact ZC ⟨_,ho,rfl⟩ ⟨_,Qn,rfl⟩ Yc Zd PySem.F.slot_tuple_add PySem.F.entry_tuple_add (PySem.F.args_tuple_add_2 _ _)
   (tuple_addW1 t b vs.toArray ws.toArray n n2 dd Rn sl RG (by simpa using hv) (by simp[hw])) ⟨ho,Qn,h1 hw⟩
 .refine ZC ⟨_,ho,rfl⟩ ⟨_,Qn,rfl⟩ Yc Zd PySem.F.slot_tuple_add PySem.F.entry_tuple_add (PySem.F.args_tuple_add_2 _ _)
   (tuple_addW2 t b vs.toArray ws.toArray n n2 dd Rn sl RG (by simpa using hv) (by simpa using hw) (by rw[Tc,Tc];exact Pd)) ⟨ho,Qn,?_⟩
  rw[e];exact h2 hw
def de(n d:Nat):Option Int->Nat
 | none=>d
 | some v=>if v<0 then (v+(n:Int)).toNat else min v.toNat n
theorem vN(n d:Nat):de n d none=d:=rfl
theorem tN(n d k:Nat):de n d (some (k:Int))=min k n:=by
 show (if (k:Int)<0 then ((k:Int)+(n:Int)).toNat else min (k:Int).toNat n)=min k n;rw[if_neg (by lia),TR]
theorem Ih(n d:Nat)(hd:d<=n)(o:Option Int):de n d o<=n:=by
 cases o with
 | none=>exact hd
 | some v =>
  show (if v<0 then (v+(n:Int)).toNat else min v.toNat n)<=n
  by_cases hv:v<0
  .rw[if_pos hv];lia
  .rw[if_neg hv];exact Yd _ _
theorem yh(v:Int)(n d:Nat):(if v<0 then max (v+(n:Int)) 0 else min v (n:Int))=((de n d (some v):Nat):Int):=by
 show (if v<0 then max (v+(n:Int)) 0 else min v (n:Int))=(((if v<0 then (v+(n:Int)).toNat else min v.toNat n):Nat):Int)
 by_cases hv:v<0
 .simp only[if_pos hv];lia
 .simp only[if_neg hv];lia
theorem w8(lo hi:Option Int)(n:Nat):Ww lo hi 1 (n:Int)=(((de n 0 lo:Nat):Int),((de n n hi:Nat):Int)):=by
 have h1:¬ ((1:Int)<0):=by lia
 unfold Ww;simp only[h1,if_false];refine Prod.ext ?_ ?_
 .cases lo with
  | none=>rfl
  | some v=>exact yh v n 0
 .cases hi with
  | none=>rfl
  | some v=>exact yh v n n
theorem wF(i j:Nat):VP (i:Int) (j:Int) 1=j-i:=by
 unfold VP;have h1:(1:Int)>0:=by lia
 simp only[h1,if_true,Int.ediv_one]
 split <;> lia
theorem qk{v:Value}{o:Option Int}{Q:Option Int->Shared->Prop}(p:IsPart v o)(h:Q o s):wpAny (model prog w) A (Builtin.Slice.slicePartIndex v) Q E s:=by
 cases p with
 | none=>exact slicePart_none h
 | int i t=>exact slicePart_int h
theorem i5{sl:Addr}{vl vu:Value}{lo hi:Option Int}{n:Nat}{Q:Int×Int×Nat->Shared->Prop}(hs:s.heap.IsSliceOf sl vl vu .none)(pl:IsPart vl lo)(pu:IsPart vu hi)
  (h:Q (((de n 0 lo:Nat):Int),1,de n n hi-de n 0 lo) s):wpAny (model prog w) A (XI (.ref sl) (pure (n:Int))) Q E s:=by
 obtain⟨os,RN,hcs,Se⟩:=id hs;unfold XI Builtin.Slice.sliceFields;refine RM (RM (TN RN Se (x:=vl) rfl (RM (TN RN Se (x:=vu) rfl (RM (TN RN Se (x:=.none) rfl (SY ?_)))))));refine RM (slicePart_none ?_);show wpAny _ _ (if ((1:Int)==0)=true then _ else _) _ _ s;rw[if_neg (by decide)];refine RM (qk pl (RM (qk pu (RM (SY ?_)))));show wpAny _ _ (match Ww lo hi 1 (n:Int) with | (lo,hi)=>pure (lo,(1:Int),VP lo hi 1)) _ _ s;rw[w8 lo hi n];show wpAny _ _ (pure (((de n 0 lo:Nat):Int),(1:Int),VP ((de n 0 lo:Nat):Int) ((de n n hi:Nat):Int) 1)) _ _ s;rw[wF];exact SY h
theorem AX(xs:Array Value)(i k:Nat):((Tg k).filterMap λ(m:Nat)=>xs[((i:Int)+(m:Int)*1).toNat]?).toArray=((xs.toList.drop i).take k).toArray:=by
 have e:(λ(m:Nat)=>xs[((i:Int)+(m:Int)*1).toNat]?)=λm=>xs[i+m]?:=by
  funext m
  have:((i:Int)+(m:Int)*1).toNat=i+m:=by lia
  rw[this]
 rw[e];have:=pick_run xs i k;rw[List.filterMap_map] at this;have e2:((λx=>xs[x]?)∘λx=>i+x)=λm=>xs[i+m]?:=rfl;rw[e2] at this;rw[this]
theorem lA{t sl:Addr}{vl vu:Value}{lo hi:Option Int}(ht:IsTup s.heap t items)(hs:s.heap.IsSliceOf sl vl vu .none)(pl:IsPart vl lo)(pu:IsPart vu hi)
  (hw:¬ (de items.size 0 lo=0/\de items.size items.size hi=items.size))
  (h:Q (.ref s.heap.objs.size) { s with heap:=s.heap.push { cls:=.type "tuple", data:=.seq ((items.toList.drop (de items.size 0 lo)).take (de items.size items.size hi-de items.size 0 lo)).toArray } })
  (Pd:items.size<=sizeLine):wpAny (model prog w) A (getItem (.ref t) (.ref sl)) Q E s:=by
 have QE:sizeOk (.seq ((items.toList.drop (de items.size 0 lo)).take (de items.size items.size hi-de items.size 0 lo)).toArray):=by
  show ((items.toList.drop (de items.size 0 lo)).take (de items.size items.size hi-de items.size 0 lo)).toArray.size<=sizeLine;rw[Tc,Wr,Uc,Us];lia
 have hj:de items.size items.size hi<=items.size:=Ih _ _ (SX _) hi;obtain⟨os,RN,hcs,Se⟩:=id hs;have hTs:s.TypeIs (.ref sl) "slice" := ⟨os,RN,hcs⟩
 unfold getItem
 try with_reducible refine U0 ?_
 first | refine RM (SY ?_) | skip
 refine RM (ZD ht.typeIs (by decide) ?_);refine RM (Ur (name:=T9 "__getitem__") ht.typeIs Uy
  (UQ Uy ht.typeIs Y_ ?_ (Zo _ _)))
 show wpAny _ _ (XJ (.ref t) >>= _) _ _ s;refine RM (tupleItemsOf_ ht ?_);refine RM (Yq hTs ?_);rw[if_pos (by decide)];refine RM (i5 hs pl pu ?_);have hno:¬ ((((de items.size 0 lo:Nat):Int)==0&&(1:Int)==1&&(de items.size items.size hi-de items.size 0 lo)==items.size)=true):=by
  intro q;rw[Ud,Ud] at q;have q1:((de items.size 0 lo:Nat):Int)=0:=eq_of_beq q.1.1;have q2:de items.size items.size hi-de items.size 0 lo=items.size:=eq_of_beq q.2;exact hw ⟨by lia,by lia⟩
 show wpAny _ _ (if (((de items.size 0 lo:Nat):Int)==0&&(1:Int)==1&&(de items.size items.size hi-de items.size 0 lo)==items.size)=true then _ else _) _ _ s;rw[if_neg hno,AX]
 first
  | exact RM (m:=VW _) (UX (SY ⟨_,rfl,SY h⟩) QE)
  | exact RM (m:=VW _) (UX (RM (SY (SY ⟨_,rfl,SY h⟩))) QE)
  | exact RM (RM (m:=VW _) (UX (SY (SY ⟨_,rfl,SY h⟩)) QE))
  | exact RM (RM (m:=VW _) (UX (SY ⟨_,rfl,SY h⟩) QE))
end
end HT
namespace L2
open PySem PySem.Spec PyProof.Rows
abbrev TO:=St->Hp->(Option Int->Hp->Prop)->Prop
def PO(X:Cx)(e:Option Expr)(t:TO):Prop :=
 ∀ (N5:List (Addr×Obj)) (s:Shared) (σ:St) (H:Hp) (Q:Option Int->Hp->Prop),Inv X N5 σ H s->t σ H Q ->
  wpAny (model X.prog X.w) X.A (evalPart e X.env) (λu s'=>∃ o H',Inv X N5 σ H' s'/\IsPart u o/\Q o H') X.xe s
def Fg:TO:=λ_ H Q=>Q none H
def J5(t:TE):TO:=fun σ H Q=>t σ H λx H1=>∃ i,x=.int i/\Q (some i) H1
theorem intsAre_of{ns:List Int}:∀ {us:List Value},Vals (ns.map V.int) us->IntsAre us ns:=by
 induction ns with
 | nil=>intro us r;rw[V6] at r;cases r;exact .nil
 | cons n ns ih =>
  intro us r;rw[Tw] at r;cases r with
  | cons r1 r2 =>
   obtain⟨t,e⟩:=r1;subst e;exact .cons n t (ih r2)
variable{e:Expr}{X:Cx}
variable{r:V->Option Int->Option Int->Hp->VK->Prop}
variable{xs:List V}
section
variable{te:TE}{lo hi:Option Expr}{tl th:TO}{pos p2:Pos}
theorem Eg:PO X none Fg:=by
 intro N5 s σ H Q I h;rw[evalPart_none];exact SY ⟨none,H,I,.none,h⟩
theorem EK(h:PE X e te):PO X (some e) (J5 te):=by
 intro N5 s σ H Q I hw;rw[evalPart_some];refine cX (h N5 s σ H _ I hw) λu s1 ⟨x,H1,I1,r1,q1⟩=>?_;obtain⟨i,rfl,q⟩:=q1;obtain⟨t,rfl⟩:=r1;exact⟨some i,H1,I1,.int i t,q⟩
def DH(X:Cx)(r:V->Option Int->Option Int->Hp->VK->Prop):Prop :=
 ∀ (N5:List (Addr×Obj)) (s:Shared) (σ:St) (H:Hp) (x:V) (v vl vu:Value) (lo hi:Option Int) (sl:Addr) (Q:VK),Inv X N5 σ H s->RelV x v->s.heap.IsSliceOf sl vl vu .none->IsPart vl lo->IsPart vu hi->r x lo hi H Q ->
  ∃ T id,typeLookup (.type T) "__getitem__" = pure (some (.builtin id))/\s.TypeIs v T/\wpAny (model X.prog X.w) X.A (getItem v (.ref sl)) (EP X N5 σ Q) X.xe s
theorem DH.or{r':V->Option Int->Option Int->Hp->VK->Prop}(h:DH X r)(h':DH X r'):DH X (λx lo hi H Q=>r x lo hi H Q\/r' x lo hi H Q):=by
 intro N5 s σ H x v vl vu lo hi sl Q I rx hs pl pu q;rcases q with q | q
 .exact h N5 s σ H x v vl vu lo hi sl Q I rx hs pl pu q
 .exact h' N5 s σ H x v vl vu lo hi sl Q I rx hs pl pu q
def NT(r:V->Option Int->Option Int->Hp->VK->Prop)(te:TE)(tl th:TO):TE:=fun σ H Q=>te σ H λx H1=>tl σ H1 λl H2=>th σ H2 λu H3=>r x l u H3 Q
theorem C9(hr:DH X r)(he:PE X e te)(hl:PO X lo tl)(hu:PO X hi th):PE X (.Subscript e (.Slice lo hi none p2) pos) (NT r te tl th):=by
 intro N5 s σ H Q I h;refine Subscript_ (cX (he N5 s σ H _ I h) λv s1 ⟨x,H1,I1,r1,q1⟩=>?_);refine wpAny_Slice (cX (hl N5 s1 σ H1 _ I1 q1) λvl s2 ⟨l,H2,I2,pl,q2⟩=>cX (hu N5 s2 σ H2 _ I2 q2) λvu s3 ⟨u,H3,I3,pu,q3⟩=>?_);rw[evalPart_none];refine SY ?_;have I4:Inv X N5 σ H3 { s3 with heap:=s3.heap.push { cls:=.type "slice", data:=.fields #[vl,vu,.none] } }:=I3.kept (t':=s3.toks) λb ob q=>SQ _ q;obtain⟨T,id,hT,ht,hg⟩:=hr N5 { s3 with heap:=s3.heap.push { cls:=.type "slice", data:=.fields #[vl,vu,.none] } } σ H3 x v vl vu l u s3.heap.objs.size Q I4 r1 (Heap.IsSliceOf.new ..) pl pu q3;show wpAny (model X.prog X.w) X.A (subscriptTail e (.Slice lo hi none p2) v (.ref s3.heap.objs.size)) (EP X N5 σ Q) X.xe { s3 with heap:=s3.heap.push { cls:=.type "slice", data:=.fields #[vl,vu,.none] } };exact tail_any (ops:=[.ref s3.heap.objs.size,v]) ht hT hg (by with_unfolding_all rfl)
def vk(xs:List V)(lo hi:Option Int):List V:=(xs.drop (HT.de xs.length 0 lo)).take (HT.de xs.length xs.length hi-HT.de xs.length 0 lo)
theorem mV(xs:List V)(lo hi:Option Int):(vk xs lo hi).length<=xs.length:=by
 unfold vk;rw[Wr,Uc];lia
def Nk(K:PySem.W.Frag):V->Option Int->Option Int->Hp->VK->Prop:=λx lo hi H Q=>∃ a xs,x=.ref a/\gi K H a xs ∧
 ¬ (HT.de xs.length 0 lo=0/\HT.de xs.length xs.length hi=xs.length)/\∀ p,H p=none->Q (.ref p) (upd H p (.tup (vk xs lo hi)))
theorem Hr:DH X (Nk X.K):=by
 intro N5 s σ H x v vl vu lo hi sl Q I rx hs pl pu h;obtain⟨a,xs,rfl,hx,hw,q⟩:=h;cases rx;obtain⟨N9,r,ht,hz⟩:=I.tuple hx;have hlen:N9.toArray.size=xs.length:=by rw[Tc];exact r.length.symm
 refine⟨"tuple", _,Uy.lookup,ht.typeIs,?_⟩;refine HT.lA ht hs pl pu (by rw[hlen];exact hw) ?_ (by rw[hlen];exact hz);rw[hlen];refine⟨.ref s.heap.objs.size,_,I.laid (t':=s.toks) (o:=.tup (vk xs lo hi)) (λb ob q=>SQ _ q) (SX _) ?_,rfl,q _ (I.bB.fresh (SX _))⟩;exact⟨TJ (mV xs lo hi) hz,_,(r.drop (HT.de xs.length 0 lo)).take (HT.de xs.length xs.length hi-HT.de xs.length 0 lo),Y9 _ _⟩
def HU(K:PySem.W.Frag):R2:=λx y H Q=>∃ a b ns ms,x=.ref a/\y=.ref b/\gi K H a (ns.map V.int)/\gi K H b (ms.map V.int)/\Q (.bl (HT.lexLt ns ms)) H
theorem G5(hu:X.A.units<cLine):hV X (compareOp .Lt) (HU X.K):=by
 intro N5 s σ H x y v u Q I rx ry h;obtain⟨a,b,ns,ms,rfl,rfl,ha,hb,q⟩:=h;cases rx;cases ry;obtain⟨N9,r1,p1,_⟩:=I.tuple ha;obtain⟨OV,r2,p2,_⟩:=I.tuple hb;have i1:IntsAre N9.toArray.toList ns:=intsAre_of r1;have i2:IntsAre OV.toArray.toList ms:=intsAre_of r2;exact HT.wz p1 p2 i1 i2 hu ⟨.bl (HT.lexLt ns ms),H,I,rfl,q⟩
def FY(K:PySem.W.Frag):R2:=λx y H Q=>∃ a b xs ys,x=.ref a/\y=.ref b/\gi K H a xs/\gi K H b ys/\xs≠[]/\xs.length+ys.length<=sizeLine ∧
 (ys=[]->Q (.ref a) H)/\(ys≠[]->∀ p,H p=none->Q (.ref p) (upd H p (.tup (xs++ys))))
theorem Vals.lW{us:List Value}(r:Vals xs us):us=[] ↔ xs=[]:=by
 cases r with
 | nil=>simp
 | cons _ _=>simp
theorem Er:hV X (binaryOp .Add) (FY X.K):=by
 intro N5 s σ H x y v u Q I rx ry h;obtain⟨a,b,xs,ys,rfl,rfl,ha,hb,hx,hz,q1,q2⟩:=h;cases rx;cases ry;obtain⟨N9,r1,p1,_⟩:=I.tuple ha;obtain⟨OV,r2,p2,_⟩:=I.tuple hb;refine HT.Ex p1 p2 (λz=>hx (r1.lW.mp z)) (λz=>⟨.ref a,H,I,rfl,q1 (r2.lW.mp z)⟩) (λz=>?_) (by rw[<- r1.length,<- r2.length];exact hz);refine⟨.ref s.heap.objs.size,_,I.laid (t':=s.toks) (o:=.tup (xs++ys)) (λb ob q=>SQ _ q) (SX _) ?_,rfl,q2 (λw=>z (r2.lW.mpr w)) _ (I.bB.fresh (SX _))⟩;exact⟨by rw[TM];exact hz,_,r1.append r2,Y9 _ _⟩
end
def yR(n:Nat)(i:Int):Option Nat:=if 0<=i then (if i<n then some i.toNat else none) else if -(n:Int)<=i then some (i+n).toNat else none
variable{α:Type}
def sN(xs:List α)(i:Int):Option α:=(yR xs.length i).bind λj=>xs[j]?
variable{j n:Nat}{i:Int}
theorem xY(h:yR n i=some j):seqIndex? i n=some j/\j<n/\-(n:Int)<=i/\i<n:=by
 unfold yR at h
 by_cases h0:0<=i
 .rw[if_pos h0] at h
  by_cases h1:i<n
  .rw[if_pos h1] at h;have e:i.toNat=j:=Ti h;exact⟨by rw[Z1 h0 h1,e],by lia,by lia,h1⟩
  .rw[if_neg h1] at h;cases h
 .rw[if_neg h0] at h
  by_cases h1:-(n:Int)<=i
  .rw[if_pos h1] at h;have e:(i+n).toNat=j:=Ti h;exact⟨by rw[ZE (by lia) h1,e],by lia,h1,by lia⟩
  .rw[if_neg h1] at h;cases h
theorem t_{xs:List α}{v:α}(h:sN xs i=some v):∃ j,seqIndex? i xs.length=some j/\xs[j]?=some v/\j<xs.length/\-(xs.length:Int)<=i/\i<xs.length:=by
 unfold sN at h;cases e:yR xs.length i with
 | none=>rw[e] at h;cases h
 | some j =>
  rw[e] at h;obtain⟨h1,h2,h3,h4⟩:=xY e;exact⟨j,h1,h,h2,h3,h4⟩
theorem uF{xs:List α}{v:α}(h:xs[j]?=some v):sN xs (j:Int)=some v:=by
 have hj:j<xs.length:=(Ut.mp h).1;have e:yR xs.length (j:Int)=some j:=by
  unfold yR;rw[if_pos (by lia),if_pos (by lia)];simp
 unfold sN;rw[e];exact h
def uG(b:Expr):Prop:=∀ o i,subscripted b false o i=operate [o,i] (getItem o i)
def Fi(X:Cx)(r:R2):Prop :=
 ∀ (value slice:Expr) (N5:List (Addr×Obj)) (s:Shared) (σ:St) (H:Hp) (x y:V) (v u:Value) (Q:VK),Inv X N5 σ H s->RelV x v->RelV y u->r x y H Q ->
  subscripted slice false v u=operate [v,u] (getItem v u)->wpAny (model X.prog X.w) X.A (subscriptTail value slice v u) (EP X N5 σ Q) X.xe s
def N0(X:Cx)(id:String)(r:V->List V->Hp->VK->Prop):Prop :=
 ∀ (N5:List (Addr×Obj)) (s:Shared) (σ:St) (H:Hp) (x:V) (xs:List V) (v:Value) (us:List Value) (Q:VK),Inv X N5 σ H s->RelV x v->Vals xs us->r x xs H Q ->
  wpAny (model X.prog X.w) X.A (call (.builtin id) (v::us)) (EP X N5 σ Q) X.xe s
variable{N9:List Value}{s:Shared}{H:Hp}{σ:St}{N5:List (Addr×Obj)}
section
variable{a b:Expr}{ta tb:TE}{pos:Pos}
theorem Fi.or{r r':R2}(h:Fi X r)(h':Fi X r'):Fi X (λx y H Q=>r x y H Q\/r' x y H Q):=by
 intro value slice N5 s σ H x y v u Q I rx ry q hs;rcases q with q | q
 .exact h value slice N5 s σ H x y v u Q I rx ry q hs
 .exact h' value slice N5 s σ H x y v u Q I rx ry q hs
theorem Kg{r:R2}(hr:Fi X r)(ha:PE X a ta)(hb:PE X b tb)(hs:uG b):PE X (.Subscript a b pos) (Kc r ta tb):=by
 intro N5 s σ H Q I h;exact Subscript_ (Hh ha hb I h λv u s2 x y H2 I2 rx ry q=>hr a b N5 s2 σ H2 x y v u Q I2 rx ry q (hs _ _))
def K6(K:PySem.W.Frag):R2:=λx y H Q=>∃ p xs i v,x=.ref p/\y=.int i/\iB K H p xs/\sN xs i=some v/\Q v H
def KC(K:PySem.W.Frag):R2:=λx y H Q=>∃ p xs i v,x=.ref p/\y=.int i/\gi K H p xs/\sN xs i=some v/\Q v H
def Lg:R2:=λx y H Q=>∃ z i c,x=.str z/\y=.int i/\z.length<=sizeLine/\sN z.cps.toList i=some c/\Q (.str ⟨#[c]⟩) H
theorem FG:Fi X (K6 X.K):=by
 intro value slice N5 s σ H x y v u Q I rx ry h hs;obtain⟨p,xs,i,z,rfl,rfl,hq,he,q⟩:=h;cases rx;obtain⟨t,rfl⟩:=ry;obtain⟨N9,r,pl,hz⟩:=I.list hq;obtain⟨j,h1,h2,h3,h4,h5⟩:=t_ he;obtain⟨w,ew,PX⟩:=r.get h2;have hl:=r.length;have hn:=mM;have fin:EP X N5 σ Q w s:=⟨z,H,I,PX,q⟩
 by_cases h0:0<=i
 .have hj:i.toNat=j:=by
   rw[Z1 h0 h5] at h1;exact Ti h1
  exact item_listR pl.isList h0 (by lia) (by rw[hj];simpa using ew) fin hs
 .have hj:(i+(N9.toArray.size:Int)).toNat=j:=by
   rw[ZE (by lia) h4] at h1;rw[Tc,<- hl];exact Ti h1
  exact Yr (x:=w) pl.isList.typeIs ZF.lookup
   (wpAny_getItem_list_neg (Q:=λr s'=>r=w/\EP X N5 σ Q r s') pl.isList (by lia) (by rw[Tc] <;> lia) (by lia) (by rw[hj];simpa using ew) ⟨rfl,fin⟩) hs
theorem HR:Fi X (KC X.K):=by
 intro value slice N5 s σ H x y v u Q I rx ry h hs;obtain⟨p,xs,i,z,rfl,rfl,hq,he,q⟩:=h;cases rx;obtain⟨t,rfl⟩:=ry;obtain⟨N9,r,pl,hz⟩:=I.tuple hq;obtain⟨j,h1,h2,h3,h4,h5⟩:=t_ he;obtain⟨w,ew,PX⟩:=r.get h2;have hl:=r.length;have hn:=mM;have fin:EP X N5 σ Q w s:=⟨z,H,I,PX,q⟩
 exact Yr (x:=w) pl.typeIs slot_tuple_getitem.lookup
  (getItem_tuple (j:=j) (Q:=λr s'=>r=w/\EP X N5 σ Q r s') pl (by lia) (by lia) (by rw[Tc,<- hl];exact h1) (by simpa using ew) ⟨rfl,fin⟩) hs
theorem HS:Fi X Lg:=by
 intro value slice N5 s σ H x y v u Q I rx ry h hs;obtain⟨z,i,c,rfl,rfl,hz,he,q⟩:=h;obtain⟨t,rfl⟩:=rx;obtain⟨t',rfl⟩:=ry;obtain⟨j,h1,h2,h3,h4,h5⟩:=t_ he;have hl:z.cps.toList.length=z.length:=by simp[Str.length]
 rw[hl] at h1 h4 h5;have hn:=mM;exact tail_any (typeIs_str s z t) slot_str_getitem.lookup (getItem_str (c:=c) (by
  have e1:decide (i < -(2^63:Int))=false:=decide_eq_false (by lia);have e2:decide (i>=2^63)=false:=decide_eq_false (by lia);rw[e1,e2,Bool.or_false]) (by rw[h1];simpa using h2) ⟨.str ⟨#[c]⟩,H,I.tok _,⟨_,rfl⟩,q⟩) hs
def Nu(K:PySem.W.Frag):R2:=λx y H Q=>K6 K x y H Q\/KC K x y H Q\/Lg x y H Q
theorem IP:Fi X (Nu X.K):=FG.or (HR.or HS)
theorem wO(N9:List Value)(n j:Nat)(u:Value):VX (·.setIfInBounds j u) { cls:=.type "list", data:=.seq N9.toArray n }={ cls:=.type "list", data:=.seq (N9.set j u).toArray n }:=by
 simp[VX]
theorem Inv.lst{N5:List (Addr×Obj)}{σ:St}{H:Hp}{s:Shared}{p:Addr}{xs:List V}(I:Inv X N5 σ H s)(h:H p=some (.lst xs)) :
  ∃ (N9:List Value) (n:Nat),Vals xs N9/\s.heap.get? p=some { cls:=.type "list", data:=.seq N9.toArray n }/\xs.length<=sizeLine:=by
 obtain⟨z,N9,n,r,e⟩:=I.bB p _ h;exact⟨N9,n,r,e,z⟩
theorem Inv.Js{p:Addr}{ys:List V}{its':List Value}{n':Nat}{f:Obj->Obj}(I:Inv X N5 σ H s)(h:H p=some (.lst xs))
  (ho:s.heap.get? p=some { cls:=.type "list", data:=.seq N9.toArray n }) (hf:f { cls:=.type "list", data:=.seq N9.toArray n }={ cls:=.type "list", data:=.seq its'.toArray n' }) (r:Vals ys its') (hz:ys.length<=sizeLine) (t:Nat) :
  Inv X N5 σ (upd H p (.lst ys)) { s with heap:=s.heap.update p f,toks:=t }:=by
 have e:(s.heap.update p f).get? p=some { cls:=.type "list", data:=.seq its'.toArray n' }:=by
  rw[UZ f ho (by rw[hf] <;> rfl),hf]
 refine I.write (x:=p) (e:=p) (by rw[h];trivial) (.inl rfl) (λb u hb q=>(Uk _ _ (Vb hb)).trans q) ⟨_,e⟩ ?_;exact⟨hz,its',n',r,e⟩
def Ka:V->V->V->Hp->(Hp->Prop)->Prop:=λo i v H Q=>∃ p xs k j,o=.ref p/\i=.int k/\H p=some (.lst xs)/\yR xs.length k=some j/\Q (upd H p (.lst (xs.set j v)))
theorem set_list:J_ X Ka:=by
 intro N5 s σ H o i v ov iv u Q I ro ri rv h;obtain⟨p,xs,k,j,rfl,rfl,hp,hj,q⟩:=h;cases ro;obtain⟨t,rfl⟩:=ri;obtain⟨N9,n,r,ho,hz⟩:=I.lst hp;obtain⟨h1,h2,h3,h4⟩:=xY hj;have hl:=r.length;have hn:=mM;have I':Inv X N5 σ (upd H p (.lst (xs.set j v))) { s with heap:=s.heap.update p (VX (·.setIfInBounds j u)) } :=
  I.Js hp ho (wO N9 n j u) (r.set rv j) (by rw[UH];exact hz) s.toks
 by_cases h0:0<=k
 .have hk:k.toNat=j:=by
   rw[Z1 h0 h4] at h1;exact Ti h1
  exact PySem.W.ki_setAt ho h0 (by lia) (by rw[Tc,<- hl];exact h4) (by rw[hk];exact⟨_,I',q⟩)
 .have hk:(k+(N9.toArray.size:Int)).toNat=j:=by
   rw[ZE (by lia) h3] at h1;rw[Tc,<- hl];exact Ti h1
  exact PySem.W.ki_setBack ho (by lia) (by rw[Tc,<- hl];exact h3) (by lia) (by rw[hk];exact⟨_,I',q⟩)
theorem uk(lo hi:Option Int)(n:Nat):(sliceBounds lo hi none n).1=((HT.de n 0 lo:Nat):Int)/\(sliceBounds lo hi none n).2.1=((HT.de n n hi:Nat):Int)/\(sliceBounds lo hi none n).2.2=1:=by
 refine⟨?_,?_,rfl⟩
 .cases lo with
  | none=>simp[sliceBounds,HT.de]
  | some i =>
   simp only[sliceBounds,HT.de,ZR,show (1:Int)>0 by decide,if_true]
   by_cases h:i<0
   .simp only[h,if_true] <;> lia
   .simp only[h,if_false] <;> lia
 .cases hi with
  | none=>simp[sliceBounds,HT.de]
  | some i =>
   simp only[sliceBounds,HT.de,ZR,show (1:Int)>0 by decide,if_true]
   by_cases h:i<0
   .simp only[h,if_true] <;> lia
   .simp only[h,if_false] <;> lia
theorem qI(N9:List Value)(lo hi:Option Int):slicePick N9.toArray lo hi none=((N9.drop (HT.de N9.length 0 lo)).take (HT.de N9.length N9.length hi-HT.de N9.length 0 lo)).toArray:=by
 obtain⟨h1,h2,h3⟩:=uk lo hi N9.toArray.size;unfold slicePick;rw[h1,h2,h3];simp only[sliceRange_one,pick_run,Tc] <;> rfl
def Mq(K:PySem.W.Frag):V->Option Int->Option Int->Hp->VK->Prop:=λx lo hi H Q=>∃ a xs,x=.ref a/\iB K H a xs/\∀ p,H p=none->Q (.ref p) (upd H p (.lst (vk xs lo hi)))
theorem Ef:DH X (Mq X.K):=by
 intro N5 s σ H x v vl vu lo hi sl Q I rx hs pl pu h;obtain⟨a,xs,rfl,hx,q⟩:=h;cases rx;obtain⟨N9,r,ht,hz⟩:=I.list hx;have hlen:=r.length;refine⟨"list", _,ZF.lookup,ht.isList.typeIs,?_⟩;refine wpAny_getItem_list_slice ht.isList hs pl pu .none (by simp) ?_ (by rw[Tc] <;> lia);rw[qI,<- hlen];refine⟨.ref s.heap.objs.size,_,I.laid (t':=s.toks) (o:=.lst (vk xs lo hi)) (λb ob q=>SQ _ q) (SX _) ?_,rfl,q _ (I.bB.fresh (SX _))⟩;exact⟨TJ (mV xs lo hi) hz,_,0,(r.drop (HT.de xs.length 0 lo)).take (HT.de xs.length xs.length hi-HT.de xs.length 0 lo),S2 _ rfl⟩
theorem s_:dw X (.builtin "len") (λxs H Q=>∃ p ys,xs=[.ref p]/\(iB X.K H p ys\/gi X.K H p ys)/\Q (.int ys.length) H):=by
 intro N5 s σ H xs us Q I r h;obtain⟨p,ys,rfl,hq,q⟩:=h;obtain⟨u,rfl,rx⟩:=vals1 r;cases rx;have hn:=mM;rcases hq with hq | hq
 .obtain⟨N9,r',pl,hz⟩:=I.list hq;have hlen:=r'.length;exact Calls.call_len_list pl.isList (by simp only[Tc] <;> lia) ⟨.int ys.length,H,I.tok _,⟨s.toks+1,by rw[Tc,hlen]⟩,q⟩
 .obtain⟨N9,r',pl,hz⟩:=I.tuple hq;have hlen:=r'.length;exact len_tuple pl (by simp only[Tc] <;> lia) ⟨.int ys.length,H,I.tok _,⟨s.toks+1,by rw[Tc,hlen]⟩,q⟩
theorem tR:dw X (.builtin "len") (λxs H Q=>∃ z,xs=[.str z]/\z.length<=sizeLine/\Q (.int z.length) H):=by
 intro N5 s σ H xs us Q I r h;obtain⟨z,rfl,hz,q⟩:=h;obtain⟨u,rfl,t,rfl⟩:=vals1 r;have hn:=mM;exact len_str (by lia) ⟨.int z.length,H,I.tok _,⟨_,rfl⟩,q⟩
theorem dw.or{f:Value}{r r':List V->Hp->VK->Prop}(h:dw X f r)(h':dw X f r'):dw X f (λxs H Q=>r xs H Q\/r' xs H Q):=by
 intro N5 s σ H xs us Q I rs q;rcases q with q | q
 .exact h N5 s σ H xs us Q I rs q
 .exact h' N5 s σ H xs us Q I rs q
theorem tY:dw X (.type "list") (λxs H Q=>∃ p ys,xs=[.ref p]/\(iB X.K H p ys\/gi X.K H p ys)/\∀ l,H l=none->Q (.ref l) (upd H l (.lst ys))):=by
 intro N5 s σ H xs us Q I r h;obtain⟨p,ys,rfl,hq,q⟩:=h;obtain⟨u,rfl,rx⟩:=vals1 r;cases rx;have fin:∀ (N9:List Value),Vals ys N9->ys.length<=sizeLine->∀ (h':Heap) (c':Nat),(∀ b o',s.heap.get? b=some o'->h'.get? b=some o') ->
   h'.get? s.heap.objs.size=some { cls:=.type "list", dict:=none,data:=.seq N9.toArray c',slots:=#[] }->EP X N5 σ Q (.ref s.heap.objs.size) { s with heap:=h' }:=λN9 r' hz h' c' kp e =>
  ⟨.ref s.heap.objs.size,_,I.laid (t':=s.toks) kp (SX _) (show b_ X.prog X.w _ h' _ (.lst ys) from ⟨hz,N9,c',r',e⟩),rfl,q _ (I.bB.fresh (SX _))⟩
 rcases hq with hq | hq
 .obtain⟨N9,r',pl,hz⟩:=I.list hq;have hlen:=r'.length;obtain⟨o,ho,hc,n,hd⟩:=pl.isList;exact call_list_seq p (.inl rfl) ho hc hd (λh' c' kp e=>fin N9 r' hz h' c' kp e) (by simp only[Tc] <;> lia)
 .obtain⟨N9,r',pl,hz⟩:=I.tuple hq;have hlen:=r'.length;obtain⟨o,ho,hc,n,hd⟩:=pl;exact call_list_seq p (.inr rfl) ho hc hd (λh' c' kp e=>fin N9 r' hz h' c' kp e) (by simp only[Tc] <;> lia)
theorem qZ:dw X (.type "tuple") (λxs H Q=>∃ p ys,xs=[.ref p]/\((iB X.K H p ys/\∀ l,H l=none->Q (.ref l) (upd H l (.tup ys)))\/(gi X.K H p ys/\Q (.ref p) H))):=by
 intro N5 s σ H xs us Q I r h;obtain⟨p,ys,rfl,h⟩:=h;obtain⟨u,rfl,rx⟩:=vals1 r;cases rx;rcases h with ⟨hq,q⟩ | ⟨hq,q⟩
 .obtain⟨N9,r',pl,hz⟩:=I.list hq;have hlen:=r'.length;refine call_tuple_list pl.isList (λh' kp=>?_) (by simp only[Tc] <;> lia);have I1:Inv X N5 σ H { s with heap:=h' }:=I.kept (t':=s.toks) kp;have I2:Inv X N5 σ (upd H h'.objs.size (.tup ys)) { s with heap:=h'.push { cls:=.type "tuple", data:=.seq N9.toArray } } :=
   I1.laid (t':=s.toks) (λb o e=>SQ _ e) (SX _) (show b_ X.prog X.w _ _ _ (.tup ys) from ⟨hz,N9,r',Y9 _ _⟩)
  exact⟨.ref h'.objs.size,_,I2,rfl,q _ (I1.bB.fresh (SX _))⟩
 .obtain⟨N9,r',pl,hz⟩:=I.tuple hq;exact call_tuple_same pl ⟨.ref p,H,I,rfl,q⟩
def Nn(K:PySem.W.Frag)(T:String)(x:V)(H:Hp):Prop:=match x with
 | .str _=>T = "str"
 | .int _=>T = "int"
 | .ref p=>(T = "list" /\ ∃ xs,iB K H p xs)\/(T = "tuple" /\ ∃ o,K.lookup p=some o/\o.cls=.type "tuple" /\ o.dict=none) ∨
   (T = "dict" /\ ((∃ O4,H p=some (.dK O4))\/∃ O4,H p=some (.dT O4)))\/(T = "set" /\ ∃ S n,H p=some (.set S n))
 | _=>False
theorem G8{T:String}{x:V}{v:Value}(I:Inv X N5 σ H s)(r:RelV x v)(ty:Nn X.K T x H) :
  s.TypeIs v T/\∀ a,v=.ref a->∃ ob,s.heap.get? a=some ob/\ob.dict=none:=by
 cases x with
 | str z =>
  obtain⟨t,rfl⟩:=r;cases (show T = "str" from ty);exact⟨typeIs_str s z t,λ_ e=>nomatch e⟩
 | int i =>
  obtain⟨t,rfl⟩:=r;cases (show T = "int" from ty);exact⟨Ys s i t,λ_ e=>nomatch e⟩
 | ref p =>
  cases r;rcases ty with ⟨rfl,xs,hq⟩ | ⟨rfl,o,hk,hc,hd⟩ | ⟨rfl,hk⟩ | ⟨rfl,S,n,hk⟩
  .obtain⟨N9,_,pl,_⟩:=I.list hq;refine⟨pl.isList.typeIs,λa e=>?_⟩;cases e;obtain⟨o,n,e,c,hd,_⟩:=pl;exact⟨o,e,hd⟩
  .refine⟨⟨o,I.jK p o hk,hc⟩,λa e=>?_⟩;cases e;exact⟨o,I.jK _ o hk,hd⟩
  .have z:∃ o,s.heap.get? p=some o/\o.ExactDict:=by
    rcases hk with ⟨O4,hk⟩ | ⟨O4,hk⟩
    .obtain⟨_,_,_,_,o,_,_,e,ex,_⟩:=I.bB p _ hk;exact⟨o,e,ex⟩
    .obtain⟨_,_,_,_,o,_,_,e,ex,_⟩:=I.bB p _ hk;exact⟨o,e,ex⟩
   obtain⟨o,e,ex⟩:=z;refine⟨⟨o,e,ex.1⟩,λa e2=>?_⟩;cases e2;exact⟨o,e,ex.2.1⟩
  .obtain⟨o,_,_,_,e,ex,_⟩:=I.bB p _ hk;refine⟨⟨o,e,ex.1⟩,λa e2=>?_⟩;cases e2;exact⟨o,e,ex.2.1⟩
 | _=>exact U8 ty
def N1(K:PySem.W.Frag)(T:String)(r:V->List V->Hp->VK->Prop)(to:TE)(t:TA):TE:=fun σ H Q=>to σ H λx H1=>Nn K T x H1/\t σ H1 λxs H2=>r x xs H2 Q
variable{o:Expr}{es:List Expr}{to:TE}{t:TA}{name:Str}{apos Oo:Pos}{T id:String}{r:V->List V->Hp->VK->Prop}
theorem FT(pa:PlainAttrs T)(slot:Slot T name id)(hty:typeOf (.builtin id)=pure (.type "method_descriptor"))(hm:N0 X id r)(ho:PE X o to)(ha:PA X (e::es) t)
  (Qf:autoParam (attributeBase o name X.env (eval o X.env)=eval o X.env) aR._auto_1)
  (QX:autoParam (((backTo Oo (starEach (e::es) X.env)).all (λx=>!x.1)&&(backToKw Oo (keywordEach [] X.env)).all (λx=>x.1.isSome)
   && decide ((e::es).length+([]:List Keyword).length+(if ([]:List Keyword).isEmpty then 0 else 1)<30))=true) aR._auto_1)
  (Qg:autoParam ((apos.endLine==Oo.line)=true) aR._auto_1) (hs:autoParam (starEach (e::es) X.env=(false,eval e X.env)::starEach es X.env) aR._auto_1) (PM:autoParam ((backTo Oo (starEach es X.env)).any (·.1)=false) aR._auto_1) :
  PE X (.Call (.Attribute o name apos) (e::es) [] Oo) (N1 X.K T r to t):=by
 intro N5 s σ H Q I h;refine wpAny_Call_method_late Qf QX Qg rfl (cX (ho N5 s σ H _ I h) λv s1 ⟨x,H1,I1,r1,ty,q1⟩=>?_);obtain⟨h1,h2⟩:=G8 I1 r1 ty;refine⟨T,id,pa,slot,hty,h1,h2,?_⟩;have hA:=ha Oo N5 s1 σ H1 _ I1 q1;rw[hs] at hA ⊢;refine Calls.callWith_builtin (by show (false||(backTo Oo (starEach es X.env)).any (·.1))=false;rw[PM] <;> rfl) (Calls.evalArgs_plain ?_);exact cX hA λus s2 ⟨vs,H2,I2,r2,q2⟩=>hm N5 s2 σ H2 x vs v us Q I2 r1 r2 q2
end
def Nq(X:Cx)(id:String)(r:V->List V->Hp->VK->Prop):Prop :=
 ∀ (N5:List (Addr×Obj)) (s:Shared) (σ:St) (H:Hp) (x:V) (xs:List V) (v:Value) (us:List Value) (Q:VK),Inv X N5 σ H s->RelV x v->Vals xs us->r x xs H Q ->
  wpAny (model X.prog X.w) X.A (call (.builtin id) (v::us)) (EP X N5 σ Q) X.xe s
theorem Vals.one:∀ {x:V} {us:List Value},Vals [x] us->∃ u,us=[u]/\RelV x u
 | _,_,.cons r .nil=>⟨_,rfl,r⟩
theorem Vals.rep{xs:List V}{us:List Value}(h:Vals xs us):∀ k:Nat,Vals (SS k xs).flatten (SS k us).flatten
 | 0=>.nil
 | k+1=>by
  rw[UI,UI,U9,U9];exact Vals.append h (Vals.rep h k)
theorem foldl_rep(N9:List Value):∀ (k:Nat) (acc:List Value),
  XM (λx1 x2=>x1++x2) acc.toArray (SS k N9.toArray)=(acc++(SS k N9).flatten).toArray
 | 0,acc=>by simp
 | k+1,acc=>by
  have e:acc.toArray++N9.toArray=(acc++N9).toArray:=by simp
  have e2:(acc++N9)++(SS k N9).flatten=acc++(SS (k+1) N9).flatten:=by
   rw[UI,U9,UJ]
  rw[<- e2,<- foldl_rep N9 k (acc++N9),<- e,UI,Z_]
variable{t':Nat}
section
variable{l b:Addr}{ys zs:List V}
theorem Inv.Ku{its':List Value}{f:Array Value->Array Value}(I:Inv X N5 σ H s)(hH:H l=some (.lst xs))
  (e:s.heap.get? l=some { cls:=.type "list", data:=.seq N9.toArray n }) (hf:f N9.toArray=its'.toArray) (hv:Vals ys its') (hz:ys.length<=sizeLine) :
  Inv X N5 σ (upd H l (.lst ys)) { s with heap:=s.heap.update l (VX f),toks:=t' }:=by
 have q:=PySem.IsL.update e f;rw[hf] at q;refine I.write (x:=l) (e:=l) (by rw[hH];exact trivial) (.inl rfl) (λb' u hb hu=>(Uk s.heap (VX f) (Vb hb)).trans hu) ⟨_,q⟩ ?_;exact⟨hz,its',_,hv,q⟩
theorem Inv.KZ(I:Inv X N5 σ H s)(hv:Vals ys N9)(hz:ys.length<=sizeLine) :
  Inv X N5 σ (upd H s.heap.objs.size (.lst ys)) { s with heap:=s.heap.push { cls:=.type "list", data:=.seq N9.toArray },toks:=t' } :=
 I.laid (λ_ _ q=>SQ _ q) (SX _) ⟨hz,N9,0,hv,S2 _ rfl⟩
theorem Inv.fresh(I:Inv X N5 σ H s):H s.heap.objs.size=none:=I.bB.fresh (SX _)
theorem Inv.yZ(I:Inv X N5 σ H s)(hH:H l=some (.lst xs)):xs.length<=sizeLine/\∃ (N9:List Value) (n:Nat),Vals xs N9/\xs.length=N9.length/\s.heap.get? l=some { cls:=.type "list", data:=.seq N9.toArray n }:=by
 obtain⟨z,N9,n,r,e⟩:=I.bB l _ hH;exact⟨z,N9,n,r,r.length,e⟩
theorem u9(h:n<=sizeLine):VY n=false:=by
 unfold VY;exact decide_eq_false (by lia)
end
def El:V->List V->Hp->VK->Prop:=λx vs H Q=>∃ l xs y,x=.ref l/\vs=[y]/\H l=some (.lst xs)/\xs.length<sizeLine/\Q .cJ (upd H l (.lst (xs++[y])))
theorem rD:Nq X "list.append" El:=by
 intro N5 s σ H x vs v us Q I rx rv h;obtain⟨l,xs,y,rfl,rfl,hH,hz,q⟩:=h;cases rx;obtain⟨u,rfl,ru⟩:=rv.one;obtain⟨z,N9,n,r,hl,e⟩:=I.yZ hH;refine WG F.slot_list_append ⟨_,e,rfl⟩ F.entry_list_append (F.args_list_append_2 _ _) (PySem.list_append l N9.toArray n u (by rw[Tc];lia)) ⟨e,?_⟩;refine⟨.cJ,_,I.Ku (its':=N9++[u]) hH e (by simp) (r.append (.cons ru .nil)) ?_,rfl,q⟩;rw[TM,List.length_singleton];lia
def EY:V->List V->Hp->VK->Prop:=λx vs H Q=>∃ l b xs zs,x=.ref l/\vs=[.ref b]/\H l=some (.lst xs)/\H b=some (.lst zs)/\xs.length+zs.length<=sizeLine/\Q .cJ (upd H l (.lst (xs++zs)))
theorem zS:Nq X "list.extend" EY:=by
 intro N5 s σ H x vs v us Q I rx rv h;obtain⟨l,b,xs,zs,rfl,rfl,hH,hB,hz,q⟩:=h;cases rx;obtain⟨u,rfl,ru⟩:=rv.one;cases ru;obtain⟨z,N9,n,r,hl,e⟩:=I.yZ hH;obtain⟨z2,OV,n2,r2,Py,e2⟩:=I.yZ hB;have Pd:N9.toArray.size+OV.toArray.size<=sizeLine:=by rw[Tc,Tc];lia
 have Q3:¬ (!N9.toArray.isEmpty&&VY (N9.toArray.size+OV.toArray.size))=true:=by
  rw[u9 Pd,Bool.and_false];exact Uh
 refine WG F.slot_list_extend ⟨_,e,rfl⟩ F.entry_list_extend (F.args_list_extend_2 _ _)
  (AutoSeq1.list_extend_list_list_0 l N9.toArray n b OV.toArray n2 Q3 (by rw[Tc];lia) (by lia)) ⟨e,e2,?_⟩
 refine⟨.cJ,_,I.Ku (its':=N9++OV) hH e (by simp) (r.append r2) ?_,rfl,q⟩;rw[TM];lia
def K1:R2:=λx y H Q=>∃ l b xs zs,x=.ref l/\y=.ref b/\H l=some (.lst xs)/\H b=some (.lst zs)/\xs.length+zs.length<=sizeLine/\∀ p,H p=none->Q (.ref p) (upd H p (.lst (xs++zs)))
theorem GX:hV X (binaryOp .Add) K1:=by
 intro N5 s σ H x y v u Q I rx ry h;obtain⟨l,b,xs,zs,rfl,rfl,hH,hB,hz,q⟩:=h;cases rx;cases ry;obtain⟨z,N9,n,r,hl,e⟩:=I.yZ hH;obtain⟨z2,OV,n2,r2,Py,e2⟩:=I.yZ hB;refine PySem.P.add_list e e2 ?_ (by rw[Tc,Tc];lia);have ea:N9.toArray++OV.toArray=(N9++OV).toArray:=by simp
 rw[ea];exact⟨.ref _,_,I.KZ (t':=s.toks) (r.append r2) (by rw[TM];lia),rfl,q _ I.fresh⟩
def J1:R2:=λx y H Q=>∃ l k xs,x=.ref l/\y=.int k/\H l=some (.lst xs)/\-(2^63)<=k/\k<2^63/\xs.length*k.toNat<=sizeLine ∧
 ∀ p,H p=none->Q (.ref p) (upd H p (.lst (SS k.toNat xs).flatten))
theorem len_rep(xs:List α)(k:Nat):(SS k xs).flatten.length=k*xs.length:=by
 induction k with
 | zero=>simp
 | succ k ih=>rw[UI,U9,TM,ih,ZG,Yt]
theorem C4:hV X (binaryOp .Mult) J1:=by
 intro N5 s σ H x y v u Q I rx ry h;obtain⟨l,k,xs,rfl,rfl,hH,h1,h2,hz,q⟩:=h;cases rx;obtain⟨t,rfl⟩:=ry;obtain⟨z,N9,n,r,hl,e⟩:=I.yZ hH;have hlen:N9.toArray.size*k.toNat<=sizeLine:=by rw[Tc,<- hl];exact hz
 have hcap:¬ N9.toArray.size*k.toNat>(2^63-1)/8:=by
  have:(sizeLine:Nat)<=(2^63-1)/8:=by decide
  lia
 have hfit:¬ (!Builtin.List.listFitsIndex k)=true:=by
  rw[fitsIndex_both h1 h2];exact Uh
 have Q3:¬ VY (N9.toArray.size*k.toNat)=true:=by
  rw[u9 hlen];exact Uh
 have PF:XM (λx1 x2=>x1++x2) #[] (SS (if N9.toArray.isEmpty=true then 0 else k.toNat) N9.toArray)=(SS k.toNat N9).flatten.toArray:=by
  have f0:∀ m:Nat,XM (λx1 x2=>x1++x2) #[] (SS m N9.toArray)=(SS m N9).flatten.toArray:=λm=>by
   have:=foldl_rep N9 m [];rw[YH] at this;exact this
  rw[f0];cases N9 with
  | nil=>simp
  | cons a r'=>rw[if_neg (by simp)]
 refine XY (T := "list") (U := "int") (by decide) ⟨_,e,rfl⟩ (λs'=>Ys s' k t) noFill_list_mul F.fills_int_mul F.slot_int_rmul repeat_list F.slot_int_index.lookup
  (WG F.slot_int_rmul (Ys s k t) F.entry_int_rmul (F.args_int_rmul_2 _ _) (int___rmul___int_list k t l N9.toArray n)
   ⟨e,rfl,⟨_,e,rfl⟩,WG F.slot_list_mul ⟨_,e,rfl⟩ F.entry_list_mul (F.args_list_mul_2 _ _) (AutoListH.list___mul___list_int_3 l N9.toArray n k t hfit hcap Q3) ⟨e,?_⟩⟩)
 rw[PF];exact⟨.ref _,_,I.KZ (t':=s.toks) (r.rep k.toNat) (by rw[len_rep,Xw];exact hz),rfl,q _ I.fresh⟩
variable{E:Value->Shared->Prop}{A:Around}{w:World}
section
variable{prog:Program}
end
section
variable{κ:Type}[DecidableEq κ]
end
section
variable{P:Program}{h:Heap}{a:Addr}
end
variable{o:Option V}{u:Value}
section
variable{a:Addr}{y v:V}{r:Value}
end
variable{O4:List (Key×V)}
section
variable{a:Addr}{k:Key}
end
section
variable{o i value:Expr}{pos pos' tpos:Pos}{td ty tv:TE}
end
section
variable{pos:Pos}
end
section
variable{a:Addr}{y d:V}{r:Value}
end
section
variable{o f:Expr}{apos Oo:Pos}{td ty tx:TE}
end
section
variable{a:Addr}
end
section
variable{a:Addr}{y:V}
end
end L2
namespace Att
open PySem PySem.W PySem.Calls PyProof.Rows
variable{h:Heap}{P:Params}
theorem nA:∀ (ns:List Int) (vs:List Value),WellAll P h vs (ns.map WData.int)->IntsAre vs ns:=by
 intro ns
 induction ns with
 | nil =>
  intro vs w;rw[V6] at w;cases w;exact .nil
 | cons n ns ih =>
  intro vs w;rw[Tw] at w;cases w with
  | cons a b =>
   cases a;exact .cons _ _ (ih _ b)
theorem zc{l:OpenLaw}{n:Nat}(hn:l.most=some n){args:List WData}{vals:List Value}
  (yX:l.row.toRowW.claim.pre args=true) (hwl:WellAll P h vals args) :
  ∃ a vs ns,vals=[Td a]/\args=[WData.list (ns.map WData.int)]/\h.get? a=some { cls:=.type "list", data:=.seq vs.toArray }/\IntsAre vs ns/\ns.length<=n:=by
 have hsh:WShape.hasAll [] args [.list .int]=true:=(pre_splitW yX).1;have hc:l.pre.holds [] { args:=args }=true:=(pre_splitW yX).2;obtain⟨d,r,rfl,h1,h2⟩:=hasAllW_cons hsh;obtain rfl:=hasAllW_nil h2;obtain⟨xs,rfl,h3⟩:=hasW_list h1;obtain⟨ns,rfl⟩:=items_int h3;have hlen:ns.length<=n:=by
  unfold OpenLaw.pre at hc;have h4:(WTm.not (.lt (.lit (.int (n:Int))) (.len (.arg 0)))).holds [] { args:=[.list (ns.map .int)] }=true:=by
   have h4:=(holds_andW hc).1;rw[hn] at h4;exact h4
  have h5:=condW_of h4 (w_not (w_lt w_lit (w_len_list (w_arg rfl))));rw[S0] at h5;refine Nat.le_of_not_lt λq=>?_;have q':(n:Int)<((ns.length:Nat):Int):=by lia
  first
   | (rw[decide_eq_true q'] at h5;exact absurd h5 (by decide))
   | (simp at h5;lia)
 cases hwl with
 | cons w1 w2 =>
  cases w2;cases w1 with
  | list ho Qa=>exact⟨_,_,ns,rfl,rfl,ho,nA ns _ Qa,hlen⟩
theorem zB(l:OpenLaw)(args:List WData):l.row.toRowW.claim.post args (.bool true) args=true :=
 postW_of (r:=l.row.toRowW) (X:=(true==true))
  (show WShape.has [] (.bool true) .bool=true by first | rfl | decide | simp[WShape.has,WShape.arms,WShape.armsAll])
  (show (WTm.eq .res (.lit (.bool true))).value [] { args:=args,res:=some (.bool true),after:=args }=some (.bool (true==true)) from w_eq_bool (w_res rfl) w_lit) rfl
section
variable{prog:Program}{w:World}{A:Around}{E:Value->Shared->Prop}{s:Shared}{K:Frag}
end
end Att
namespace L2
open PySem PySem.Spec PyProof.Rows
theorem rN:∀ {vs:List Value} {ns:List Int},IntsAre vs ns->Vals (ns.map V.int) vs
 | _,_,.nil=>.nil
 | _,_,.cons n t h=>.cons ⟨t,rfl⟩ (rN h)
def Kt(H:Hp):Prop:=∀ b,H b=none\/∃ o xs,H b=some (.qL o (.lst xs))
variable{mg:Str->Option Value}{w:World}{P:Program}
theorem Di{K:PySem.W.Frag}{mb:Str->Option Value}{CX:JL}{k:Nat}{fa a:Addr}{fd:FuncData}{x:Str}{sp:Sp}{s₁:Shared}{vs:List Value}{ns:List Int}
  (KX:K.In s₁.heap) (hns:s₁.heap.Ns mainGlobals mg) (hb:s₁.heap.Ns builtinsNs mb) (R_:∀ x:Str,x ≠ "__name__" -> mb x=bootBuiltins x) (hlim:s₁.heap.NoLimit) (hg:s₁.gens=#[])
  (ha:s₁.heap.get? a=some { cls:=.type "list", data:=.seq vs.toArray }) (hi:IntsAre vs ns) (hl:ns.length<=sizeLine) (hr:cA k callerA)
  (F:∀ base:Heap,K.In base->base.Ns mainGlobals mg->aY P w K mg base CX k fa fd [x] sp) (Sa:∀ (s:Shared) (u:Value),BindsTo s fd ⟨[u],[]⟩ [(x,u)])
  (hsp:∀ H:Hp,Kt H->iB K H a (ns.map V.int)->sp [.ref a] H (λv _=>v=.bl true) λ_ _ _=>False)
  (hCX:∀ H e s',CX [] H s₁ (λ_ _ _=>False) e s'->False) :
  codeAny (model P w) callerA (.call (.ref fa) ⟨[.ref a],[]⟩) (λr s'=>r=.ok (.ret (.bool true))/\OldK s₁.heap s'.heap/\s'.os=s₁.os/\AllBare s'.gens) s₁:=by
 have rv:=rN hi;have lenV:=hi.length;have core:∀ H:Hp,Kt H->iB K H a (ns.map V.int)->mf P w H s₁.heap->(∀ b,H b≠none->b=a)->(H a≠none->K.lookup a=none) ->
   codeAny (model P w) callerA (.call (.ref fa) ⟨[.ref a],[]⟩) (λr s'=>r=.ok (.ret (.bool true))/\OldK s₁.heap s'.heap/\s'.os=s₁.os/\AllBare s'.gens) s₁:=by
  intro H hO hS bB hA hK;have Qx:∀ {b:Addr} {o:Obj},s₁.heap.get? b=some o->H b=none->(uz s₁.heap H).get? b=some o:=λe n=>AZ e n;have xf:∀ {b:Addr} {o:Obj} {es:Array DictEntry} {ep:Nat},s₁.heap.get? b=some o->o.data=.dict es ep->H b=none:=λ{b o es ep} e d=>by
   cases q:H b with
   | none=>rfl
   | some u =>
    have e':b=a:=hA b (by rw[q];simp);subst e';rw[ha] at e;cases e;have d':Data.seq vs.toArray _=Data.dict es ep:=d;cases d'
  have nsK:∀ {b:Addr} {m:Str->Option Value},s₁.heap.Ns b m->(uz s₁.heap H).Ns b m:=λ{b m} ⟨o,es,ep,e,d,r⟩=>⟨o,es,ep,Qx e (xf e d),d,r⟩
  have hKb:K.In (uz s₁.heap H):=λb o e=>Qx (KX b o e) (by
   cases q:H b with
   | none=>rfl
   | some u =>
    have e':b=a:=hA b (by rw[q];simp);subst e';rw[hK (by rw[q];simp)] at e;cases e)
  have hM:Mod K mg (uz s₁.heap H):=⟨hKb,nsK hns,⟨mb,nsK hb,R_⟩,let ⟨mc,h1,h2⟩:=hlim;⟨mc,nsK h1,h2⟩⟩
  have e0:wu P w K mg (uz s₁.heap H) callerA [] s₁ H:=⟨rfl,hM,λb o e=>DL e,Yp (zR _ _),trivial,λb hb=>absurd (show b∈([]:List Addr) from hb) (by simp),bB,.of_eq hg⟩
  refine Xx ((F _ hKb (nsK hns)).run callerA [] s₁ H ⟨[.ref a],[]⟩ [.ref a] [.ref a] _ _ hr e0 (Sa s₁ (.ref a)) (.cons rfl .nil) (hsp H hO hS)) λr s' h=>?_;cases r with
  | error e=>exact(hCX H e s' h).elim
  | ok fl =>
   cases fl with
   | next=>exact U8 h
   | brk=>exact U8 h
   | cont=>exact U8 h
   | ret u =>
    obtain⟨v,H',os,bare,un,hok',r',q⟩:=h;have q':v=.bl true:=q;subst q';obtain rfl:u=Vv true:=r';refine⟨rfl,OldK.of_keep λb o e=>?_,os,bare⟩;cases q:H b with
    | none=>exact un.keep b o e q (by intro z;exact absurd (show b∈([]:List Addr) from z) (by simp)) (by simp)
    | some u =>
     rcases hO b with z | ⟨ob,xs,z⟩
     .rw[q] at z;cases z
     .have z2:=un.kS b ob _ z;obtain⟨e1,_⟩:=bB b _ z;obtain⟨e2,_⟩:=hok' b _ z2;rw[e] at e1;cases e1;exact e2
 cases hk:K.lookup a with
 | some o =>
  have e:=KX a o hk;rw[ha] at e;cases e;refine core (λ_=>none) (λ_=>.inl rfl) (.inr ⟨_,vs.toArray,_,hk,rfl,rfl,rfl,by rw[Tc,lenV];exact hl,by simpa using rv⟩) (λb u z=>by have z':(none:Option HO)=some u:=z;cases z') (λb z=>absurd rfl z) λz=>absurd rfl z
 | none =>
  refine core (λb=>if b=a then some (.qL { cls:=.type "list", data:=.seq vs.toArray } (.lst (ns.map V.int))) else none) (λb=>?_) (.inl (.inr ⟨{ cls:=.type "list", data:=.seq vs.toArray },if_pos rfl⟩)) (λb u z=>?_) (λb z=>?_) λ_=>hk
  .by_cases hb:b=a
   .exact .inr ⟨_,_,if_pos hb⟩
   .exact .inl (if_neg hb)
  .by_cases hb:b=a
   .have z':=(if_pos hb).symm.trans z;cases z';subst hb;exact⟨ha,by rw[S0];exact hl,vs,_,rv,ha⟩
   .have z':=(if_neg hb).symm.trans z;cases z'
  .by_cases hb:b=a
   .exact hb
   .exact absurd (if_neg hb) z
def inClass(s:Stmt)(j:Nat):Stmt:=match s with
 | .ClassDef _ _ _ body _ _ _ _ _ _ _=>body.getD j (.Pass ⟨0,0,0,0⟩)
 | _=>.Pass ⟨0,0,0,0⟩
def ij(s:Stmt):Arguments:=match s with
 | .FunctionDef _ a _ _ _ _ _ _ _ _=>a
 | _=>{ posonlyargs:=[],args:=[],vararg:=none,kwonlyargs:=[],kw_defaults:=[],kwarg:=none,defaults:=[] }
def e_(s:Stmt):List Stmt:=match s with
 | .FunctionDef _ _ b _ _ _ _ _ _ _=>b
 | _=>[]
def bg(s:Stmt):Scope:=match s with
 | .FunctionDef _ _ _ _ _ _ sc _ _ _=>sc
 | _=>{ kind:=.function,names:=[],isGenerator:=false,isCoroutine:=false }
abbrev E0:XK:=λ_ _ _=>False
section
variable{K:PySem.W.Frag}{base:Heap}
end
theorem mn{n:Nat}(h:n<=1000):n<sizeLine:=UD h (by decide)
section
variable{X:Cx}
end
def bw(H H':Hp):Prop:=∀ b o,H b=some o->H' b=some o
end L2
section
namespace HD
open PySem PySem.W L2
abbrev pw:Program:=PySem.Challenge.pw_dialvault_k44_whole_stills_of_stills
noncomputable section
noncomputable def st(s:String)(t:Nat):Value:=.str (T9 s) t
def en(P:Params)(s:String)(t:Nat)(v:Value):DictEntry:=⟨PyData.keyHash P (T9 s),st s t,v⟩
def tu(xs:List Value):Obj:=⟨.type "tuple", none,.seq ⟨xs⟩ 0,⟨[]⟩⟩
def di(n:Nat)(es:List DictEntry):Obj:=⟨.type "dict", none,.dict ⟨es⟩ n,⟨[]⟩⟩
def tp(i:Nat):Stmt:=pw.main.body.getD i (.Pass ⟨0,0,0,0⟩)
def mp(i j:Nat):Stmt:=inClass (tp i) j
def co(a b:String)(t:Nat)(l n:Int)(x1 x2 x3 x4 x5:Nat)(u:Nat):Obj:=⟨.type "code", none,.fields ⟨[st a t,st b (t+1),st "/claim/cut.py" (t+2),.int l 0,.int n 0,.int 0 0,.int 0 0,.int 3 0,.ref x1,.bool true,.int 181 0,.ref x2,.none,.ref x3,.ref x4,.ref x5,.int u 0,.int l 0,st "/claim/cut.py" (u+1)]⟩,⟨[]⟩⟩
def ft(a b:String)(s:Stmt):Obj:=⟨.none,none,.func ⟨T9 a,T9 b,ij s,.stmts (e_ s),bg s,0,[],.none,.none,.none,.none,none,.none,.none,0⟩,⟨[]⟩⟩
def fo(a b:String)(s:Stmt)(df pm:Value)(cd:Nat):Obj:=⟨.type "function", none,.func ⟨T9 a,T9 b,ij s,.stmts (e_ s),bg s,3,[],df,.none,.none,pm,none,.ref cd,.none,0⟩,⟨[]⟩⟩
def Jj:List Obj->List Obj
 | []=>[]
 | [a]=>[a]
 | a::_::r=>a::Jj r
def bt:Nat->List Obj->BT
 | 0,_=>.nil
 | _+1,[]=>.nil
 | n+1,a::r=>.node a (bt n (Jj r)) (bt n (Jj (r.drop 1)))
def S(L:Params->List Obj)(n k:Nat)(w:World)(os:OsState):SharedT:=⟨bt 14 (L w.params),n,{},⟨[]⟩,⟨0,0,0,0⟩,k,os⟩
def F(L:Params->List Obj)(k:Nat)(w:World)(os:OsState):Shared:=⟨⟨⟨L w.params⟩,{}⟩,⟨[]⟩,⟨0,0,0,0⟩,k,os⟩
def cc(a:String)(t:Nat)(l:Int)(x y u:Nat):Obj:=⟨.type "code", none,.fields ⟨[st a t,st a (t+1),st "/claim/cut.py" (t+2),.int l 0,.int 0 0,.int 0 0,.int 0 0,.int 0 0,.ref x,.bool false,.int 181 0,.ref y,.none,.none,.none,.none,.int u 0,.int l 0,st "/claim/cut.py" (u+1)]⟩,⟨[]⟩⟩
def fr(a b:Nat)(s:String)(t:Nat):Obj:=⟨.type "frame", none,.plain,⟨[some (.ref a),some (.ref 3),some (.ref b),none,some (st s t),none,some (.ref 0)]⟩⟩
def su(a:Nat):Obj:=⟨.type "super", none,.fields ⟨[.ref a,.ref a,.ref a]⟩,⟨[]⟩⟩
def ii(a:Nat):Obj:=⟨.type "builtin_function_or_method", none,.fields ⟨[.builtin "object.__init_subclass__", .ref a]⟩,⟨[]⟩⟩
def rg:List Nat->List Value
 | a::b::c::r=>.int a 0::.int b 0::.ref c::rg r
 | _=>[]
def fi(xs:List Nat):Obj:=⟨.none,none,.fields ⟨rg xs⟩,⟨[]⟩⟩
def cl(n:Str)(bs ms:List Value)(k:Nat)(ss:List Value)(sl:List (Option Value)):Obj:=⟨.type "type", none,.cls ⟨n,bs,ms,k,n,true,[],ss,false,none,false⟩,⟨sl⟩⟩
def pt(L:List Obj)(us:List (Nat×Obj))(ns:List Obj):List Obj:=us.foldl (λl u=>l.set u.1 u.2) L++ns
abbrev b0:=boot_o_0
abbrev b1:=boot_o_1
abbrev b2:=boot_o_2
abbrev b3:=boot_o_3
abbrev b4:=boot_o_4
abbrev b5:=boot_o_5
abbrev b6:=boot_o_6
abbrev b7:=boot_o_7
abbrev b8:=boot_o_8
abbrev b9:=boot_o_9
abbrev NU:=boot_o_10
def m0:Value:=st "__main__" 164
def m1:Value:=st "dialvault.errors" 194
def m2:Value:=st "dialvault.wholes" 363
def m3:Value:=st "dialvault.vault" 420
def m4:Value:=st "dialvault.papers" 562
def m5:Value:=st "dialvault.rungs" 570
def m6:Value:=st "dialvault.classes" 736
def m7:Value:=st "dialvault.stills" 746
def m8:Value:=st "law_dialvault_k44_whole_stills_of_stills" 767
def nl:List String->Nat->List Value
 | [],_=>[]
 | x::r,t=>st x t::nl r (t+1)
def fA(P:Params)(a t:Nat)(x q:String)(s:Stmt)(l n:Int)(vs:List String)(df pm:Value):List Obj:=[b7 P,b8 P,tu (nl vs (t+3)),b7 P,ft x q s,co x q t l n a (a+1) (a+2) (a+3) (a+4) (t+3+vs.length),fo x q s df pm (a+5)]
def fT(P:Params)(a t:Nat)(x:String)(s:Stmt)(l n:Int)(vs:List String)(pm:Value):List Obj:=fA P a t x x s l n vs .none pm
def fB(P:Params)(a t:Nat)(x q:String)(s:Stmt)(l n:Int)(df pm:Value):List Obj:=[b7 P,b8 P,ft x q s,⟨.type "code", none,.fields ⟨[st x t,st q (t+1),st "/claim/cut.py" (t+2),.int l 0,.int n 0,.int 0 0,.int 0 0,.int 3 0,.ref a,.bool true,.int 181 0,.ref (a+1),.none,.none,.none,.ref (a+2),.int (t+3) 0,.int l 0,st "/claim/cut.py" (t+4)]⟩,⟨[]⟩⟩,fo x q s df pm (a+3)]
def dB(P:Params)(n t:Nat)(m:Value)(l:Int)(r:List DictEntry):Obj:=di n (en P "__module__" t m::en P "__firstlineno__" (t+4) (.int l (t+3))::r)
def dA(P:Params)(n t:Nat)(m:Value)(x:String)(l:Int)(r:List DictEntry):Obj:=di n (en P "__module__" t m::en P "__qualname__" (t+2) (st x (t+1))::en P "__firstlineno__" (t+4) (.int l (t+3))::r)
def gw(t a:Nat):Obj:=⟨.type "getset_descriptor", none,.fields ⟨[st "__weakref__" t,.ref a,.builtin "ExceptionGroup.__weakref__", .none]⟩,⟨[]⟩⟩
def gd(t a:Nat):Obj:=⟨.type "getset_descriptor", none,.fields ⟨[st "__dict__" t,.ref a,.builtin "function.__dict__", .builtin "function.__dict__#set"]⟩,⟨[]⟩⟩
def ce(x:String)(b a k:Nat)(ss:List Value)(d t u:Nat):Obj:=cl x [.ref b] [.ref a,.ref b,.type "ValueError", .type "Exception", .type "BaseException", .type "object"] k ss [some (.ref d),none,some (st x t),some (st x u),some (.builtin "ValueError.__new__"),some (.bool true)]
def gl P:=[en P "__doc__" 166 .none,en P "__package__" 167 .none,en P "__loader__" 168 (.builtin "__main__.__loader__#opaque"),en P "__spec__" 169 .none,en P "__annotations__" 170 (.ref 6),en P "__builtins__" 171 (.ref 4),en P "__file__" 173 (st "/claim/cut.py" 172),en P "__cached__" 174 .none,en P "_wall" 193 (.ref 21),en P "VaultError" 220 (.ref 38),en P "NoDial" 252 (.ref 65),en P "NoLever" 284 (.ref 91),en P "NoPrice" 316 (.ref 117),en P "NoSetting" 339 (.ref 136),en P "TooMany" 362 (.ref 155),en P "is_whole" 371 (.ref 164),en P "is_row" 377 (.ref 169),en P "common" 389 (.ref 176),en P "multiple_of" 398 (.ref 183),en P "product_of" 407 (.ref 190),en P "unit_row" 413 (.ref 195),en P "rest_sum" 419 (.ref 200),en P "MOST_DIALS" 423 (.int 6 422),en P "LEAST_SIZE" 425 (.int 2 424),en P "MOST_SIZE" 427 (.int 360 426),en P "MOST_LEVERS" 429 (.int 8 428),en P "LEAST_PRICE" 431 (.int 1 430),en P "MOST_PRICE" 433 (.int 1000 432),en P "Vault" 491 (.ref 244),en P "is_within" 500 (.ref 255),en P "need_sizes" 509 (.ref 262),en P "need_levers" 519 (.ref 269),en P "prices_for" 528 (.ref 276),en P "rests" 534 (.ref 281),en P "nought" 541 (.ref 288),en P "is_setting" 547 (.ref 293),en P "need_setting" 555 (.ref 300),en P "added" 561 (.ref 305),en P "weigh" 569 (.ref 310),en P "mixed" 577 (.ref 315),en P "mixed_made" 589 (.ref 322),en P "unpulled" 597 (.ref 329),en P "pulled_once" 606 (.ref 336),en P "step_size" 616 (.ref 343),en P "taken_in" 631 (.ref 350),en P "lowered" 643 (.ref 357),en P "in_spans" 653 (.ref 364),en P "Rungs" 735 (.ref 425),en P "MOST_SETTINGS" 739 (.int 1024 738),en P "all_together" 745 (.ref 434),en P "clear" 753 (.ref 439),en P "stills" 759 (.ref 444),en P "all_stills" 766 (.ref 451),en P "_law_cell" 776 (.ref 458),en P "_law_mix" 785 (.ref 465),en P "_law_digits" 795 (.ref 472),en P "_law_size" 802 (.ref 479),en P "_law_sizes" 808 (.ref 484),en P "_law_lever" 821 (.ref 491),en P "_law_round" 832 (.ref 498),en P "_law_weigh" 838 (.ref 503),en P "_law_product" 847 (.ref 510),en P "_law_still" 857 (.ref 517),en P "_law_setting" 863 (.ref 522),en P "_law_listed" 877 (.ref 529),en P "law" 883 (.ref 534)]
def LA(P:Params):List Obj:=[b0 P,b1 P,b2 P,b3 P,b4 P,b5 P,b6 P,b7 P,b8 P,b9 P,NU P,b7 P,b8 P,cc "<module>" 182 1 11 12 185,fr 13 3 "__main__" 164]
def o9:Obj:=⟨.type "builtin_function_or_method", none,(.fields ⟨[.builtin "type.__prepare__", .type "type"]⟩),⟨[]⟩⟩
def NJ:Obj:=gw 216 38
def Lo:=tu [.ref 38]
def L0 P:=pt (LA P) [(3,di 15 (en P "__name__" 165 m1::(gl P).take 14)),(12,fi [1,0,20,5,0,27,9,0,47,16,0,73,23,0,99,30,0,125])] (fT P 15 187 "_wall" (tp 0) 1 1 ["k"] m0++([tu [.type "ValueError"],o9,dA P 5 203 m1 "VaultError" 5 [en P "word" 214 (.ref 35),en P "__static_attributes__" 215 (.ref 36)],b7 P,fi [7,4,34],cc "VaultError" 198 5 25 26 201,fr 27 24 "dialvault.errors" 194]++(fA P 29 208 "word" "VaultError.word" (mp 2 0) 7 1 ["self"] .none m1++([b7 P,dB P 3 203 m1 5 [en P "word" 214 (.ref 35),en P "__static_attributes__" 215 (.ref 36),en P "__weakref__" 217 (.ref 39),en P "__doc__" 218 .none],cl "VaultError" [.type "ValueError"] [.ref 38,.type "ValueError", .type "Exception", .type "BaseException", .type "object"] 37 [.ref 65,.ref 91,.ref 117,.ref 136] [some (.ref 22),none,some (st "VaultError" 196),some (st "VaultError" 204),some (.builtin "ValueError.__new__"),some (.bool true)],NJ,su 38,ii 38,Lo,o9,dA P 6 228 m1 "NoDial" 9 [en P "__init__" 240 (.ref 55),en P "word" 247 (.ref 62),en P "__static_attributes__" 249 (.ref 63)],b7 P,fi [11,4,54,14,4,61],cc "NoDial" 223 9 45 46 226,fr 47 44 "dialvault.errors" 194]++(fA P 49 233 "__init__" "NoDial.__init__" (mp 3 0) 11 2 ["self", "dial"] .none m1++(fA P 56 241 "word" "NoDial.word" (mp 3 1) 14 1 ["self"] .none m1++([tu [st "dial" 248],dB P 2 228 m1 9 [en P "__init__" 240 (.ref 55),en P "word" 247 (.ref 62),en P "__static_attributes__" 249 (.ref 63),en P "__doc__" 250 .none],ce "NoDial" 38 65 64 [] 42 221 229,su 65,ii 65,Lo,o9,dA P 6 260 m1 "NoLever" 16 [en P "__init__" 272 (.ref 81),en P "word" 279 (.ref 88),en P "__static_attributes__" 281 (.ref 89)],b7 P,fi [18,4,80,21,4,87],cc "NoLever" 255 16 71 72 258,fr 73 70 "dialvault.errors" 194]++(fA P 75 265 "__init__" "NoLever.__init__" (mp 4 0) 18 2 ["self", "lever"] .none m1++(fA P 82 273 "word" "NoLever.word" (mp 4 1) 21 1 ["self"] .none m1++([tu [st "lever" 280],dB P 2 260 m1 16 [en P "__init__" 272 (.ref 81),en P "word" 279 (.ref 88),en P "__static_attributes__" 281 (.ref 89),en P "__doc__" 282 .none],ce "NoLever" 38 91 90 [] 68 253 261,su 91,ii 91,Lo,o9,dA P 6 292 m1 "NoPrice" 23 [en P "__init__" 304 (.ref 107),en P "word" 311 (.ref 114),en P "__static_attributes__" 313 (.ref 115)],b7 P,fi [25,4,106,28,4,113],cc "NoPrice" 287 23 97 98 290,fr 99 96 "dialvault.errors" 194]++(fA P 101 297 "__init__" "NoPrice.__init__" (mp 5 0) 25 2 ["self", "lever"] .none m1++(fA P 108 305 "word" "NoPrice.word" (mp 5 1) 28 1 ["self"] .none m1++([tu [st "lever" 312],dB P 2 292 m1 23 [en P "__init__" 304 (.ref 107),en P "word" 311 (.ref 114),en P "__static_attributes__" 313 (.ref 115),en P "__doc__" 314 .none],ce "NoPrice" 38 117 116 [] 94 285 293,su 117,ii 117,Lo,o9,dA P 5 324 m1 "NoSetting" 30 [en P "word" 335 (.ref 133),en P "__static_attributes__" 336 (.ref 134)],b7 P,fi [32,4,132],cc "NoSetting" 319 30 123 124 322,fr 125 122 "dialvault.errors" 194]++(fA P 127 329 "word" "NoSetting.word" (mp 6 0) 32 1 ["self"] .none m1++([b7 P,dB P 2 324 m1 30 [en P "word" 335 (.ref 133),en P "__static_attributes__" 336 (.ref 134),en P "__doc__" 337 .none],ce "NoSetting" 38 136 135 [] 120 317 325,su 136,ii 136])))))))))))))))
def L7:Obj:=gd 485 244
def M6:Obj:=gw 487 244
def L1 P:=pt (L0 P) [(3,di 48 (en P "__name__" 165 m5::(gl P).take 47)),(12,fi [1,0,20,5,0,27,9,0,47,16,0,73,23,0,99,30,0,125,34,0,144,39,0,163,41,0,168,45,0,175,56,0,182,61,0,189,66,0,194,68,0,199,77,0,206,98,0,254,100,0,261,108,0,268,114,0,275,123,0,280,125,0,287,127,0,292,132,0,299,135,0,304,139,0,309,146,0,314,148,0,321,151,0,328,153,0,335,156,0,342,159,0,349,168,0,356,173,0,363]),(38,cl "VaultError" [.type "ValueError"] [.ref 38,.type "ValueError", .type "Exception", .type "BaseException", .type "object"] 37 [.ref 65,.ref 91,.ref 117,.ref 136,.ref 155] [some (.ref 22),none,some (st "VaultError" 196),some (st "VaultError" 204),some (.builtin "ValueError.__new__"),some (.bool true)])] ([Lo,o9,dA P 5 347 m1 "TooMany" 34 [en P "word" 358 (.ref 152),en P "__static_attributes__" 359 (.ref 153)],b7 P,fi [36,4,151],cc "TooMany" 342 34 142 143 345,fr 144 141 "dialvault.errors" 194]++(fA P 146 352 "word" "TooMany.word" (mp 7 0) 36 1 ["self"] .none m1++([b7 P,dB P 2 347 m1 34 [en P "word" 358 (.ref 152),en P "__static_attributes__" 359 (.ref 153),en P "__doc__" 360 .none],ce "TooMany" 38 155 154 [] 139 340 348,su 155,ii 155]++(fT P 158 365 "is_whole" (tp 9) 39 1 ["thing"] m2++(fB P 165 372 "is_row" "is_row" (tp 10) 41 2 .none m2++(fT P 170 378 "common" (tp 11) 45 2 ["one", "other", "row", "behind", "times", "rest"] m2++(fT P 177 390 "multiple_of" (tp 12) 56 1 ["numbers", "multiple", "number"] m2++(fT P 184 399 "product_of" (tp 13) 61 1 ["numbers", "product", "number"] m2++(fB P 191 408 "unit_row" "unit_row" (tp 14) 66 2 .none m2++(fB P 196 414 "rest_sum" "rest_sum" (tp 15) 68 3 .none m2++([b7 P,o9,dA P 9 441 m3 "Vault" 77 [en P "__init__" 451 (.ref 213),en P "sizes" 458 (.ref 220),en P "levers" 465 (.ref 227),en P "prices" 472 (.ref 234),en P "around" 479 (.ref 241),en P "__static_attributes__" 484 (.ref 242)],b7 P,fi [79,4,212,87,4,219,90,4,226,93,4,233,96,4,240],cc "Vault" 436 77 204 205 439,fr 206 203 "dialvault.vault" 420,tu [.none]]++(fB P 209 446 "__init__" "Vault.__init__" (mp 23 0) 79 4 (.ref 208) m3++(fA P 214 452 "sizes" "Vault.sizes" (mp 23 1) 87 1 ["self"] .none m3++(fA P 221 459 "levers" "Vault.levers" (mp 23 2) 90 1 ["self"] .none m3++(fA P 228 466 "prices" "Vault.prices" (mp 23 3) 93 1 ["self"] .none m3++(fA P 235 473 "around" "Vault.around" (mp 23 4) 96 1 ["self"] .none m3++([tu [st "dial_sizes" 480,st "least_round" 481,st "lever_prices" 482,st "lever_settings" 483],dB P 4 441 m3 77 [en P "__init__" 451 (.ref 213),en P "sizes" 458 (.ref 220),en P "levers" 465 (.ref 227),en P "prices" 472 (.ref 234),en P "around" 479 (.ref 241),en P "__static_attributes__" 484 (.ref 242),en P "__dict__" 486 (.ref 245),en P "__weakref__" 488 (.ref 246),en P "__doc__" 489 .none],cl "Vault" [.type "object"] [.ref 244,.type "object"] 243 [] [none,none,some (st "Vault" 434),some (st "Vault" 442),some (.builtin "object.__new__"),some (.bool true)],L7,M6,su 244,ii 244]++(fT P 249 492 "is_within" (tp 24) 98 3 ["thing", "least", "most"] m3++(fT P 256 501 "need_sizes" (tp 25) 100 1 ["sizes", "dial", "size"] m3++(fT P 263 510 "need_levers" (tp 26) 108 2 ["levers", "dials", "place", "lever"] m3++(fT P 270 520 "prices_for" (tp 27) 114 2 ["levers", "prices", "place"] m3++(fB P 277 529 "rests" "rests" (tp 28) 123 2 .none m3++(fT P 282 535 "nought" (tp 29) 125 1 ["vault"] m3++(fB P 289 542 "is_setting" "is_setting" (tp 30) 127 2 .none m3++(fT P 294 548 "need_setting" (tp 31) 132 2 ["vault", "thing"] m3++(fB P 301 556 "added" "added" (tp 32) 135 4 .none m3++(fB P 306 564 "weigh" "weigh" (tp 34) 139 3 .none m4++(fB P 311 572 "mixed" "mixed" (tp 36) 146 4 .none m5++(fT P 316 578 "mixed_made" (tp 37) 148 5 ["sizes", "made", "times", "other", "others", "doing"] m5++(fT P 323 590 "unpulled" (tp 38) 151 2 ["vault", "setting"] m5++(fT P 330 598 "pulled_once" (tp 39) 153 2 ["vault", "lever", "levers"] m5++(fT P 337 607 "step_size" (tp 40) 156 3 ["sizes", "made_rows", "dial", "notch"] m5++(fT P 344 617 "taken_in" (tp 41) 159 3 ["sizes", "made_rows", "left", "wider", "dial", "made", "step", "notch", "found"] m5++(fT P 351 632 "lowered" (tp 42) 168 4 ["sizes", "made_rows", "made", "first", "dial", "times"] m5++(fT P 358 644 "in_spans" (tp 43) 173 2 ["pulls", "idle_rows", "lever", "row"] m5)))))))))))))))))))))))))))))))))))
def MV:Obj:=gd 729 425
def ME:Obj:=gw 731 425
def L2 P:=pt (L1 P) [(3,di 67 (en P "__name__" 165 m8::gl P)),(12,fi [1,0,20,5,0,27,9,0,47,16,0,73,23,0,99,30,0,125,34,0,144,39,0,163,41,0,168,45,0,175,56,0,182,61,0,189,66,0,194,68,0,199,77,0,206,98,0,254,100,0,261,108,0,268,114,0,275,123,0,280,125,0,287,127,0,292,132,0,299,135,0,304,139,0,309,146,0,314,148,0,321,151,0,328,153,0,335,156,0,342,159,0,349,168,0,356,173,0,363,178,0,370,232,0,433,245,0,438,248,0,443,252,0,450,255,0,457,259,0,464,263,0,471,269,0,478,273,0,483,278,0,490,287,0,497,296,0,502,299,0,509,304,0,516,309,0,521,320,0,528,335,0,533])] ([b7 P,o9,dA P 13 661 m5 "Rungs" 178 [en P "__init__" 671 (.ref 376),en P "steps" 677 (.ref 381),en P "rows" 683 (.ref 386),en P "spans" 689 (.ref 391),en P "idle" 696 (.ref 398),en P "brought_down" 704 (.ref 405),en P "least" 712 (.ref 412),en P "pulls_to" 718 (.ref 417),en P "weights_at" 724 (.ref 422),en P "__static_attributes__" 728 (.ref 423)],b7 P,fi [180,4,375,192,4,380,196,4,385,199,4,390,202,4,397,205,4,404,209,4,411,212,4,416,218,4,421],cc "Rungs" 656 178 368 369 659,fr 370 367 "dialvault.rungs" 570]++(fB P 372 666 "__init__" "Rungs.__init__" (mp 44 0) 180 2 .none m5++(fB P 377 672 "steps" "Rungs.steps" (mp 44 1) 192 1 .none m5++(fB P 382 678 "rows" "Rungs.rows" (mp 44 2) 196 1 .none m5++(fB P 387 684 "spans" "Rungs.spans" (mp 44 3) 199 1 .none m5++(fA P 392 690 "idle" "Rungs.idle" (mp 44 4) 202 1 ["self"] .none m5++(fA P 399 697 "brought_down" "Rungs.brought_down" (mp 44 5) 205 2 ["self", "setting"] .none m5++(fA P 406 705 "least" "Rungs.least" (mp 44 6) 209 2 ["self", "setting"] .none m5++(fB P 413 713 "pulls_to" "Rungs.pulls_to" (mp 44 7) 212 2 .none m5++(fB P 418 719 "weights_at" "Rungs.weights_at" (mp 44 8) 218 2 .none m5++([tu [st "idle_rows" 725,st "made_rows" 726,st "vault" 727],dB P 4 661 m5 178 [en P "__init__" 671 (.ref 376),en P "steps" 677 (.ref 381),en P "rows" 683 (.ref 386),en P "spans" 689 (.ref 391),en P "idle" 696 (.ref 398),en P "brought_down" 704 (.ref 405),en P "least" 712 (.ref 412),en P "pulls_to" 718 (.ref 417),en P "weights_at" 724 (.ref 422),en P "__static_attributes__" 728 (.ref 423),en P "__dict__" 730 (.ref 426),en P "__weakref__" 732 (.ref 427),en P "__doc__" 733 .none],cl "Rungs" [.type "object"] [.ref 425,.type "object"] 424 [] [none,none,some (st "Rungs" 654),some (st "Rungs" 662),some (.builtin "object.__new__"),some (.bool true)],MV,ME,su 425,ii 425]++(fB P 430 740 "all_together" "all_together" (tp 47) 232 2 .none m6++(fB P 435 748 "clear" "clear" (tp 49) 245 1 .none m7++(fB P 440 754 "stills" "stills" (tp 50) 248 1 .none m7++(fT P 445 760 "all_stills" (tp 51) 252 1 ["vault"] m7++(fT P 452 769 "_law_cell" (tp 53) 255 2 ["_law_script", "_law_k"] m8++(fT P 459 777 "_law_mix" (tp 54) 259 2 ["_law_cell_here", "_law_k", "_law_number"] m8++(fT P 466 786 "_law_digits" (tp 55) 263 2 ["_law_cell_here", "_law_sizes_here", "_law_row", "_law_size_here"] m8++(fT P 473 796 "_law_size" (tp 56) 269 1 ["_law_number"] m8++(fB P 480 803 "_law_sizes" "_law_sizes" (tp 57) 273 1 .none m8++(fT P 485 809 "_law_lever" (tp 58) 278 2 ["_law_cell_here", "_law_sizes_here", "_law_factor", "_law_row", "_law_k", "_law_size_here", "_law_number"] m8++(fT P 492 822 "_law_round" (tp 59) 287 1 ["_law_sizes_here", "_law_found", "_law_size_here", "_law_one", "_law_other"] m8++(fB P 499 833 "_law_weigh" "_law_weigh" (tp 60) 296 3 .none m8++(fT P 504 839 "_law_product" (tp 61) 299 1 ["_law_numbers", "_law_found", "_law_number"] m8++(fT P 511 848 "_law_still" (tp 62) 304 3 ["_law_weights", "_law_levers", "_law_sizes_here", "_law_lever_here"] m8++(fB P 518 858 "_law_setting" "_law_setting" (tp 63) 309 3 .none m8++(fT P 523 864 "_law_listed" (tp 64) 320 4 ["_law_vault", "_law_levers", "_law_sizes_here", "_law_many", "_law_told", "_law_one", "_law_other", "_law_k"] m8++(fB P 530 878 "law" "law" (tp 65) 335 1 .none m8))))))))))))))))))))))))))))
def LF(P:Params):=L2 P
def bE:List Stmt:=behindTheImports pw
def env:Env:={ scope:=pw.main.scope,locals:=mainNs,globals:=mainNs,cells:=[],code:=.ref 13,frame:=some 14 }
def cE:Code:=.body bE env
abbrev B:List Frame:=[topFrame ⟨0,0,0,0⟩]
abbrev ann:Option Value:=(some (.ref 6))
def Ip:List Stmt:=(bE.drop 0).take 7
def Ha:List Stmt:=(bE.drop 7).take 37
def Jm:List Stmt:=(bE.drop 44).take 22
end
theorem yX:∀ w:World,(λos=>topGo treeTable pw w 11 ann 12 ⟨boot_heap w.params,⟨[]⟩,boot_drawn,boot_toks,os⟩ (topStub pw))=λos=>some (F LA 187 w os,⟨denote treeTable cE,cE,⟨0,0,0,0⟩,B⟩):=λw=>by
 rw[PySem.W.Fast.te15667345088766844465,PySem.W.Fast.te14364793385576792824,PySem.W.Fast.te11892475500146522536]
 kernel_rfl
theorem MY:∀ w:World,(λos=>segRun treeTable pw w 11 ann 1 1 (F LA 187 w os) (blockOf bE env cE ⟨0,0,0,0⟩ B))=λos=>some (Yb,(S LA 15 187 w os).abs,cE,⟨0,0,0,0⟩):=λw=>by
 rw[PySem.W.Fast.te14374325043358763698,PySem.W.Fast.te14364793385576792824]
 kernel_rfl
theorem ND:∀ w:World,(λos=>segRunT treeTable pw w 11 ann 1 1326 (S LA 15 187 w os) (piecesOf Ip env cE ⟨0,0,0,0⟩ B))=λos=>some (Yb,S L0 139 340 w os,cE,⟨30,0,33,16⟩):=λw=>by
 rw[PySem.W.Fast.te10110043849684766642,PySem.W.Fast.te14364793385576792824]
 kernel_rfl
theorem NR:∀ w:World,(λos=>segRunT treeTable pw w 11 ann 1 1427 (S L0 139 340 w os) (piecesOf Ha env cE ⟨30,0,33,16⟩ B))=λos=>some (Yb,S L1 365 654 w os,cE,⟨173,0,177,16⟩):=λw=>by
 rw[PySem.W.Fast.te10110043849684766642,PySem.W.Fast.te14364793385576792824]
 kernel_rfl
theorem Fo:∀ w:World,(λos=>segRunT treeTable pw w 11 ann 1 992 (S L1 365 654 w os) (piecesOf Jm env cE ⟨173,0,177,16⟩ B))=λos=>some (Yb,S L2 535 884 w os,cE,⟨335,0,353,75⟩):=λw=>by
 rw[PySem.W.Fast.te10110043849684766642,PySem.W.Fast.te14364793385576792824]
 kernel_rfl
theorem IZ:∀ w:World,(λos=>topRun treeTable pw w 11 ann 2 (S L2 535 884 w os).abs ⟨doneF .next,cE,⟨335,0,353,75⟩,B⟩)=λos=>some (F LF 884 w os):=λw=>by
 rw[PySem.W.Fast.te14082659384304107361,PySem.W.Fast.te14364793385576792824]
 kernel_rfl
theorem NO:bE=(Ip++(Ha++(Jm++[]))):=by kernel_rfl
theorem vS(w:World)(os:OsState):topRun treeTable pw w 11 ann (1326+(1427+(992+2))) (S LA 15 187 w os).abs (restOf bE env cE ⟨0,0,0,0⟩ B)=some (F LF 884 w os):=by
 rw[show restOf bE env cE ⟨0,0,0,0⟩ B=restOf (Ip++(Ha++(Jm++[]))) env cE ⟨0,0,0,0⟩ B from congrArg (λb=>restOf b env cE ⟨0,0,0,0⟩ B) NO];exact piece_app (segRun_of (congrFun (ND w) os)) (piece_app (segRun_of (congrFun (NR w) os)) (piece_app (segRun_of (congrFun (Fo w) os)) (piece_nil (congrFun (IZ w) os))))
theorem L9(w:World)(os:OsState):topRun treeTable pw w 11 ann (12+(1+(1326+(1427+(992+2))))) ⟨boot_heap w.params,⟨[]⟩,boot_drawn,boot_toks,os⟩ (topStub pw)=some (F LF 884 w os) :=
 go_top (congrFun (yX w) os) (piece_block (congrFun (MY w) os) (vS w os))
end HD
end
section
namespace HD
open PySem PySem.W L2
noncomputable section
def vw:Program:=PySem.W.view pw [0,2,3,4,5,6,7,9,10,11,12,13,14,15,17,18,19,20,21,22,23,24,25,26,27,28,29,30,31,32,34,36,37,38,39,40,41,42,43,44,46,47,49,50,51,53,54,55,56,57,58,59,60,61,62,63,64,65]
def loose:List Str:=[]
noncomputable def as:List Addr:=[2,3,15,17,18,20,21,22,29,31,32,34,35,36,37,38,39,42,49,51,52,54,55,56,58,59,61,62,63,64,65,68,75,77,78,80,81,82,84,85,87,88,89,90,91,94,101,103,104,106,107,108,110,111,113,114,115,116,117,120,127,129,130,132,133,134,135,136,139,146,148,149,151,152,153,154,155,158,160,161,163,164,165,168,169,170,172,173,175,176,177,179,180,182,183,184,186,187,189,190,191,194,195,196,199,200,208,209,212,213,214,216,217,219,220,221,223,224,226,227,228,230,231,233,234,235,237,238,240,241,242,243,244,245,246,249,251,252,254,255,256,258,259,261,262,263,265,266,268,269,270,272,273,275,276,277,280,281,282,284,285,287,288,289,292,293,294,296,297,299,300,301,304,305,306,309,310,311,314,315,316,318,319,321,322,323,325,326,328,329,330,332,333,335,336,337,339,340,342,343,344,346,347,349,350,351,353,354,356,357,358,360,361,363,364,372,375,376,377,380,381,382,385,386,387,390,391,392,394,395,397,398,399,401,402,404,405,406,408,409,411,412,413,416,417,418,421,422,423,424,425,426,427,430,433,434,435,438,439,440,443,444,445,447,448,450,451,452,454,455,457,458,459,461,462,464,465,466,468,469,471,472,473,475,476,478,479,480,483,484,485,487,488,490,491,492,494,495,497,498,499,502,503,504,506,507,509,510,511,513,514,516,517,518,521,522,523,525,526,528,529,530,533,534]
def K(P:Params):Frag:=as.map λa=>(a,(LF P).getD a (su 0))
def hook:Hook:=kHook K as (λ_=>by kernel_rfl)
abbrev rr:RowW:=(PySem.Challenge.rw_dialvault_k44_whole_stills_of_stills.row).toRowW
def Xt:Shared->Bool:=λs=>xlAt vw [] s&&recOk (RowW.records rr) s
def H1(P:Params):Heap:=⟨⟨LF P⟩,{}⟩
end
theorem Ki:∀ w:World,((boot_heap w.params).isNs mainGlobals&&(Array.mk []:Array GenState).size==0,(boot_heap w.params).objs.size,(boot_heap w.params).nsMap mainGlobals "__annotations__")=(true,11,ann):=λw=>by
 rw[PySem.W.Fast.te8920871248978507458]
 kernel_rfl
theorem NK(w:World):staticsOk (importedModules pw.main.body) (boot_heap w.params) (H1 w.params)=true:=by
 first | (rw[PySem.W.Fast.te4187177175401517315,PySem.W.Fast.te5923862056798008813];kernel_rfl) | (rw[PySem.W.Fast.te4187177175401517315];kernel_rfl) | (rw[PySem.W.Fast.te5923862056798008813];kernel_rfl) | (kernel_rfl)
theorem N3(w:World):namesBound pw (H1 w.params)=true:=by
 first | (rw[PySem.W.Fast.te4187177175401517315,PySem.W.Fast.te5923862056798008813];kernel_rfl) | (rw[PySem.W.Fast.te4187177175401517315];kernel_rfl) | (rw[PySem.W.Fast.te5923862056798008813];kernel_rfl) | (kernel_rfl)
theorem N2(w:World)(os:_):gensDone ⟨H1 w.params,⟨[]⟩,⟨0,0,0,0⟩,884,os⟩=true:=by
 first | (rw[PySem.W.Fast.te4187177175401517315,PySem.W.Fast.te5923862056798008813];kernel_rfl) | (rw[PySem.W.Fast.te4187177175401517315];kernel_rfl) | (rw[PySem.W.Fast.te5923862056798008813];kernel_rfl) | (kernel_rfl)
theorem NF(w:World):laidKept (boot_heap w.params) (H1 w.params)=true:=by
 first | (rw[PySem.W.Fast.te4187177175401517315,PySem.W.Fast.te5923862056798008813];kernel_rfl) | (rw[PySem.W.Fast.te4187177175401517315];kernel_rfl) | (rw[PySem.W.Fast.te5923862056798008813];kernel_rfl) | (kernel_rfl)
theorem NI(w:World)(os:_):openSeen vw loose (importedModules pw.main.body) Xt true ⟨H1 w.params,⟨[]⟩,⟨0,0,0,0⟩,884,os⟩=openGood vw loose:=by
 first | (rw[PySem.W.Fast.te4187177175401517315,PySem.W.Fast.te5923862056798008813];kernel_rfl) | (rw[PySem.W.Fast.te4187177175401517315];kernel_rfl) | (rw[PySem.W.Fast.te5923862056798008813];kernel_rfl) | (kernel_rfl)
theorem NP(w:World)(os:_):Hook.obs hook ⟨H1 w.params,⟨[]⟩,⟨0,0,0,0⟩,884,os⟩=Hook.val hook w:=by
 first | (rw[PySem.W.Fast.te4187177175401517315,PySem.W.Fast.te5923862056798008813];kernel_rfl) | (rw[PySem.W.Fast.te4187177175401517315];kernel_rfl) | (rw[PySem.W.Fast.te5923862056798008813];kernel_rfl) | (kernel_rfl)
theorem Je:∀ w:World,(λos=>((staticsOk (importedModules pw.main.body) (boot_heap w.params) (H1 w.params)&&namesBound pw (H1 w.params)&&gensDone ⟨H1 w.params,⟨[]⟩,⟨0,0,0,0⟩,884,os⟩&&laidKept (boot_heap w.params) (H1 w.params)),
  openSeen vw loose (importedModules pw.main.body) Xt true ⟨H1 w.params,⟨[]⟩,⟨0,0,0,0⟩,884,os⟩,Hook.obs hook ⟨H1 w.params,⟨[]⟩,⟨0,0,0,0⟩,884,os⟩))=λ_=>(true,openGood vw loose,Hook.val hook w):=λw=>funext λos=>by
 rw[NK,N3,N2,NF,NI,NP];rfl
theorem K7:LeftO pw vw loose Xt (Hook.obs hook) (Hook.val hook) 7610 :=
 LeftO.of_pieces (H₀:=boot_heap) (H₁:=H1) (gs₀:=⟨[]⟩) (gs₁:=⟨[]⟩) (d₀:=boot_drawn) (d₁:=⟨0,0,0,0⟩) (k₀:=boot_toks) (k₁:=884) (m₀:=11) (ann:=ann) (M:=(12+(1+(1326+(1427+(992+2))))))
  (boot_open (by kernel_rfl) (by kernel_rfl) (λs=>by kernel_rfl)) Ki L9 (by kernel_rfl) Je
end HD
end
section
open PySem PySem.W
theorem HD.said:PySem.Challenge.rw_dialvault_k44_whole_stills_of_stills.wellSaid=true:=by
 decide +kernel
end
namespace L2
open PySem PySem.Spec PyProof.Rows
variable{X:Cx}
variable{n:Nat}
def BK(_ j:Int):Prop:=j≠0/\j.natAbs.log2<9000
theorem CO:hV X (binaryOp .FloorDiv) (rI BK λi j=>.int (i.fdiv j)):=Ma λ_ _ _ _ _ _ _ hc q=>floordiv_int hc.1 q (.inl (PyProof.noPylong_of_log2 hc.2))
theorem FI:hV X (binaryOp .Mult) (rI (λi j=>IntMulOk i j) λi j=>.int (i*j)):=Ma λ_ _ _ _ _ _ _ hc q=>mul_int q hc
theorem Av{a b:Int}{m:Nat}(ha:a.natAbs<2^m)(hb:b.natAbs<2^n)(h:m+n<=134217728):IntMulOk a b:=IntMulOk.of_le (intBits_le_iff.mpr ha) (intBits_le_iff.mpr hb) h
theorem CS:bootBuiltins "isinstance" = some (.builtin "isinstance"):=by decide +kernel
theorem Dm:bootBuiltins "int" = some (.type "int"):=by decide +kernel
theorem DY:bootBuiltins "bool" = some (.type "bool"):=by decide +kernel
theorem qh:bootBuiltins "tuple" = some (.type "tuple"):=by decide +kernel
theorem yp:bootBuiltins "list" = some (.type "list"):=by decide +kernel
theorem Gy:bootBuiltins "sum" = some (.builtin "sum"):=by decide +kernel
def Na(K:PySem.W.Frag):List V->Hp->VK->Prop:=λxs H Q=>∃ x T t b,xs=[x,.ty T]/\jM K H x t/\PySem.W.kitOne K t (.type T)=some b/\Q (.bl b) H
theorem AU:dw X (.builtin "isinstance") (Na X.K):=by
 intro N5 s σ H xs us Q I r h;obtain⟨x,T,t,b,rfl,ty,e,q⟩:=h;cases r with
 | cons r1 r2 =>
  cases r2 with
  | cons r3 r4 =>
   cases r4;cases (show _=U7 T from r3);exact zI I r1 ty e λtk=>⟨.bl b,H,I.tok tk,rfl,q⟩
section
variable(K:PySem.W.Frag)
end
variable{ch:List Addr}{t':Nat}{h':Heap}{s:Shared}{H:Hp}{σ:St}{N5:List (Addr×Obj)}
variable{x1:Nat}{elts:List Expr}{w:World}{P:Program}
theorem Inv.kh{a:Addr}{o:HO}(I:Inv X N5 σ H s)(k:∀ b u,b ∉ ch->s.heap.get? b=some u->h'.get? b=some u)
  (Qe:∀ b∈ch,lV X N5 H b) (hp:s.heap.objs.size<=a) (hl:∀ b∈ch,∃ u,s.heap.get? b=some u) (new:b_ X.prog X.w (upd H a o) h' a o):Inv X N5 σ (upd H a o) { s with heap:=h',toks:=t' }:=by
 have ne:∀ b u,s.heap.get? b=some u->b≠a:=λb u e=>Tu (S_ (S7 e) hp);have QY:H a=none:=I.bB.fresh hp;have Rb:∀ b u,H b=some u->b ∉ ch:=λb u e z=>by rw[(Qe b z).1] at e;cases e
 have Ra:∀ b u,H b=some u->b≠a:=λb u e z=>by rw[z,QY] at e;cases e
 refine I.step (g':=s.gens) (d':=s.drawn) (ch:=ch) (λb hb=>?_) (λb u _ _ hc e _=>k b u hc e) (λb u _ _ hc e _=>⟨u.slots,k b u hc e⟩)
  (λb u _ e n=>by rw[au (ne b u e)];exact n) (λb u hc e=>⟨u,k b u hc e⟩)
  (λb xs e=>by rw[au (Ra b _ e)];exact e) (λb ob u e=>by rw[au (Ra b _ e)];exact e) (λb ps e=>⟨#[],by rw[au (Ra b _ e),e];simp⟩) (λm hm=>?_) (λb u e=>?_) I.bare
 .obtain⟨_,f1,_,f3,f4,f5⟩:=Qe b hb;exact⟨f3,f1,f4,f5⟩
 .obtain⟨ob,es,ep,ho,r⟩:=hm;exact⟨ob,es,ep,k _ ob (λz=>(Qe _ z).2.1 rfl) ho,r⟩
 .by_cases z:b=a
  .subst z;rw[aE] at e;cases e;exact new
  .rw[au z] at e;refine(I.bB b u e).lQ (λc v hc q=>k c v ?_ q) (λc q=>?_) λc ys q=>?_
   .rcases hc with z' | z'
    .rw[z'];exact Rb b u e
    .exact Rb c _ z'
   .rw[au (Ra c _ q)];exact q
   .rw[au (Ra c _ q)];exact q
def Ji (K : PySem.W.Frag) (a : Addr) : It :=
  ⟨λi H => ∃ xs x, iB K H a xs /\ xs[i]? = some x,
   λi H y H' => ∃ p x, H p = none /\ y = .ref p /\ H' = upd H p (.tup [.int i, x]) /\ ∀ xs, iB K H a xs -> xs[i]? = some x,
   λi H => ∃ xs, iB K H a xs /\ xs.length <= i⟩
theorem yG{K:PySem.W.Frag}{tp:Pos}(a e it:Addr)(QC:e≠it):Turn P w K (.Tuple elts x1 tp) (Ji K a) [e,it] e (λi h=>(∃ old,IsEnum h e it i old)/\h.IsListIter it a i) where
 mem:=by simp
 obj:=λi h st b hb=>by
  obtain⟨⟨old,he⟩,⟨o,e1,c,d⟩⟩:=st;rcases Tt.mp hb with z | z
  .subst z;exact⟨_,he,λv z=>by cases z⟩
  .have z':b=it:=by simpa using z
   subst z';exact⟨o,e1,λv z=>by rw[d] at z;cases z⟩
 keep:=λi h h' st k=>by
  obtain⟨⟨old,he⟩,hit⟩:=st;exact⟨⟨old,k e (by simp) _ he⟩,hit.at λo x=>k it (by simp) o x⟩
 item:=by
  intro X hP hw hK hc i N5 s σ H E I hf st hg;subst hP hw hK;obtain⟨xs,x,hq,hx⟩:=hg;obtain⟨N9,rv,p,hz⟩:=I.list hq;obtain⟨u,hu,ru⟩:=rv.get hx;obtain⟨⟨old,he⟩,hit⟩:=st;have QW:e<s.heap.objs.size:=S7 he;have RI:it<s.heap.objs.size:=by obtain⟨_,z,_⟩:=hit;exact S7 z
  refine wpAny_pyNext_enum_item he hit p.isList (x:=u) (by simpa using hu) QC λh' ho RJ hT Pd hk=>⟨_,rfl,?_⟩
  refine XN (s:={ s with heap:=h',toks:=s.toks+1 }) ho λh2 he2 PH=>?_;have Q8:∀ b o,b ∉ [e,it]->s.heap.get? b=some o->h2.get? b=some o:=λb o hb q=>by
   have n1:b≠e:=λz=>hb (by simp[z]);have n2:b≠it:=λz=>hb (by simp[z]);exact(PH.2 b n1).trans (hk b o n1 n2 q)
  have Ro:h2.get? s.heap.objs.size=some { cls:=.type "tuple", data:=.seq #[.int i s.toks,u] }:=(PH.2 _ (Vk QW)).trans hT;have I2:Inv X N5 σ (upd H s.heap.objs.size (.tup [.int i,x])) { s with heap:=h2,toks:=s.toks+1 } :=
   I.kh (ch:=[e,it]) Q8 hf (SX _) (λb hb=>by
    rcases Tt.mp hb with z | z
    .subst z;exact⟨_,he⟩
    .have z':b=it:=by simpa using z
     subst z';obtain⟨o,z,_⟩:=hit;exact⟨o,z⟩)
    ⟨by show 2<=sizeLine;decide,[.int i s.toks,u],.cons ⟨_,rfl⟩ (.cons ru .nil),⟨_,Ro,rfl,_,rfl⟩⟩
  have PF:H s.heap.objs.size=none:=I.bB.fresh (SX _);refine⟨.ref s.heap.objs.size,_,I2,rfl,⟨_,x,PF,rfl,rfl,λys hy=>by rw[I.pH hy hq];exact hx⟩,⟨⟨u,by simpa using he2⟩,RJ.at λo z=>(PH.2 it (Vb QC)).trans z⟩,λb hb=>?_⟩;have nb:b≠s.heap.objs.size:=by
   rcases Tt.mp hb with z | z
   .rw[z];exact Tu QW
   .have z':b=it:=by simpa using z
    rw[z'];exact Tu RI
  rw[au nb];exact(hf b hb).1
 done:=by
  intro X hP hw hK hc i N5 s σ H E I hf st hg;subst hP hw hK;obtain⟨xs,hq,hx⟩:=hg;obtain⟨N9,rv,p,hz⟩:=I.list hq;have hl:=rv.length;obtain⟨⟨old,he⟩,hit⟩:=st;obtain⟨f0,f1,f2,f3,f4,f5⟩:=hf it (by simp);exact wpAny_pyNext_enum_end (I.ok.hd hc) he hit p.isList (by simp;lia) λh' eb=>⟨rfl,I.turned (t':=s.toks) (λb o hb e=>eb b o hb e) f0 f1 f3 f4 f5⟩
 self:=λ_ _ _ _ _ st h=>by
  obtain⟨⟨old,he⟩,_⟩:=st;exact WN he h
variable{A:Around}{prog:Program}
variable{scope:Scope}{ifs:List Expr}{elt iter:Expr}
section
variable{R:Result->Shared->Prop}
theorem zv{target:Expr}{pos:Pos}{it acc:Value}{env:Env}(I:Nat->Shared->Prop)
  (turn:∀ n s,I n s->wpAny (model prog w) A (pyNext it) (λr s₁=>match r with
   | none=>R (.ok .next) s₁
   | some v=>wpAny (model prog w) A (letOwnedTupleGo target it v) (λ_ s₂=>wpAny (model prog w) A (assign target env v) (λ_ s₃ =>
     wpAny (model prog w) A (forIn ifs true λc r=>if r=true then do let ok <- isTrue c env (eval c env);pure (YI ok) else pure (YI r)) (λok s₄ =>
      if ok=true then wpAny (model prog w) A (eval elt env) (λx s₅ =>
       wpAny (model prog w) A (call (.builtin "list.append") [acc,x]) (λ_ s₆=>∃ m,m<n/\I m s₆) (λ_ _=>False) s₅) (λ_ _=>False) s₄
      else ∃ m,m<n/\I m s₄) (λ_ _=>False) s₃) (λ_ _=>False) s₂) (λ_ _=>False) s₁) (λ_ _=>False) s)
  (n:Nat) (h:I n s) :
  codeAny (model prog w) A (.compLoop (.ListComp elt [⟨target,iter,ifs,0⟩] scope pos) 0 it acc env) R s:=by
 refine codeAny_loop rfl I (λn s hI=>?_) n h;show wpAny _ A ((compTurn (.ListComp elt [⟨target,iter,ifs,0⟩] scope pos) 0 it acc env).onRaise (λx=>do noteFrame x env;theTreesLotGoes x)) _ _ s;refine wpAny_noted ?_;rw[compTurn_list];refine RM (WC (RM (UU (turn n s hI) (λr s₁ h₁=>?_) λ_ _ h'=>h'.elim)));cases r with
 | none=>exact SY h₁
 | some v =>
  refine RM (UU h₁ (λ_ s₂ h₂=>RM (UU h₂ (λ_ s₃ h₃=>RM (UU h₃ (λok s₄ h₄=>?_) λ_ _ h'=>h'.elim)) λ_ _ h'=>h'.elim)) λ_ _ h'=>h'.elim);cases ok with
  | false=>exact SY ⟨rfl,h₄⟩
  | true =>
   exact RM (RM (UU h₄ (λx s₅ h₅=>RM (UU h₅ (λ_ s₆ h₆=>SY (SY ⟨rfl,h₆⟩)) λ_ _ h'=>h'.elim)) λ_ _ h'=>h'.elim))
end
def nZ(X:Cx)(scope:Scope)(cl:List (Str×Addr))(N:List Str)(C:Addr)(s₀:Shared)(H₀:Hp)(ex:List Addr)(N5:List (Addr×Obj)):Cx :=
 { X with N:=N,s₀:=s₀,H₀:=H₀,env:=compEnvC scope cl C X.env,outer:=X.stack,stack:=X.stack,ex:=ex,fn:=λ_=>false,pn:=X.pn++N5,xe:=λ_ _=>False }
inductive iC (X:Cx) (sc:Scope) (cl:List (Str×Addr)):List Str->List Nat->Prop where
 | nil:iC X sc cl [] []
 | cons {x:Str} {j:Nat} {c:Addr} {fs:List Str} {js:List Nat} (hN:X.N[j]?=some x) (hf:sc.names.lookup x=some .free) (hv:X.env.kindOf x=some .cell\/X.env.kindOf x=some .free) (hc:X.env.cells.lookup x=some c) (hl:cl.lookup x=some c) (r:iC X sc cl fs js):iC X sc cl (x::fs) (j::js)
inductive eE (X:Cx):List (Str×Addr)->Prop where
 | nil:eE X []
 | cons {x:Str} {c:Addr} {r:List (Str×Addr)} (h:X.env.cells.lookup x=some c) (t:eE X r):eE X ((x,c)::r)
theorem eE.at{X:Cx}:∀ {cl:List (Str×Addr)},eE X cl->∀ x c,cl.lookup x=some c->X.env.cells.lookup x=some c
 | _,.nil,_,_,e=>by simp at e
 | _,.cons (x:=y) (c:=d) h t,x,c,e=>by
  rw[UR] at e;cases q:x==y with
  | true =>
   rw[q] at e;have e':d=c:=Ti e;have q':x=y:=by simpa using q
   rw[q',<- e'];exact h
  | false =>
   rw[q] at e;exact eE.at t x c e
def gE(cl:List (Str×Addr))(names:List (Str×NameKind)):Bool:=names.all λy=>y.2 != .free||(cl.lookup y.1).isSome
def fv(names:List (Str×NameKind)):Bool:=names.all λy=>y.2 != .cell
def gA(names:List (Str×NameKind)):Bool:=names.all λy=>y.2 != .local||(names.lookup y.1==some .local)
def fP(ts:List Str)(js:List Nat)(σ:St):St:=ts.map (λ_=>none)++js.map λj=>(σ[j]?).join
def C8(wi:TI)(g:TG)(tt:Option TT)(te:TE)(ts:List Str)(js:List Nat):TE:=fun σ H Q=>wi σ H λJ H1=>∀ D,H1 D=none ->
 ∃ W:Nat->Nat->St->Hp->Prop,(∃ m,W 0 m (fP ts js σ) (upd H1 D (.lst [])))/\∀ i m σ' H',W i m σ' H' ->
  (J.stop i H'/\Q (.ref D) H')\/(J.go i H'/\∃ N:St->Hp->Prop,(∀ σ'' H'',N σ'' H''->∃ m',m'<m/\W (i+1) m' σ'' H'') ∧
   ∀ x H2,J.wg i H' x H2->g x σ' H2 fun σ2 H3=>match tt with
    | none=>te σ2 H3 λy H4=>∃ ys,H4 D=some (.lst ys)/\ys.length<sizeLine/\N σ2 (upd H4 D (.lst (ys++[y])))
    | some t=>t σ2 H3 λb R0=>if b=true then te σ2 R0 λy H4=>∃ ys,H4 D=some (.lst ys)/\ys.length<sizeLine/\N σ2 (upd H4 D (.lst (ys++[y]))) else N σ2 R0)
variable{x:Str}{C:Addr}
theorem oz {cl : List (Str × Addr)} {env : Env} (h : (compEnvC scope cl C env).kindOf x = some .cell \/ (compEnvC scope cl C env).kindOf x = some .free) (nc : fv scope.names = true) : scope.names.lookup x = some .free := by
  have key : ∀ (names : List (Str × NameKind)), fv names = true ->
      ((names.map λ(n, k) => if (k == W_ && env.scope.kind == .function && env.kindOf n == some .cell) then (n, Ze) else (n, k)).lookup x = some .cell ∨
       (names.map λ(n, k) => if (k == W_ && env.scope.kind == .function && env.kindOf n == some .cell) then (n, Ze) else (n, k)).lookup x = some .free) -> names.lookup x = some .free := by
    intro names
    induction names with
    | nil => intro _ h; simp at h
    | cons p r ih =>
      obtain ⟨n, k⟩ := p;intro nc h;have nc' : (k != .cell) = true /\ fv r = true := by
        unfold fv at nc;rw [List.all_cons, Ud] at nc;exact nc
      rw [Tw] at h;dsimp only at h
      by_cases hc : (k == W_ && env.scope.kind == .function && env.kindOf n == some .cell) = true
      . rw [if_pos hc] at h;rw [UR] at h ⊢;cases q : x == n with
        | true =>
          have : k = .free := by
            rw [Ud, Ud] at hc;simpa using hc.1.1
          rw [this]
        | false =>
          rw [q] at h;exact ih nc'.2 h
      . rw [if_neg hc] at h;rw [UR] at h ⊢;cases q : x == n with
        | true =>
          rw [q] at h;have nk : k ≠ .cell := by simpa using nc'.1
          rcases h with h | h
          . exact absurd (Ti h) nk
          . exact h
        | false =>
          rw [q] at h;exact ih nc'.2 h
  exact key scope.names nc h
variable{js:List Nat}{ts:List Str}{te:TE}{tt:Option TT}{Oo:Pos}{tg:Expr}
theorem vL{cl:List (Str×Addr)}{pos:Pos}{wi:TI}{g:TG}{fs:List Str}(Of:X.calm=true)
  (OB:closureFor scope X.env=pure cl) (hk:scope.kind=.function) (nc:fv scope.names=true) (lo:gA scope.names=true) (fh:gE cl scope.names=true) (ag:eE X cl) (fr:iC X scope cl fs js)
  (hi:PI X tg iter wi) (hg:∀ C s₀ H₀ ex N5,PG (nZ X scope cl (ts++fs) C s₀ H₀ ex N5) tg g)
  (ht:∀ C s₀ H₀ ex N5,match ifs,tt with | [],none=>True | [c],some t=>PT (nZ X scope cl (ts++fs) C s₀ H₀ ex N5) c t | _,_=>False)
  (he:∀ C s₀ H₀ ex N5,PE (nZ X scope cl (ts++fs) C s₀ H₀ ex N5) elt te)
  (hs:∀ x,foldedSetIterable iter X.env x=pure x) {Q:VK} (I:Inv X N5 σ H s) (h:C8 wi g tt te ts js σ H Q)
  (use:Option (Value->Sem Unit)) (Qv:Value->Shared->Prop)
  (IZ:∀ (D:Addr) (H':Hp) (s':Shared) (C:Addr),Inv X N5 σ H' s'->Q (.ref D) H'->(∃ m,s'.heap.Ns C m)->lV X N5 H' C->compPost (model X.prog X.w) X.A X.xe use Qv (.ref D) C (.ok .next) s') :
  wpAny (model X.prog X.w) X.A (comprehension (.ListComp elt [⟨tg,iter,ifs,0⟩] scope pos) scope X.env Oo (newList []) false (eval iter X.env) use) Qv X.xe s:=by
 have Qz:∀ y∈scope.names,y.2≠.cell:=λy hy=>by
  have:=UB.mp nc y hy;simpa using this
 have RL:∀ y∈scope.names,y.2=.local->scope.names.lookup y.1=some .local:=λy hy hl=>by
  have:=UB.mp lo y hy;rw[hl] at this;simpa using this
 refine wpAny_comprehension_free (use:=use) rfl hs OB hk RL (cX (hi N5 s σ H _ I h) λv s1 h1=>cX h1 λitv s2 h2=>?_);obtain⟨it,fp,tn,J,H1,e,I2,T,Oq,f2,hJ⟩:=h2;subst e;refine UX (wpAny_newFunctionEnv Qz (by intro y hy;simp at hy) (λh₁ hns1 hsb1=>?_) hk);dsimp only at hns1 hsb1 ⊢;generalize hH2:s2.heap.push { cls:=.type "list", dict:=none,data:=.seq ([]:List Value).toArray }=G at hns1 hsb1 ⊢;have hC:G.objs.size=s2.heap.objs.size+1:=by rw[<- hH2,Ua]
 have old:∀ b o,s2.heap.get? b=some o->h₁.get? b=some o:=λb o e=>by
  have hb:=S7 e;refine hsb1.extBut b o (Tu (S_ hb (VS (by rw[hC];exact Ve _)))) (SQ _ ?_);rw[<- hH2];exact SQ _ e
 have hacc:h₁.get? s2.heap.objs.size=some { cls:=.type "list", dict:=none,data:=.seq #[] }:=by
  refine hsb1.extBut _ _ (Tu (by rw[hC];exact Ve _)) (SQ _ ?_);rw[<- hH2];exact S2 _ rfl
 have nD:H1 s2.heap.objs.size=none:=I2.bB.fresh (SX _);have nC:H1 G.objs.size=none:=I2.bB.fresh (by lia);obtain⟨W,⟨m0,w0⟩,turn⟩:=hJ _ nD;have Sf:∀ b∈fp,b<s2.heap.objs.size:=λb hb=>by
  obtain⟨o,e,_⟩:=T.obj _ _ Oq b hb;exact S7 e
 have ltk:∀ (x:Str) (c:Addr),cl.lookup x=some c->c<s2.heap.objs.size/\H1 c=none/\(∃ v,s2.heap.IsCell c v):=λx c e=>by
  have e':=ag.at x c e;obtain⟨v,q⟩:=I2.cell x c e';exact⟨q.lt,I2.gq x c e',v,q⟩
 let X':=nZ X scope cl (ts++fs) G.objs.size s2 H1 fp N5
 have okX:X'.Ok:=by
  refine⟨I2.ok.mod,hk,I2.ok.glob,I2.ok.blt,by show s2.heap.objs.size<=G.objs.size;lia,λx y c e1 e2=>I2.ok.inj x y c (ag.at x c e1) (ag.at y c e2),λx hx=>?_,λx c hf _=>(nomatch (show (false:Bool)=true from hf)),I2.ok.hd,I2.ok.frames,.inl rfl,λb hb=>⟨?_,λx c e z=>?_⟩,λb o e=>I2.bs b o e,TJ I2.ok.Dr I2.sz,λb o e hb=>?_,λb hb hz=>?_,I2.stack,λb hb=>I2.ui b hb⟩
  .have QA:=oz (env:=X.env) hx nc;have hm:∃ y∈scope.names,y.1=x/\y.2=.free:=by
    have:∀ (l:List (Str×NameKind)),l.lookup x=some .free->∃ y∈l,y.1=x/\y.2=.free:=by
     intro l
     induction l with
     | nil=>intro h;simp at h
     | cons p r ih =>
      intro h;rw[UR] at h;cases q:x==p.1 with
      | true =>
       rw[q] at h;exact⟨p,Tp,(by simpa using q:x=p.1).symm,Ti h⟩
      | false =>
       rw[q] at h;obtain⟨y,hy,r1,r2⟩:=ih h;exact⟨y,Tf _ hy,r1,r2⟩
    exact this _ QA
   obtain⟨y,hy,r1,r2⟩:=hm;have:=UB.mp fh y hy;rw[r2] at this;have h':(cl.lookup y.1).isSome=true:=by simpa using this
   rw[r1] at h';exact WD.mp h'
  .exact Tu (S_ (Sf b hb) (by show s2.heap.objs.size<=G.objs.size;lia))
  .exact(f2 b hb).2.2.2.2.1 x c (ag.at x c e) z
  .obtain⟨_,_,_,f3,_,_⟩:=f2 b hb;rcases f3 with z | z
   .exact I2.ok.tP b o e z
   .exact absurd (S_ (S7 (I2.ok.bs b o e).1) z) (VU _)
  .rcases Tt.mp (I2.uD b hz) with z | z
   .exact(f2 b hb).2.1 z
   .exact(f2 b hb).2.2.1 z
 have keepB:∀ b o,s2.heap.get? b=some o->h₁.get? b=some o:=old;have I3:Inv X' [] (fP ts js σ) (upd H1 s2.heap.objs.size (.lst [])) { s2 with heap:=h₁,toks:=s2.toks+([]:List (Str×Value)).length }:=by
  have neD:∀ b o,s2.heap.get? b=some o->b≠s2.heap.objs.size:=λb o e=>Tu (S7 e);refine⟨okX,rfl,I2.bare,⟨λb o e n hb hx=>old b o e,λb o e n hb hx=>⟨o.slots,old b o e⟩,λb o e n hx=>by rw[au (neD b o e)];exact n,λb o e hx=>⟨o,old b o e⟩,λb xs e=>?_,λb o u e=>?_,λb ps e=>?_⟩,⟨_,hns1,λi x v e1 e2 e3=>?_⟩,λx c e=>?_,?_,λx c e=>?_,λp hp=>?_,?_,?_⟩
  .rw[au (bQ e nD)];exact e
  .rw[au (bQ e nD)];exact e
  .exact⟨#[],by rw[au (bQ e nD)];exact T7 e (by simp)⟩
  .
   have hlen:(ts.map (λ_=>(none:Option V))).length=ts.length:=S0 _;unfold fP at e2
   by_cases ON:i<ts.length
   .rw[TH (by rw[hlen];exact ON),Tr] at e2;cases q:ts[i]? <;> rw[q] at e2 <;> cases e2
   .rw[Tj (by rw[hlen];lia),hlen] at e2;have e1':fs[i-ts.length]?=some x:=by
     have e1':(ts++fs)[i]?=some x:=e1;rw[Tj (by lia)] at e1';exact e1'
    have all:∀ {fs:List Str} {js:List Nat},iC X scope cl fs js->∀ k:Nat,fs[k]?=some x->(js.map λj=>(σ[j]?).join)[k]?=some (some v) ->
      ∃ (j:Nat) (c:Addr),X.N[j]?=some x/\σ[j]?=some (some v)/\(X.env.kindOf x=some .cell\/X.env.kindOf x=some .free)/\X.env.cells.lookup x=some c/\cl.lookup x=some c/\scope.names.lookup x=some .free:=by
     intro fs js r
     induction r with
     | nil=>intro k e;simp at e
     | @cons y j c fs js hN hf hv hc hl r ih =>
      intro k e e';cases k with
      | zero =>
       have e0:y=x:=by simpa using e
       subst e0;have R4:(σ[j]?).join=some v:=by simpa using e'
       refine⟨j,c,hN,?_,hv,hc,hl,hf⟩;cases q:σ[j]? with
       | none=>rw[q] at R4;cases R4
       | some z=>rw[q] at R4;cases z with
        | none=>cases R4
        | some z =>
         have:z=v:=by simpa using R4
         rw[this]
      | succ k=>exact ih k (by simpa using e) (by simpa using e')
    obtain⟨j,c,q1,q2,q3,q4,q5,q6⟩:=all fr (i-ts.length) e1' e2;obtain⟨m,hn,hl⟩:=I2.loc;have vis:BQ X.env.scope x:=by
     rcases q3 with z | z
     .exact .inr (.inl z)
     .exact .inr (.inr z)
    obtain⟨u,ru,lk⟩:=hl j x v q1 q2 vis;refine⟨u,ru,.inr ⟨?_,c,q5,?_⟩⟩
    .rcases e3 with z | z | z
     .exfalso;have key:∀ (l:List (Str×NameKind)),(l.map λ(n,k)=>if (k==W_&&X.env.scope.kind==.function&&X.env.kindOf n==some .cell) then (n,Ze) else (n,k)).lookup x=some .local->l.lookup x=some .local:=by
       intro l
       induction l with
       | nil=>intro h;simp at h
       | cons p r ih =>
        obtain⟨n,k⟩:=p;intro h;rw[Tw] at h;dsimp only at h
        by_cases hc:(k==W_&&X.env.scope.kind==.function&&X.env.kindOf n==some .cell)=true
        .rw[if_pos hc] at h;rw[UR] at h ⊢;cases q:x==n with
         | true=>rw[q] at h;cases h
         | false=>rw[q] at h;exact ih h
        .rw[if_neg hc] at h;rw[UR] at h ⊢;cases q:x==n with
         | true=>rw[q] at h;exact h
         | false=>rw[q] at h;exact ih h
      have:=key _ z;rw[q6] at this;cases this
     .exact .inl z
     .exact .inr z
    .rcases lk with ⟨k,_⟩ | ⟨_,c',e4,z⟩
     .rcases q3 with z | z <;> rw[z] at k <;> cases k
     .rw[q4] at e4;cases e4;obtain⟨o,ho,hd⟩:=z;exact⟨o,old c o ho,hd⟩
  .obtain⟨_,_,v,o,ho,hd⟩:=ltk x c e;exact⟨v,o,old c o ho,hd⟩
  .show upd H1 s2.heap.objs.size (.lst []) G.objs.size=none;rw[au (Vk (by rw[hC];exact Ve _))];exact nC
  .obtain⟨q1,q2,_⟩:=ltk x c e;rw[au (Tu q1)];exact q2
  .have Rk:p∈X.pn++N5:=by
    have:p∈(X.pn++N5)++[]:=hp
    rwa [Ul] at this
   obtain⟨e,n,ne,nf,d⟩:=I2.pin p Rk;have ON:=S7 e;refine⟨old _ _ e,by rw[au (Tu ON)];exact n,?_,λhz=>?_,d⟩
   .show p.1≠G.objs.size;exact Tu (Nat.lt_trans ON (by rw[hC];exact Ve _))
   .rcases Tt.mp (I2.uD _ hz) with z | z
    .exact ne z
    .exact nf z
  .exact I2.bB.laid old (SX _) ⟨S9 _,[],0,.nil,hacc⟩
  .show (fP ts js σ).length=(ts++fs).length;have frl:∀ {fs:List Str} {js:List Nat},iC X scope cl fs js->fs.length=js.length:=by
    intro fs js r
    induction r with
    | nil=>rfl
    | cons _ _ _ _ _ _ ih=>rw[T5,T5,ih]
   unfold fP;rw[TM,TM,S0,S0,frl fr]
 have Qw:∀ {H':Hp},(∀ b∈fp,H' b=none)->∀ b∈fp,lV X' [] H' b:=λ{H'} hn b hb=>by
  obtain⟨_,f1,f3,_,f4,f5⟩:=f2 b hb;refine⟨hn b hb,okX.JM b hb |>.1,okX.vD b hb,.inl hb,λx c e=>f4 x c (ag.at x c e),λp hp=>f5 p ?_⟩;have:p∈(X.pn++N5)++[]:=hp
  rwa [Ul] at this
 have fin:∀ {σ':St} {H':Hp} {s':Shared},Inv X' [] σ' H' s'->Q (.ref s2.heap.objs.size) H' ->
   compPost (model X.prog X.w) X.A X.xe use Qv (.ref s2.heap.objs.size) G.objs.size (.ok .next) s':=by
  intro σ' H' s' I4 q;obtain⟨m,hn,_⟩:=I4.loc;have fC:H' G.objs.size=none:=I4.free;have Io:Inv X N5 σ H' s':=by
   refine I2.C0 (s':=s') (ch:=fp) I4.os ⟨λb o e n hb hx=>?_,λb o e n hb hx=>?_,λb o e n hx=>I4.base.free b o e n hx,λb o e hx=>?_,I4.base.pk,I4.base.kS,I4.base.oP⟩ I4.bB I4.bare λb hb=>?_
   .exact I4.base.keep b o e n hb hx
   .exact I4.base.slot b o e n hb hx
   .exact I4.base.there b o e hx
   .obtain⟨_,f1,_,f3,f4,f5⟩:=f2 b hb;exact⟨f3,f1,f4,f5⟩
  have hCl:s2.heap.objs.size<=G.objs.size:=by rw[hC];exact Wh _
  exact IZ _ H' s' _ Io q ⟨m,hn⟩ (I2.t5 hCl fC)
 have loop:∀ s3:Shared,s3={ s2 with heap:=h₁,toks:=s2.toks+([]:List (Str×Value)).length } ->
   codeAny (model X.prog X.w) X.A (.compLoop (.ListComp elt [⟨tg,iter,ifs,0⟩] scope pos) 0 (.ref it) (.ref s2.heap.objs.size) (compEnvC scope cl G.objs.size X.env))
    (compPost (model X.prog X.w) X.A X.xe use Qv (.ref s2.heap.objs.size) G.objs.size) s3:=by
  rintro s3 rfl;refine zv (λn s'=>∃ i σ' H',Inv X' [] σ' H' s'/\tn i s'.heap/\(∀ b∈fp,H' b=none)/\W i n σ' H') ?_ m0 ⟨0,_,_,I3,T.keep _ _ _ Oq λb _ o e=>old b o e,λb hb=>?_,w0⟩
  .rintro n s3 ⟨i,σ3,H3,I3,P6,fr3,w3⟩;rcases turn i n σ3 H3 w3 with ⟨stop,qn⟩ | ⟨go,N,hN,step⟩
   .refine cX (T.done X' rfl rfl rfl Of i [] s3 σ3 H3 _ I3 (Qw fr3) P6 stop) λr s4 ⟨hr,I4⟩=>?_;subst hr;exact fin I4 qn
   .refine cX (T.item X' rfl rfl rfl Of i [] s3 σ3 H3 _ I3 (Qw fr3) P6 go) λr s4 ⟨u,hr,h4⟩=>?_;subst hr;refine cX h4 λ_ s5 ⟨x,H5,I5,r5,y5,RH,fr5⟩=>?_;have I5':=I5.pinned (Qw fr5) (T.obj _ _ RH);refine cX (hg _ _ _ _ _ _ s5 σ3 H5 x u _ I5' r5 (step x H5 y5)) λ_ s6 ⟨σ6,H6,I6,q6⟩=>?_;have again:∀ {σ7:St} {H7:Hp} {s7:Shared},Inv X' ([]++mv fp s5.heap) σ7 H7 s7->N σ7 H7->∃ m,m<n/\∃ i σ' H',Inv X' [] σ' H' s7/\tn i s7.heap/\(∀ b∈fp,H' b=none)/\W i m σ' H':=λ{σ7 H7 s7} I7 n7=>by
     obtain⟨m',hm,w7⟩:=hN σ7 H7 n7;refine⟨m',hm,i+1,σ7,H7,I7.lZ,T.keep _ _ _ RH λb hb o e=>(I7.pin (b,o) (Uq _ (Uq _ (jd hb e)))).1,λb hb=>?_,w7⟩;obtain⟨o,e,d⟩:=T.obj _ _ RH b hb;exact(I7.pin (b,o) (Uq _ (Uq _ (jd hb e)))).2.1
    have tail:∀ {H7:Hp} {s7:Shared},Inv X' ([]++mv fp s5.heap) σ6 H7 s7->(te σ6 H7 λy H4=>∃ ys,H4 s2.heap.objs.size=some (.lst ys)/\ys.length<sizeLine/\N σ6 (upd H4 s2.heap.objs.size (.lst (ys++[y])))) ->
      wpAny (model X.prog X.w) X.A (eval elt (compEnvC scope cl G.objs.size X.env)) (λx s₅=>wpAny (model X.prog X.w) X.A (call (.builtin "list.append") [.ref s2.heap.objs.size,x])
       (λ_ s₆=>∃ m,m<n/\∃ i σ' H',Inv X' [] σ' H' s₆/\tn i s₆.heap/\(∀ b∈fp,H' b=none)/\W i m σ' H') (λ_ _=>False) s₅) (λ_ _=>False) s7:=by
     intro H7 s7 I7 q7;refine cX (he _ _ _ _ _ _ s7 σ6 H7 _ I7 q7) λuy s8 ⟨y,H8,I8,ry,ys,hy,hl,q8⟩=>?_;refine cX (rD (X:=X') _ s8 σ6 H8 (.ref s2.heap.objs.size) [y] (.ref s2.heap.objs.size) [uy] (λ_ H9=>N σ6 H9) I8 rfl (.cons ry .nil) ⟨_,ys,y,rfl,rfl,hy,hl,q8⟩) λ_ s9 ⟨_,H9,I9,_,q9⟩=>?_;exact again I9 q9
    cases ifs with
    | nil =>
     cases tt with
     | none=>exact wpAny_tests_nil (tail I6 q6)
     | some t=>exact(ht 0 s2 H1 [] []).elim
    | cons c r =>
     cases r with
     | nil =>
      cases tt with
      | none=>exact(ht 0 s2 H1 [] []).elim
      | some t =>
       refine wpAny_tests_one (cX (ht G.objs.size s2 H1 fp N5 _ s6 σ6 H6 _ I6 q6) λb s7 ⟨H7,I7,q7⟩=>?_);cases b with
       | true =>
        rw[if_pos rfl] at q7 ⊢;exact tail I7 q7
       | false =>
        rw[if_neg Uh] at q7 ⊢;exact again I7 q7
     | cons _ _=>cases tt <;> exact(ht 0 s2 H1 [] []).elim
  .rw[au (Tu (Sf b hb))];exact(f2 b hb).1
 exact codeAny_compStart_list (loop _ rfl) (T.self _ 0 _ _ _ (T.keep _ _ _ Oq λb _ o e=>old b o e) (loop _ rfl))
theorem Inv.other(I:Inv X N5 σ H s)(f:lV X N5 H C)(hs:Wq C s.heap h'):Inv X N5 σ H { s with heap:=h' }:=by
 obtain⟨f0,f1,_,f3,f4,f5⟩:=f;refine I.C0 (s':={ s with heap:=h' }) (ch:=[C]) rfl ⟨λb o e n hb hx=>?_,λb o e n hb hx=>?_,λb o e n hx=>n,λb o e hx=>?_,λ_ _ q=>q,λ_ _ _ q=>q,λb ps q=>⟨#[],by rw[q];simp⟩⟩ (λb u e=>?_) I.bare λb hb=>?_
 .exact(hs.2 b (λz=>hx (by rw[z];exact Ui.mpr rfl))).trans e
 .exact⟨o.slots,(hs.2 b (λz=>hx (by rw[z];exact Ui.mpr rfl))).trans e⟩
 .exact⟨o,(hs.2 b (λz=>hx (by rw[z];exact Ui.mpr rfl))).trans e⟩
 .refine(I.bB b u e).lQ (λc v hc q=>(hs.2 c ?_).trans q) (λ_ q=>q) λ_ _ q=>q;rcases hc with z | z
  .rw[z];exact bQ e f0
  .exact bQ z f0
 .rw[Ui.mp hb];exact⟨f3,f1,f4,f5⟩
theorem yF{cl:List (Str×Addr)}{pos:Pos}{wi:TI}{g:TG}{fs:List Str}(Of:X.calm=true)
  (OB:closureFor scope X.env=pure cl) (hk:scope.kind=.function) (nc:fv scope.names=true) (lo:gA scope.names=true) (fh:gE cl scope.names=true) (ag:eE X cl) (fr:iC X scope cl fs js)
  (hi:PI X tg iter wi) (hg:∀ C s₀ H₀ ex N5,PG (nZ X scope cl (ts++fs) C s₀ H₀ ex N5) tg g)
  (ht:∀ C s₀ H₀ ex N5,match ifs,tt with | [],none=>True | [c],some t=>PT (nZ X scope cl (ts++fs) C s₀ H₀ ex N5) c t | _,_=>False)
  (he:∀ C s₀ H₀ ex N5,PE (nZ X scope cl (ts++fs) C s₀ H₀ ex N5) elt te)
  (hs:autoParam (∀ x,foldedSetIterable iter X.env x=pure x) aI._auto_1) :
  PE X (.ListComp elt [⟨tg,iter,ifs,0⟩] scope pos) (C8 wi g tt te ts js):=by
 intro N5 s σ H Q I h;rw[eval_ListComp];refine vL Of OB hk nc lo fh ag fr hi hg ht he hs I h none _ λD H' s' C Io q hm f=>?_;obtain⟨m,hn⟩:=hm;exact⟨m,hn,λh' Qt=>⟨.ref D,H',Io.other f Qt,rfl,q⟩⟩
def wQ(wi:TI)(g:TG)(te:TE)(ts:List Str)(js:List Nat):TE:=fun σ H Q=>wi σ H λJ H1=>∀ D,H1 D=none ->
 ∃ W:Nat->Nat->St->Hp->Prop,(∃ m,W 0 m (fP ts js σ) (upd H1 D (.lst [])))/\∀ i m σ' H',W i m σ' H' ->
  (J.stop i H'/\Q (.ref D) H')\/(J.go i H'/\∃ N:St->Hp->Prop,(∀ σ'' H'',N σ'' H''->∃ m',m'<m/\W (i+1) m' σ'' H'') ∧
   ∀ x H2,J.wg i H' x H2->g x σ' H2 fun σ2 H3=>te σ2 H3 λy H4=>∃ ys,H4 D=some (.lst ys)/\ys.length<sizeLine/\N σ2 (upd H4 D (.lst (ys++[y]))))
def Bu(wi:TI)(g:TG)(t:TT)(te:TE)(ts:List Str)(js:List Nat):TE:=fun σ H Q=>wi σ H λJ H1=>∀ D,H1 D=none ->
 ∃ W:Nat->Nat->St->Hp->Prop,(∃ m,W 0 m (fP ts js σ) (upd H1 D (.lst [])))/\∀ i m σ' H',W i m σ' H' ->
  (J.stop i H'/\Q (.ref D) H')\/(J.go i H'/\∃ N:St->Hp->Prop,(∀ σ'' H'',N σ'' H''->∃ m',m'<m/\W (i+1) m' σ'' H'') ∧
   ∀ x H2,J.wg i H' x H2->g x σ' H2 fun σ2 H3=>t σ2 H3 λb R0=>if b=true then te σ2 R0 λy H4=>∃ ys,H4 D=some (.lst ys)/\ys.length<sizeLine/\N σ2 (upd H4 D (.lst (ys++[y]))) else N σ2 R0)
theorem B_{cl:List (Str×Addr)}{pos:Pos}{wi:TI}{g:TG}{fs:List Str}(Of:X.calm=true)
  (OB:closureFor scope X.env=pure cl) (hk:scope.kind=.function) (nc:fv scope.names=true) (lo:gA scope.names=true) (fh:gE cl scope.names=true) (ag:eE X cl) (fr:iC X scope cl fs js)
  (hi:PI X tg iter wi) (hg:∀ C s₀ H₀ ex N5,PG (nZ X scope cl (ts++fs) C s₀ H₀ ex N5) tg g) (he:∀ C s₀ H₀ ex N5,PE (nZ X scope cl (ts++fs) C s₀ H₀ ex N5) elt te)
  (hs:autoParam (∀ x,foldedSetIterable iter X.env x=pure x) aI._auto_1):PE X (.ListComp elt [⟨tg,iter,[],0⟩] scope pos) (wQ wi g te ts js) :=
 yF (tt:=none) Of OB hk nc lo fh ag fr hi hg (λ_ _ _ _ _=>trivial) he hs
variable{c:Expr}
theorem Dl{cl:List (Str×Addr)}{pos:Pos}{wi:TI}{g:TG}{t:TT}{fs:List Str}(Of:X.calm=true)
  (OB:closureFor scope X.env=pure cl) (hk:scope.kind=.function) (nc:fv scope.names=true) (lo:gA scope.names=true) (fh:gE cl scope.names=true) (ag:eE X cl) (fr:iC X scope cl fs js)
  (hi:PI X tg iter wi) (hg:∀ C s₀ H₀ ex N5,PG (nZ X scope cl (ts++fs) C s₀ H₀ ex N5) tg g) (ht:∀ C s₀ H₀ ex N5,PT (nZ X scope cl (ts++fs) C s₀ H₀ ex N5) c t) (he:∀ C s₀ H₀ ex N5,PE (nZ X scope cl (ts++fs) C s₀ H₀ ex N5) elt te)
  (hs:autoParam (∀ x,foldedSetIterable iter X.env x=pure x) aI._auto_1):PE X (.ListComp elt [⟨tg,iter,[c],0⟩] scope pos) (Bu wi g t te ts js) :=
 yF (tt:=some t) Of OB hk nc lo fh ag fr hi hg ht he hs
def gg(h:Heap)(b:Bool)(l:Addr)(xs:Array Value):Prop:=match b with
 | true=>h.IsList l xs
 | false=>h.IsTuple l xs
def eM(h:Heap)(b:Bool)(it l:Addr)(i:Nat):Prop:=match b with
 | true=>h.IsListIter it l i
 | false=>h.IsTupleIter it l i
variable{l:Addr}{b:Bool}{h:Heap}
theorem gg.at{xs:Array Value}(x:gg h b l xs)(k:∀ o,h.get? l=some o->h'.get? l=some o):gg h' b l xs:=by
 cases b with
 | true=>obtain⟨o,ho,r⟩:=(show h.IsList l xs from x);exact(show h'.IsList l xs from ⟨o,k o ho,r⟩)
 | false=>obtain⟨o,ho,r⟩:=(show h.IsTuple l xs from x);exact(show h'.IsTuple l xs from ⟨o,k o ho,r⟩)
variable{i:Nat}{it:Addr}
theorem eM.at(x:eM h b it l i)(k:∀ o,h.get? it=some o->h'.get? it=some o):eM h' b it l i:=by
 cases b with
 | true=>obtain⟨o,ho,r⟩:=(show h.IsListIter it l i from x);exact(show h'.IsListIter it l i from ⟨o,k o ho,r⟩)
 | false=>obtain⟨o,ho,r⟩:=(show h.IsTupleIter it l i from x);exact(show h'.IsTupleIter it l i from ⟨o,k o ho,r⟩)
theorem eM.obj(x:eM h b it l i):∃ o vs,h.get? it=some o/\o.data=.fields vs:=by
 cases b with
 | true=>obtain⟨o,ho,_,hd⟩:=(show h.IsListIter it l i from x);exact⟨o,_,ho,hd⟩
 | false=>obtain⟨o,ho,_,hd⟩:=(show h.IsTupleIter it l i from x);exact⟨o,_,ho,hd⟩
theorem gg.obj{xs:Array Value}(x:gg h b l xs):∃ o n,h.get? l=some o/\o.data=.seq xs n:=by
 cases b with
 | true=>obtain⟨o,ho,_,n,hd⟩:=(show h.IsList l xs from x);exact⟨o,n,ho,hd⟩
 | false=>obtain⟨o,ho,_,n,hd⟩:=(show h.IsTuple l xs from x);exact⟨o,n,ho,hd⟩
variable{Q:Value->Shared->Prop}{items:Array Value}
variable{ys:Array Value}{k1 k2:Nat}{l1 l2:Addr}
section
variable{E:Value->Shared->Prop}
theorem ic{t:Addr}{x:Value}(hit:s.heap.IsTupleIter it t i)
  (ht:s.heap.IsTuple t items) (hx:items[i]?=some x)
  (hQ:∀ h',h'.IsTupleIter it t (i+1)->Wq it s.heap h'->Q x { s with heap:=h' }) :
  wpAny (model prog w) A (Tq (.ref it)) Q E s:=by
 obtain⟨o,ho,hc,hd⟩:=id hit;obtain⟨ol,hol,_,nl,hdl⟩:=ht;unfold Tq;refine RM (Ur (name:=T9 "__next__") hit.typeIs F.slot_tuple_iterator_next
  (UQ F.slot_tuple_iterator_next hit.typeIs F.entry_tuple_iterator_next ?_ (F.args_tuple_iterator_next_1 _)))
 show wpAny _ _ (field (.ref it) 0 >>= _) _ _ s;refine RM (TN ho hd (x:=.ref t) rfl ?_);show wpAny _ _ (if (Td t==Um)=true then _ else _) _ _ s;rw[if_neg (show ¬ ((Td t==Um)=true) from Uh)];show wpAny _ _ (field (.ref it) 1 >>= _) _ _ s;refine RM (TN ho hd (x:=.int i 0) rfl ?_);show wpAny _ _ (seqItems? (.ref t) >>= _) _ _ s;refine RM (Uo hol hdl ?_);simp only[TR,hx];refine RM (WO ho hd (by simp) (SY ⟨x,rfl,SY (hQ _ ?_ (Xp ..))⟩));exact⟨_,UZ _ ho (Wc (VF hd _)),(Obj.cls_mapFields ..).trans hc,by
  rw[VF hd];simp[rawInt]⟩
theorem fk{t:Addr}(hh:A.handled=none)
  (hit:s.heap.IsTupleIter it t i) (ht:s.heap.IsTuple t items) (hx:items[i]?=none)
  (hE:∀ h' e,Heap.ExtBut it s.heap h'->(∃ o,h'.get? e=some o/\o.cls=.type "StopIteration")->E (.ref e) { s with heap:=h' }) :
  wpAny (model prog w) A (Tq (.ref it)) Q E s:=by
 obtain⟨o,ho,hc,hd⟩:=id hit;obtain⟨ol,hol,_,nl,hdl⟩:=ht;unfold Tq;refine RM (Ur (name:=T9 "__next__") hit.typeIs F.slot_tuple_iterator_next
  (UQ F.slot_tuple_iterator_next hit.typeIs F.entry_tuple_iterator_next ?_ (F.args_tuple_iterator_next_1 _)))
 show wpAny _ _ (field (.ref it) 0 >>= _) _ _ s;refine RM (TN ho hd (x:=.ref t) rfl ?_);show wpAny _ _ (if (Td t==Um)=true then _ else _) _ _ s;rw[if_neg (show ¬ ((Td t==Um)=true) from Uh)];show wpAny _ _ (field (.ref it) 1 >>= _) _ _ s;refine RM (TN ho hd (x:=.int i 0) rfl ?_);show wpAny _ _ (seqItems? (.ref t) >>= _) _ _ s;refine RM (Uo hol hdl ?_);simp only[TR,hx];refine RM (Vd (RM (WO ho hd (by simp) ?_)));show wpAny _ _ (newExc (.type "StopIteration") [] >>= _) _ _ _;refine RM ?_;simp only[newExc,newTuple];refine RM (UX ?_ (by size_fits));refine RM (m:=firstArgMember _ _) (wpAny_of_eq (a:=Um) (by first | rfl | (simp only[firstArgMember];rfl)) ?_);refine UX ?_ (by size_fits);simp only[raiseNew];refine RM (wpAny_handled ?_)
 first | rw[show A.in1.handled=none from hh] | rw[hh]
 refine RM (SY (wpAny_throw ?_));exact hE _ _ (((Xp ..).extBut.push _).push _) ⟨_,S2 _ rfl,rfl⟩
theorem cR{x:Value}(hit:eM s.heap b it l i)(hl:gg s.heap b l items)(hx:items[i]?=some x)
  (hQ:∀ h',eM h' b it l (i+1)->Wq it s.heap h'->Q x { s with heap:=h' }):wpAny (model prog w) A (Tq (.ref it)) Q E s:=by
 cases b with
 | true=>exact wpAny_nextOf_list_item hit hl hx hQ
 | false=>exact ic hit hl hx hQ
theorem gX(hh:A.handled=none)(hit:eM s.heap b it l i)(hl:gg s.heap b l items)(hx:items[i]?=none)
  (hE:∀ h' e,Heap.ExtBut it s.heap h'->(∃ o,h'.get? e=some o/\o.cls=.type "StopIteration")->E (.ref e) { s with heap:=h' }):wpAny (model prog w) A (Tq (.ref it)) Q E s:=by
 cases b with
 | true=>exact wpAny_nextOf_list_end hh hit hl hx hE
 | false=>exact fk hh hit hl hx hE
theorem zO{b1 b2:Bool}{z TI TO i1 i2:Addr}{xs:Array Value}{x y a b:Value}(D:ZipApart z TI TO i1 i2 l1 l2)
  (hz:IsZip s.heap z TI TO .none) (OS:IsPair s.heap TI (.ref i1) (.ref i2)) (OU:IsPair s.heap TO a b)
  (h1:eM s.heap b1 i1 l1 k1) (h2:eM s.heap b2 i2 l2 k2) (PD:gg s.heap b1 l1 xs) (Py:gg s.heap b2 l2 ys) (hx:xs[k1]?=some x) (hy:ys[k2]?=some y)
  (hQ:∀ h',IsZip h' z TI TO (rawInt s.heap.objs.size)->IsPair h' TO x y->eM h' b1 i1 l1 (k1+1)->eM h' b2 i2 l2 (k2+1)->IsPair h' s.heap.objs.size x y->h'.objs.size=s.heap.objs.size+1 ->
   (∀ c o,c≠z->c≠TO->c≠i1->c≠i2->s.heap.get? c=some o->h'.get? c=some o)->Q (.ref s.heap.objs.size) { s with heap:=h' }) :
  wpAny (model prog w) A (Builtin.«zip.__next__» ⟨[.ref z],[]⟩) (λfin s'=>∃ v,fin=.done (.ret v)/\Q v s') E s:=by
 show wpAny _ _ (field (.ref z) 2 >>= _) _ _ _;refine RM (TN hz rfl (x:=.bool false) rfl ?_);show wpAny _ _ (field (.ref z) 3 >>= _) _ _ _;refine RM (TN hz rfl (x:=.ref TI) rfl ?_);refine RM (Uo OS rfl ?_);show wpAny _ _ (TU (.ref z) >>= _) _ _ _;refine RM ?_;unfold TU;refine RM (TN hz rfl (x:=.none) rfl (SY ?_));simp only[if_true];refine RM (Vd ?_);refine RM (TN hz rfl (x:=.ref TO) rfl ?_);refine RM (Uj hz (by simp) λh₁ hz1 hs₁=>?_)
 replace hz1:IsZip h₁ z TI TO .ellipsis:=hz1
 refine RM ?_;simp only[VB,Xk,Xl,XO];refine RM (RM (Vl ?_));show wpAny _ _ (Tq (.ref i1) >>= _) _ _ _;refine RM (cR (h1.at λo e=>hs₁.extBut _ _ D.i1z e) (PD.at λo e=>hs₁.extBut _ _ D.l1z e) hx λh₂ h1₂ hs2=>SY ?_);have hTO2:IsPair h₂ TO a b:=hs2.extBut _ _ D.TOi1 (hs₁.extBut _ _ D.TOz OU);refine RM (Uo hTO2 rfl ?_);refine RM (Xd hTO2 λh₃ hTO3 hs3=>?_)
 replace hTO3:IsPair h₃ TO x b:=hTO3
 refine RM (Wi (SY ?_));refine RM (RM (Vl ?_));show wpAny _ _ (Tq (.ref i2) >>= _) _ _ _;refine RM (cR (h2.at λo e=>hs3.extBut _ _ D.TOi2.symm (hs2.extBut _ _ D.i12.symm (hs₁.extBut _ _ D.i2z e)))
  (Py.at λo e=>hs3.extBut _ _ D.l2TO (hs2.extBut _ _ D.l2i1 (hs₁.extBut _ _ D.l2z e))) hy λh₄ h2₄ hs4=>SY ?_)
 have hTO4:IsPair h₄ TO x b:=hs4.extBut _ _ D.TOi2 hTO3;refine RM (Uo hTO4 rfl ?_);refine RM (Xd hTO4 λh₅ hTO5 hs5=>?_)
 replace hTO5:IsPair h₅ TO x y:=hTO5
 refine RM (Wi (SY (SY ?_)));refine RM (Uo hTO5 rfl ?_);refine RM (YX ?_);have Pd:h₅.objs.size=s.heap.objs.size:=by rw[hs5.1,hs4.1,hs3.1,hs2.1,hs₁.1]
 have hz5:IsZip h₅ z TI TO .ellipsis:=hs5.extBut _ _ D.TOz.symm (hs4.extBut _ _ D.i2z.symm (hs3.extBut _ _ D.TOz.symm (hs2.extBut _ _ D.i1z.symm hz1)));have hk5:∀ c o,c≠z->c≠TO->c≠i1->c≠i2->s.heap.get? c=some o->h₅.get? c=some o:=λc o c1 c2 c3 c4 e =>
  hs5.extBut _ _ c2 (hs4.extBut _ _ c4 (hs3.extBut _ _ c2 (hs2.extBut _ _ c3 (hs₁.extBut _ _ c1 e))))
 have h1₅:eM h₅ b1 i1 l1 (k1+1):=h1₂.at λo e=>hs5.extBut _ _ D.TOi1.symm (hs4.extBut _ _ D.i12 (hs3.extBut _ _ D.TOi1.symm e));have h2₅:eM h₅ b2 i2 l2 (k2+1):=h2₄.at λo e=>hs5.extBut _ _ D.TOi2.symm e;have Q6:z<h₅.objs.size:=S7 hz5;show wpAny _ _ (UW (.ref z) (.ref h₅.objs.size) >>= _) _ _ _;refine RM ?_;unfold UW;have hz6:IsZip (h₅.push { cls:=.type "tuple", data:=.seq #[x,y] }) z TI TO .ellipsis:=SQ _ hz5;refine RM (Uj hz6 (by simp) λh₇ hz7 hs7=>?_)
 replace hz7:IsZip h₇ z TI TO (rawInt h₅.objs.size):=hz7
 refine Uj hz7 (by simp) λh₈ hz₈ hs8=>?_
 replace hz₈:IsZip h₈ z TI TO (rawInt h₅.objs.size):=hz₈
 have up:∀ c o,c≠z->h₅.get? c=some o->h₈.get? c=some o:=λc o c1 e=>hs8.extBut _ _ c1 (hs7.extBut _ _ c1 (SQ _ e));have hT8:IsPair h₈ h₅.objs.size x y:=hs8.extBut _ _ (Vk Q6) (hs7.extBut _ _ (Vk Q6) (S2 _ rfl));have hz8:h₈.objs.size=h₅.objs.size+1:=by rw[hs8.1,hs7.1,Ua]
 rw[Pd] at hz₈ hT8 hz8;refine SY ⟨_,rfl,?_⟩;show Q (.ref h₅.objs.size) _;rw[Pd];exact hQ h₈ hz₈ (up _ _ D.TOz hTO5) (h1₅.at λo e=>up _ o D.i1z e) (h2₅.at λo e=>up _ o D.i2z e) hT8 hz8 λc o c1 c2 c3 c4 e=>up c o c1 (hk5 c o c1 c2 c3 c4 e)
theorem Dy{b1 b2:Bool}{z TI TO i1 i2:Addr}{xs:Array Value}{a b:Value}{Q:Fin->Shared->Prop}(hh:A.handled=none)(D:ZipApart z TI TO i1 i2 l1 l2)
  (hz:IsZip s.heap z TI TO .none) (OS:IsPair s.heap TI (.ref i1) (.ref i2)) (OU:IsPair s.heap TO a b)
  (h1:eM s.heap b1 i1 l1 k1) (h2:eM s.heap b2 i2 l2 k2) (PD:gg s.heap b1 l1 xs) (Py:gg s.heap b2 l2 ys) (Pw:xs[k1]?=none\/ys[k2]?=none)
  (hE:∀ h' e,(∀ c o,c≠z->c≠TO->c≠i1->c≠i2->s.heap.get? c=some o->h'.get? c=some o)->(∃ o,h'.get? e=some o/\o.cls=.type "StopIteration")->E (.ref e) { s with heap:=h' }) :
  wpAny (model prog w) A (Builtin.«zip.__next__» ⟨[.ref z],[]⟩) Q E s:=by
 show wpAny _ _ (field (.ref z) 2 >>= _) _ _ _;refine RM (TN hz rfl (x:=.bool false) rfl ?_);show wpAny _ _ (field (.ref z) 3 >>= _) _ _ _;refine RM (TN hz rfl (x:=.ref TI) rfl ?_);refine RM (Uo OS rfl ?_);show wpAny _ _ (TU (.ref z) >>= _) _ _ _;refine RM ?_;unfold TU;refine RM (TN hz rfl (x:=.none) rfl (SY ?_));simp only[if_true];refine RM (Vd ?_);refine RM (TN hz rfl (x:=.ref TO) rfl ?_);refine RM (Uj hz (by simp) λh₁ hz1 hs₁=>?_)
 replace hz1:IsZip h₁ z TI TO .ellipsis:=hz1
 refine RM ?_;simp only[VB,Xk,Xl,XO];refine RM (RM (Vl ?_));show wpAny _ _ (Tq (.ref i1) >>= _) _ _ _;cases hx:xs[k1]? with
 | none =>
  refine RM (gX hh (h1.at λo e=>hs₁.extBut _ _ D.i1z e) (PD.at λo e=>hs₁.extBut _ _ D.l1z e) hx λh₂ e hs2 he=>?_);obtain⟨oe,PZ,Qy⟩:=he;have hz2:IsZip h₂ z TI TO .ellipsis:=hs2 _ _ D.i1z.symm hz1;have Rr:e≠z:=λx=>by subst x;rw[hz2] at PZ;cases PZ;simp at Qy
  refine Uj hz2 (by simp) λh₃ _ hs3=>hE h₃ e (λc o c1 _ c3 _ x=>hs3.extBut _ _ c1 (hs2 _ _ c3 (hs₁.extBut _ _ c1 x))) ⟨oe,hs3.extBut _ _ Rr PZ,Qy⟩
 | some x =>
  have hy:ys[k2]?=none:=by rcases Pw with h | h;rw[hx] at h;cases h;exact h
  refine RM (cR (h1.at λo e=>hs₁.extBut _ _ D.i1z e) (PD.at λo e=>hs₁.extBut _ _ D.l1z e) hx λh₂ h1₂ hs2=>SY ?_);have hTO2:IsPair h₂ TO a b:=hs2.extBut _ _ D.TOi1 (hs₁.extBut _ _ D.TOz OU);refine RM (Uo hTO2 rfl ?_);refine RM (Xd hTO2 λh₃ hTO3 hs3=>?_);refine RM (Wi (SY ?_));refine RM (RM (Vl ?_));show wpAny _ _ (Tq (.ref i2) >>= _) _ _ _;refine RM (gX hh (h2.at λo e=>hs3.extBut _ _ D.TOi2.symm (hs2.extBut _ _ D.i12.symm (hs₁.extBut _ _ D.i2z e)))
   (Py.at λo e=>hs3.extBut _ _ D.l2TO (hs2.extBut _ _ D.l2i1 (hs₁.extBut _ _ D.l2z e))) hy λh₄ e hs4 he=>?_)
  obtain⟨oe,PZ,Qy⟩:=he;have hz₄:IsZip h₄ z TI TO .ellipsis:=hs4 _ _ D.i2z.symm (hs3.extBut _ _ D.TOz.symm (hs2.extBut _ _ D.i1z.symm hz1));have Rr:e≠z:=λx=>by subst x;rw[hz₄] at PZ;cases PZ;simp at Qy
  refine Uj hz₄ (by simp) λh₅ _ hs5=>hE h₅ e (λc o c1 c2 c3 c4 x=>hs5.extBut _ _ c1 (hs4 _ _ c4 (hs3.extBut _ _ c2 (hs2.extBut _ _ c3 (hs₁.extBut _ _ c1 x))))) ⟨oe,hs5.extBut _ _ Rr PZ,Qy⟩
theorem vn(hl:gg s.heap b l items)
  (h:∀ o,o=({ cls:=.type (if b then "list_iterator" else "tuple_iterator"),data:=.fields #[.ref l,.int 0 0] }:Obj)->Q (.ref s.heap.objs.size) { s with heap:=s.heap.push o }):wpAny (model prog w) A (pyIter (.ref l)) Q E s:=by
 cases b with
 | true=>exact X4 hl (h _ rfl)
 | false=>exact V7 hl (h _ rfl)
theorem mq{b1 b2:Bool}{z TI TO i1 i2:Addr}{xs:Array Value}{x y a b:Value}{Q:Option Value->Shared->Prop}(D:ZipApart z TI TO i1 i2 l1 l2)
  (hz:IsZip s.heap z TI TO .none) (OS:IsPair s.heap TI (.ref i1) (.ref i2)) (OU:IsPair s.heap TO a b)
  (h1:eM s.heap b1 i1 l1 k1) (h2:eM s.heap b2 i2 l2 k2) (PD:gg s.heap b1 l1 xs) (Py:gg s.heap b2 l2 ys) (hx:xs[k1]?=some x) (hy:ys[k2]?=some y)
  (hQ:∀ h',IsZip h' z TI TO (rawInt s.heap.objs.size)->IsPair h' TO x y->eM h' b1 i1 l1 (k1+1)->eM h' b2 i2 l2 (k2+1)->IsPair h' s.heap.objs.size x y->h'.objs.size=s.heap.objs.size+1 ->
   (∀ c o,c≠z->c≠TO->c≠i1->c≠i2->s.heap.get? c=some o->h'.get? c=some o)->Q (some (.ref s.heap.objs.size)) { s with heap:=h' }) :
  wpAny (model prog w) A (pyNext (.ref z)) Q E s:=by
 have hT:s.TypeIs (.ref z) "zip" := ⟨_,hz,rfl⟩
 unfold pyNext;exact RM (VZ (Ur (name:=T9 "__next__") hT F.slot_zip_next
  (UQ F.slot_zip_next hT F.entry_zip_next
   (zO D hz OS OU h1 h2 PD Py hx hy λh' a1 a2 a3 a4 a5 a6 a7=>SY (hQ h' a1 a2 a3 a4 a5 a6 a7)) (F.args_zip_next_1 _))))
theorem nP{b1 b2:Bool}{z TI TO i1 i2:Addr}{xs:Array Value}{a b:Value}{Q:Option Value->Shared->Prop}(hh:A.handled=none)(D:ZipApart z TI TO i1 i2 l1 l2)
  (hz:IsZip s.heap z TI TO .none) (OS:IsPair s.heap TI (.ref i1) (.ref i2)) (OU:IsPair s.heap TO a b)
  (h1:eM s.heap b1 i1 l1 k1) (h2:eM s.heap b2 i2 l2 k2) (PD:gg s.heap b1 l1 xs) (Py:gg s.heap b2 l2 ys) (Pw:xs[k1]?=none\/ys[k2]?=none)
  (hQ:∀ h',(∀ c o,c≠z->c≠TO->c≠i1->c≠i2->s.heap.get? c=some o->h'.get? c=some o)->Q none { s with heap:=h' }):wpAny (model prog w) A (pyNext (.ref z)) Q E s:=by
 have hT:s.TypeIs (.ref z) "zip" := ⟨_,hz,rfl⟩
 unfold pyNext;refine RM (VZ (Ur (name:=T9 "__next__") hT F.slot_zip_next
  (UQ F.slot_zip_next hT F.entry_zip_next (Dy hh D hz OS OU h1 h2 PD Py Pw λh' e hk he=>?_) (F.args_zip_next_1 _))))
 obtain⟨o,ho,hc⟩:=he;refine RM (Ye (T := "StopIteration") (b:=true) ⟨o,ho,hc⟩ YY ?_);exact SY (hQ _ hk)
abbrev EL(b:Bool)(l:Addr):Obj:={ cls:=.type (if b then "list_iterator" else "tuple_iterator"),data:=.fields #[.ref l,.int 0 0] }
abbrev HV(h:Heap)(b1:Bool)(l1:Addr):Heap:=h.push (EL b1 l1)
abbrev F_(h:Heap)(b1 b2:Bool)(l1 l2:Addr):Heap:=(HV h b1 l1).push (EL b2 l2)
abbrev LS(h:Heap)(b1 b2:Bool)(l1 l2:Addr):Heap:=(F_ h b1 b2 l1 l2).push { cls:=.type "tuple", data:=.seq #[.ref h.objs.size,.ref (HV h b1 l1).objs.size] }
abbrev LW(h:Heap)(b1 b2:Bool)(l1 l2:Addr):Heap:=(LS h b1 b2 l1 l2).push { cls:=.type "tuple", data:=.seq #[.none,.none] }
abbrev Jw(h:Heap)(b1 b2:Bool)(l1 l2:Addr):Heap:=(LW h b1 b2 l1 l2).push { cls:=.type "zip", data:=.fields #[.none,.bool false,.bool false,.ref (F_ h b1 b2 l1 l2).objs.size,.ref (LS h b1 b2 l1 l2).objs.size] }
end
theorem fZ{E:Value->Shared->Prop}(hl:gg s.heap b l items)
  (h:Q (.ref s.heap.objs.size) { s with heap:=s.heap.push (EL b l) }):wpAny (model prog w) A (pyIter (.ref l)) Q E s:=vn hl λo e=>by subst e;exact h
theorem gg.push{h:Heap}{b:Bool}{l:Addr}{xs:Array Value}(x:gg h b l xs)(o:Obj):gg (h.push o) b l xs:=x.at λ_ e=>SQ _ e
theorem pB(b1 b2:Bool)(l1 l2:Addr)(xs ys:Array Value) :
  Meets (Builtin.«zip.__new__» ⟨[.type "zip", .ref l1,.ref l2],[]⟩) (λ_ R s=>gg s.heap b1 l1 xs/\gg s.heap b2 l2 ys ∧
   R (.ok (.ret (.ref (LW s.heap b1 b2 l1 l2).objs.size))) { s with heap:=Jw s.heap b1 b2 l1 l2 }) :=
 .of_wp λprog w A R s h=>by
  obtain⟨hp,g,d,tk,os⟩:=s;obtain⟨PD,Py,h⟩:=h;have Sx:=sub_zip;have hL1:gg (Xe ⟨hp,g,d,tk,os⟩) b1 l1 xs:=PD;have hL2:gg (Xe ⟨hp.push (EL b1 l1),g,d,tk,os⟩) b2 l2 ys:=gg.push Py _
  wp_walk using fZ hL1,fZ hL2
  exact⟨_,rfl,h⟩
section
variable{E:Value->Shared->Prop}
theorem eM.new(h:Heap)(b:Bool)(it l:Addr)(e:h.get? it=some (EL b l)):eM h b it l 0:=by
 cases b with
 | true=>exact⟨_,e,rfl,rfl⟩
 | false=>exact⟨_,e,rfl,rfl⟩
theorem Ah{b1 b2:Bool}{xs:Array Value}(PD:gg s.heap b1 l1 xs)(Py:gg s.heap b2 l2 ys)
  (h:∀ h',IsZip h' (s.heap.objs.size+4) (s.heap.objs.size+2) (s.heap.objs.size+3) .none->IsPair h' (s.heap.objs.size+2) (.ref s.heap.objs.size) (.ref (s.heap.objs.size+1)) ->
   IsPair h' (s.heap.objs.size+3) .none .none->eM h' b1 s.heap.objs.size l1 0->eM h' b2 (s.heap.objs.size+1) l2 0->h'.objs.size=s.heap.objs.size+5 ->
   (∀ c o,s.heap.get? c=some o->h'.get? c=some o)->Q (.ref (s.heap.objs.size+4)) { s with heap:=h' }) :
  wpAny (model prog w) A (call (.type "zip") [.ref l1,.ref l2]) Q E s:=by
 refine ZH F.called_zip (by decide) (F.typeCall_zip_2 _ _) (F.newCall_zip_2 _ _) (λobj=>F.args_object_init_3 obj _ _) F.entry_zip_new
  (pB b1 b2 l1 l2 xs ys) ⟨PD,Py,?_⟩
 have z1:(HV s.heap b1 l1).objs.size=s.heap.objs.size+1:=Ua ..;have z2:(F_ s.heap b1 b2 l1 l2).objs.size=s.heap.objs.size+2:=by rw[Ua,z1]
 have z3:(LS s.heap b1 b2 l1 l2).objs.size=s.heap.objs.size+3:=by rw[Ua,z2]
 have z4:(LW s.heap b1 b2 l1 l2).objs.size=s.heap.objs.size+4:=by rw[Ua,z3]
 have z5:(Jw s.heap b1 b2 l1 l2).objs.size=s.heap.objs.size+5:=by rw[Ua,z4]
 have g5:(Jw s.heap b1 b2 l1 l2).get? (LW s.heap b1 b2 l1 l2).objs.size=some _:=S2 _ rfl;have g4:(Jw s.heap b1 b2 l1 l2).get? (LS s.heap b1 b2 l1 l2).objs.size=some _:=SQ _ (S2 _ rfl);have g3:(Jw s.heap b1 b2 l1 l2).get? (F_ s.heap b1 b2 l1 l2).objs.size=some _:=SQ _ (SQ _ (S2 _ rfl));have g2:(Jw s.heap b1 b2 l1 l2).get? (HV s.heap b1 l1).objs.size=some _:=SQ _ (SQ _ (SQ _ (S2 _ rfl)));have g1:(Jw s.heap b1 b2 l1 l2).get? s.heap.objs.size=some _:=SQ _ (SQ _ (SQ _ (SQ _ (S2 _ rfl))));show _/\_;rw[z2,z3,z4] at g5;rw[z1,z2] at g3;rw[z3] at g4;rw[z1] at g2;rw[z4];exact⟨⟨_,g5,rfl⟩,h _ g5 g3 g4 (eM.new _ b1 _ _ g1) (eM.new _ b2 _ _ g2) z5 λc o x =>
  SQ _ (SQ _ (SQ _ (SQ _ (SQ _ x))))⟩
end
def kF(K:PySem.W.Frag)(H:Hp)(b:Bool)(a:Addr)(xs:List V):Prop:=match b with
 | true=>iB K H a xs
 | false=>gi K H a xs
variable{tl:TA}
theorem Inv.row{a:Addr}{xs:List V}(I:Inv X N5 σ H s)(h:kF X.K H b a xs):∃ N9:List Value,Vals xs N9/\gg s.heap b a N9.toArray/\xs.length<=sizeLine:=by
 cases b with
 | true =>
  obtain⟨N9,r,p,z⟩:=I.list h;exact⟨N9,r,p.isList,z⟩
 | false =>
  obtain⟨N9,r,p,z⟩:=I.tuple h;exact⟨N9,r,p,z⟩
theorem Inv.lr{a:Addr}{xs ys:List V}(I:Inv X N5 σ H s)(h:kF X.K H b a xs)(h':kF X.K H b a ys):xs=ys:=by
 cases b with
 | true=>exact I.pH h h'
 | false=>exact I.mO h h'
theorem Inv.yk(I:Inv X N5 σ H s)(k:∀ b u,b ∉ ch->s.heap.get? b=some u->h'.get? b=some u)
  (Qe:∀ b∈ch,lV X N5 H b):Inv X N5 σ H { s with heap:=h',toks:=t' }:=by
 have Rb:∀ b u,H b=some u->b ∉ ch:=λb u e z=>by rw[(Qe b z).1] at e;cases e
 refine I.step (g':=s.gens) (d':=s.drawn) (ch:=ch) (λb hb=>?_) (λb u _ _ hc e _=>k b u hc e) (λb u _ _ hc e _=>⟨u.slots,k b u hc e⟩)
  (λb u _ e n=>n) (λb u hc e=>⟨u,k b u hc e⟩) (λb xs e=>e) (λb ob u e=>e) (λb ps e=>⟨#[],by rw[e];simp⟩) (λm hm=>?_) (λb u e=>?_) I.bare
 .obtain⟨_,f1,_,f3,f4,f5⟩:=Qe b hb;exact⟨f3,f1,f4,f5⟩
 .obtain⟨ob,es,ep,ho,r⟩:=hm;exact⟨ob,es,ep,k _ ob (λz=>(Qe _ z).2.1 rfl) ho,r⟩
 .refine(I.bB b u e).lQ (λc v hc q=>k c v ?_ q) (λc q=>q) λc ys q=>q;rcases hc with z' | z'
  .rw[z'];exact Rb b u e
  .exact Rb c _ z'
theorem cB{a c:Addr}{xs:List V}(I:Inv X N5 σ H s)(h:kF X.K H b a xs)(f:lV X N5 H c):a≠c:=by
 have rd:∀ {u:HO},Rd H a u->a≠c:=λ{u} r=>by
  rcases r with r | ⟨o,r⟩
  .exact bQ r f.1
  .exact bQ r f.1
 have mk:∀ {o:Obj},X.K.lookup a=some o->a≠c:=λ{o} e z=>by
  subst z;have e':=I.ok.mod.Gb _ _ e;rcases f.2.2.2.1 with q | q
  .exact I.ok.tP _ _ e' q
  .exact absurd (S_ (S7 (I.ok.bs _ _ e').1) q) (VU _)
 cases b with
 | true =>
  rcases(show iB X.K H a xs from h) with r | ⟨o,N9,n,e,_⟩
  .exact rd r
  .exact mk e
 | false =>
  rcases(show gi X.K H a xs from h) with r | ⟨o,N9,n,e,_⟩
  .exact rd r
  .exact mk e
def Mi (K : PySem.W.Frag) (b1 b2 : Bool) (a1 a2 : Addr) : It :=
  ⟨λi H => ∃ xs ys x y, kF K H b1 a1 xs /\ kF K H b2 a2 ys /\ xs[i]? = some x /\ ys[i]? = some y,
   λi H v H' => ∃ p x y, H p = none /\ v = .ref p /\ H' = upd H p (.tup [x, y]) /\ (∀ xs, kF K H b1 a1 xs -> xs[i]? = some x) /\ (∀ ys, kF K H b2 a2 ys -> ys[i]? = some y),
   λi H => ∃ xs ys, kF K H b1 a1 xs /\ kF K H b2 a2 ys /\ (xs.length <= i \/ ys.length <= i)⟩
theorem Br{K:PySem.W.Frag}{tp:Pos}(b1 b2:Bool)(a1 a2 z TI TO i1 i2:Addr)(D:TI≠z/\TO≠z/\i1≠z/\i2≠z/\TI≠TO/\TI≠i1/\TI≠i2/\TO≠i1/\TO≠i2/\i1≠i2) :
  Turn P w K (.Tuple elts x1 tp) (Mi K b1 b2 a1 a2) [z,TO,i1,i2,TI] z (λi h=>IsZip h z TI TO .none/\IsPair h TI (.ref i1) (.ref i2)/\(∃ a b,IsPair h TO a b)/\eM h b1 i1 a1 i/\eM h b2 i2 a2 i) where
 mem:=by simp
 obj:=λi h st b hb=>by
  obtain⟨hz,OS,⟨a,c,OU⟩,h1,h2⟩:=st;simp only[Tt,UC,or_false] at hb;rcases hb with q | q | q | q | q <;> subst q
  .exact⟨_,hz,λv z=>by cases z⟩
  .exact⟨_,OU,λv z=>by cases z⟩
  .obtain⟨o,vs,e,d⟩:=h1.obj;exact⟨o,e,λv z=>by rw[d] at z;cases z⟩
  .obtain⟨o,vs,e,d⟩:=h2.obj;exact⟨o,e,λv z=>by rw[d] at z;cases z⟩
  .exact⟨_,OS,λv z=>by cases z⟩
 keep:=λi h h' st k=>by
  obtain⟨hz,OS,⟨a,c,OU⟩,h1,h2⟩:=st;exact⟨k z (by simp) _ hz,k TI (by simp) _ OS,⟨a,c,k TO (by simp) _ OU⟩,h1.at λo e=>k i1 (by simp) o e,h2.at λo e=>k i2 (by simp) o e⟩
 item:=by
  intro X hP hw hK hc i N5 s σ H E I hf st hg;subst hP hw hK;obtain⟨xs,ys,x,y,OT,OO,hx,hy⟩:=hg;obtain⟨Q7,Rv,p1,SA⟩:=I.row OT;obtain⟨OV,Rw,p2,Rl⟩:=I.row OO;obtain⟨u1,hu1,ru1⟩:=Rv.get hx;obtain⟨u2,hu2,ru2⟩:=Rw.get hy;obtain⟨hz,OS,⟨a,c,OU⟩,h1,h2⟩:=st;obtain⟨d1,d2,d3,d4,d5,d6,d7,d8,d9,d10⟩:=D;obtain⟨o1,n1,e1,dd1⟩:=p1.obj;obtain⟨o2,n2,e2,Rn⟩:=p2.obj;obtain⟨oi1,vs1,R5,di1⟩:=h1.obj;obtain⟨oi2,vs2,R6,di2⟩:=h2.obj;have D:ZipApart z TI TO i1 i2 a1 a2:=⟨d1,d2,d3,d4,d5,d6,d7,d8,d9,d10,cB I OT (hf z (by simp)),cB I OT (hf TO (by simp)),cB I OT (hf i1 (by simp)),cB I OT (hf i2 (by simp)),
   cB I OO (hf z (by simp)),cB I OO (hf TO (by simp)),cB I OO (hf i1 (by simp)),cB I OO (hf i2 (by simp))⟩
  refine mq D hz OS OU h1 h2 p1 p2 (x:=u1) (y:=u2) (by simpa using hu1) (by simpa using hu2) λh' g1 g2 g3 g4 g5 g6 g7=>⟨_,rfl,?_⟩
  refine XZ (s:={ s with heap:=h' }) g1 λh3 SD QD=>?_;have PF:H s.heap.objs.size=none:=I.bB.fresh (SX _);have lt:∀ {c:Addr} {o:Obj},s.heap.get? c=some o->c≠s.heap.objs.size:=λe=>Tu (S7 e);have Q9:∀ b o,b ∉ [z,TO,i1,i2,TI]->s.heap.get? b=some o->h3.get? b=some o:=λb o hb q=>by
   simp only[Tt,UC,or_false,not_or] at hb;exact(QD.2 b hb.1).trans (g7 b o hb.1 hb.2.1 hb.2.2.1 hb.2.2.2.1 q)
  have hT3:h3.get? s.heap.objs.size=some { cls:=.type "tuple", data:=.seq #[u1,u2] }:=(QD.2 _ (lt hz).symm).trans g5;have I3:Inv X N5 σ (upd H s.heap.objs.size (.tup [x,y])) { s with heap:=h3,toks:=s.toks } :=
   I.kh (ch:=[z,TO,i1,i2,TI]) Q9 hf (SX _) (λb hb=>by
    simp only[Tt,UC,or_false] at hb;rcases hb with q | q | q | q | q <;> subst q
    .exact⟨_,hz⟩
    .exact⟨_,OU⟩
    .exact⟨_,R5⟩
    .exact⟨_,R6⟩
    .exact⟨_,OS⟩)
    ⟨by show 2<=sizeLine;decide,[u1,u2],.cons ru1 (.cons ru2 .nil),⟨_,hT3,rfl,_,rfl⟩⟩
  refine⟨.ref s.heap.objs.size,_,I3,rfl,⟨_,x,y,PF,rfl,rfl,λzs Ru=>by rw[I.lr Ru OT];exact hx,λzs Ru=>by rw[I.lr Ru OO];exact hy⟩,
   ⟨SD,(QD.2 TI d1).trans (g7 TI _ d1 d5 d6 d7 OS),⟨_,_,(QD.2 TO d2).trans g2⟩,g3.at λo e=>(QD.2 i1 d3).trans e,g4.at λo e=>(QD.2 i2 d4).trans e⟩,λb hb=>?_⟩
  have nb:b≠s.heap.objs.size:=by
   simp only[Tt,UC,or_false] at hb;rcases hb with q | q | q | q | q <;> subst q
   .exact lt hz
   .exact lt OU
   .exact lt R5
   .exact lt R6
   .exact lt OS
  rw[au nb];exact(hf b hb).1
 done:=by
  intro X hP hw hK hc i N5 s σ H E I hf st hg;subst hP hw hK;obtain⟨xs,ys,OT,OO,Pw⟩:=hg;obtain⟨Q7,Rv,p1,SA⟩:=I.row OT;obtain⟨OV,Rw,p2,Rl⟩:=I.row OO;obtain⟨hz,OS,⟨a,c,OU⟩,h1,h2⟩:=st;obtain⟨d1,d2,d3,d4,d5,d6,d7,d8,d9,d10⟩:=D;have D:ZipApart z TI TO i1 i2 a1 a2:=⟨d1,d2,d3,d4,d5,d6,d7,d8,d9,d10,cB I OT (hf z (by simp)),cB I OT (hf TO (by simp)),cB I OT (hf i1 (by simp)),cB I OT (hf i2 (by simp)),
   cB I OO (hf z (by simp)),cB I OO (hf TO (by simp)),cB I OO (hf i1 (by simp)),cB I OO (hf i2 (by simp))⟩
  have l1:=Rv.length;have l2:=Rw.length;refine nP (I.ok.hd hc) D hz OS OU h1 h2 p1 p2 ?_ λh' k=>⟨rfl,?_⟩
  .rcases Pw with q | q
   .exact .inl (by simp;lia)
   .exact .inr (by simp;lia)
  .exact I.yk (t':=s.toks) (ch:=[z,TO,i1,i2,TI]) (λb u hb e=>by
    simp only[Tt,UC,or_false,not_or] at hb;exact k b u hb.1 hb.2.1 hb.2.2.1 hb.2.2.2.1 e) hf
 self:=λ_ _ _ _ _ st h=>by
  obtain⟨hz,_⟩:=st;exact W6 hz h
theorem IG(n:Nat):n+2≠n+4/\n+3≠n+4/\n≠n+4/\n+1≠n+4/\n+2≠n+3/\n+2≠n/\n+2≠n+1/\n+3≠n/\n+3≠n+1/\n≠n+1:=by
 refine⟨?_,?_,?_,?_,?_,?_,?_,?_,?_,?_⟩ <;> lia
def Ks(K:PySem.W.Frag)(tl:TA):TI:=fun σ H R=>tl σ H λvs H1=>∃ b1 b2 a1 a2,vs=[.ref a1,.ref a2]/\(∃ xs,kF K H1 b1 a1 xs)/\(∃ ys,kF K H1 b2 a2 ys)/\R (Mi K b1 b2 a1 a2) H1
theorem jX{tp:Pos}{l1 l2:Expr}{p pos:Pos}(hg:Gl X "zip")(hm:X.mg "zip" = none)(hl:PA X [l1,l2] tl)(hs:autoParam (starEach [l1,l2] X.env=[(false,eval l1 X.env),(false,eval l2 X.env)]) aR._auto_1)(PH:autoParam (starEach [l2] X.env=[(false,eval l2 X.env)]) aR._auto_1) :
  PI X (.Tuple elts x1 tp) (.Call (.Name "zip" p) [l1,l2] [] pos) (Ks X.K tl):=by
 intro N5 s σ H R I h;refine Call_ (i8 I hg hm YL (Ux (cX (hl pos N5 s σ H _ I h) λus s1 ⟨vs,H1,I1,r1,q1⟩=>?_) (by rw[hs,PH]) (by rw[PH];rfl)));obtain⟨b1,b2,a1,a2,e,⟨xs,OT⟩,⟨ys,OO⟩,q⟩:=q1;subst e;cases r1 with
 | cons r rr =>
  cases rr with
  | cons r' rr =>
   cases rr;cases (show _=Td a1 from r);cases (show _=Td a2 from r');obtain⟨Q7,Rv,p1,SA⟩:=I1.row OT;obtain⟨OV,Rw,p2,Rl⟩:=I1.row OO;refine Ah p1 p2 λh' g1 g2 g3 g4 g5 g6 g7=>?_;have I2:Inv X N5 σ H1 { s1 with heap:=h' }:=I1.kept (t':=s1.toks) g7;refine W6 (s:={ s1 with heap:=h' }) g1 ?_;refine⟨s1.heap.objs.size+4,[s1.heap.objs.size+4,s1.heap.objs.size+3,s1.heap.objs.size,s1.heap.objs.size+1,s1.heap.objs.size+2],_,_,H1,rfl,I2,
    Br b1 b2 a1 a2 _ _ _ _ _ (IG s1.heap.objs.size),⟨g1,g2,⟨_,_,g3⟩,g4,g5⟩,λb hb=>?_,q⟩
   have hle:s1.heap.objs.size<=b:=by
    simp only[Tt,UC,or_false] at hb;rcases hb with q | q | q | q | q
    .rw[q];exact US _ 4
    .rw[q];exact US _ 3
    .rw[q];exact SX _
    .rw[q];exact US _ 1
    .rw[q];exact US _ 2
   exact I1.t5 hle (I1.bB.fresh hle)
def Mb(K:PySem.W.Frag)(b:Bool)(a:Addr):It:=match b with
 | true=>NC K a
 | false=>Nz K a
def J0(K:PySem.W.Frag)(tl:TE):TI:=fun σ H R=>tl σ H λx H1=>∃ b a,x=.ref a/\(∃ xs,kF K H1 b a xs)/\R (Mb K b a) H1
theorem dy{l:Expr}{tl:TE}(hl:PE X l tl):PI X tg l (J0 X.K tl):=by
 intro N5 s σ H R I h;refine cX (hl N5 s σ H _ I h) λv s1 ⟨x,H1,I1,r1,q1⟩=>?_;obtain⟨b,a,e,⟨xs,hq⟩,q⟩:=q1;subst e;cases r1;cases b with
 | true =>
  obtain⟨N9,rv,p,hz⟩:=I1.list hq;refine X4 p.isList ?_;refine⟨s1.heap.objs.size,[s1.heap.objs.size],_,_,H1,rfl,I1.kept (t':=s1.toks) λb o e=>SQ _ e,yU a _,⟨_,S2 _ rfl,rfl,rfl⟩,λb hb=>?_,q⟩;have e:b=s1.heap.objs.size:=by simpa using hb
  subst e;exact I1.t5 (SX _) (I1.bB.fresh (SX _))
 | false =>
  obtain⟨N9,rv,p,hz⟩:=I1.tuple hq;refine V7 (show s1.heap.IsTuple a N9.toArray from p) ?_;refine⟨s1.heap.objs.size,[s1.heap.objs.size],_,_,H1,rfl,I1.kept (t':=s1.toks) λb o e=>SQ _ e,w4 a _,⟨_,S2 _ rfl,rfl,rfl⟩,λb hb=>?_,q⟩;have e:b=s1.heap.objs.size:=by simpa using hb
  subst e;exact I1.t5 (SX _) (I1.bB.fresh (SX _))
theorem zg(hc:X.calm=true):dw X (.builtin "sum") (λxs H Q=>∃ (a:Addr) (ns:List Int),xs=[.ref a]/\iB X.K H a (ns.map V.int)/\Q (.int ns.sum) H):=by
 intro N5 s σ H xs us Q I r h;obtain⟨a,ns,rfl,hq,q⟩:=h;cases r with
 | cons r1 r2 =>
  cases r2;cases (show _=Td a from r1);obtain⟨N9,rv,p,hz⟩:=I.list hq;have hi:=intsAre_of rv;obtain⟨xs',e⟩:=hi.allInts.items;have e3:numsOf (intItems xs').toList=ns:=by rw[<- e];exact hi.numsOf
  rw[nums_intItems] at e3;refine sum_intListG (I.ok.hd hc) (by rw[<- e];exact p.isList) λh' tk t' hk=>⟨.int ns.sum,H,I.kept (t':=tk) hk,⟨t',?_⟩,q⟩
  rw[preSum_eq,Yu (by simp),e3]
structure jy (K:PySem.W.Frag) (C:Addr):Prop where
 ga:PySem.W.findIn K (.ref C) "__getattribute__" = some (some (.builtin "BaseException.__getattribute__"))
 gn:PySem.W.findIn K (.ref C) "__getattr__" = some none
 hd:PySem.W.hasDictIn K C=true
 sa:PySem.W.findIn K (.ref C) "__setattr__" = some (some (.builtin "object.__setattr__"))
 mb:PySem.W.mroIn K C (.type "BaseException")=some true
 mo:PySem.W.mroIn K C (.type "object")=some true
 ca:PySem.W.findIn K (.ref C) "__class__" = some (some (.builtin "object.__class__"))
 cg:PySem.W.specialIn K (.builtin "object.__class__") "__get__" = some (some (.builtin "getset_descriptor.__get__"))
 ct:PySem.W.takesIn K (.builtin "object.__class__")=some true
variable{name:Str}{ox:Obj}
section
variable{E:Value->Shared->Prop}{K:PySem.W.Frag}{x:Addr}{od:Option Obj}
theorem As:builtinKind "BaseException.__getattribute__" = some .slot:=by decide +kernel
theorem zA:splitId "BaseException.__getattribute__" = some ("BaseException", "__getattribute__"):=by decide +kernel
theorem Ir{tk:Tok}{fill expr:Bool}(c:jy K C)(X:K.In s.heap)(I:PySem.W.InstAt s.heap x ox C od)
  (h:wpAny (model prog w) A.in1 (Builtin.«object.__getattribute__» ⟨[.ref x,.str name tk],[]⟩)
   (λfin s'=>match fin with | .done (.ret v)=>wpAny (model prog w) A (handedOut v) Q E s' | _=>False) (λ_ _=>False) s) :
  wpAny (model prog w) A (getAttrBy (.ref x) (.str name tk) fill expr) Q E s:=by
 have Pz:(Xa "BaseException.__getattribute__" == Xa "object.__getattribute__")=false:=by decide +kernel
 have RE:(onTheHeap (Td C)&&Xa "BaseException.__getattribute__" == Xa "object.__getattribute__")=false:=by rw[Pz];rfl
 have hx0:(expr&&onTheHeap (Xa "BaseException.__getattribute__"))=false:=by cases expr <;> rfl
 have sub:PySem.W.Looks (model prog w) s.heap (isInstance (.ref x) (.type "BaseException")) true:=I.type.andThen (PySem.W.looks_mroIn X c.mb);unfold getAttrBy;refine U0 (RM (I.type.here (RM ((PySem.W.looks_findIn X c.ga).here ?_))));dsimp only;rw[RE,if_neg Uh];unfold getAttrByItsOwn hookBefore;refine RM ?_;show wpAny _ _ (typeLookup (.ref C) "__getattr__") _ _ _;refine(PySem.W.looks_findIn X c.gn).here ?_;refine RM (VZ (U0 ?_));unfold callGetattribute;rw[hx0,if_neg Uh];unfold boundAndCalled;refine RM (wpAny_of_eq (PySem.F.attr_ValueError.ga.bind _) ?_);refine XQ (YZ PySem.F.attr_ValueError.ga.plain PySem.F.entry_bexc_ga (@PySem.W.check_slot (model prog w) _ _ s "BaseException.__getattribute__" "BaseException" "__getattribute__" (.ref x) [.str name tk] [] _ As zA sub (PySem.F.args_bexc_ga _ _) ?_));refine UU h (λfin s' z=>?_) (λ_ _ z=>z.elim);rcases fin with (v | _ | _ | _) | _ <;> first | exact z | exact z.elim
end
variable{newId:String}{dd:Option Addr}
variable{f:Addr}
section
open PySem.Builtin.ObjectAttr (storeInOwnDict storeTaker? setByDescriptor)
abbrev fE:List Value:=[.type "ValueError", .type "Exception", .type "BaseException", .type "object"]
def gG:List Value->Bool
 | .ref _::r=>gG r
 | l=>l==fE
theorem pf(self:Value):refuseLoop self "__setattr__" fE=pure ():=by kernel_rfl
theorem mS(self:Value):∀ {l:List Value},gG l=true->refuseLoop self "__setattr__" l=pure ()
 | .ref c::r,e=>by rw[PySem.refuseLoop_ref];exact mS self e
 | [],e=>by cases (show false=true from e)
 | .type n::r,e=>by rw[show U7 n::r=fE from beq_iff_eq.mp e];exact pf self
 | .none::r,e=>by rw[show Um::r=fE from beq_iff_eq.mp e];exact pf self
section
variable{E:Value->Shared->Prop}{K:PySem.W.Frag}{x:Addr}{od:Option Obj}
theorem qB{a g:Value}(hc:(PySem.W.clsIn K C).isSome=true)(ha:PySem.W.findIn K (.ref C) name=some (some a))(hg:PySem.W.specialIn K a "__get__" = some (some g))(ht:PySem.W.takesIn K a=some true):PySem.W.findObj K C od name=some (.bind g a):=by
 obtain⟨cd,hc⟩:=WD.mp hc;unfold PySem.W.findObj;rw[hc,ZS,ha,ZS];simp[hg,ht]
theorem zx{Q:Option Value->Shared->Prop}(c:jy K C)(X:K.In s.heap)(I:PySem.W.InstAt s.heap x ox C od)(h:Q (some (.ref C)) { s with toks:=s.toks+1 }):wpAny (model prog w) A (getAttr? (.ref x) "__class__") Q E s:=by
 have hc:(PySem.W.clsIn K C).isSome=true:=by obtain⟨cd,hc,_⟩:=PySem.W.any_some c.hd;rw[hc];rfl
 have hf:PySem.W.findObj K C od "__class__" = some (.bind (.builtin "getset_descriptor.__get__") (.builtin "object.__class__")):=qB hc c.ca c.cg c.ct;unfold getAttr? getAttrBy?;refine RM (wpAny_mkText (RM (VZ ?_)));refine Ir (s:={ s with toks:=s.toks+1 }) c X I ?_;unfold Builtin.«object.__getattribute__»;refine RM (SY ?_);dsimp only;refine RM (SY ?_);refine RM (I.type.here (s:={ s with toks:=s.toks+1 }) (RM ((PySem.W.looks_find X I hf).here (s:={ s with toks:=s.toks+1 }) ?_)));show wpAny _ _ (holding [.builtin "object.__class__"] (call (.builtin "getset_descriptor.__get__") [.builtin "object.__class__", .ref x,.ref C]) >>= ret) _ _ _;refine RM (U0 (XQ (PySem.W.class_get (s:={ s with toks:=s.toks+1 }) (ox:=ox) (od:=od) X I c.mo ?_)));refine SY ?_;exact PySem.W.handed_on rfl (SY h)
theorem uO(c:jy K C):PySem.W.KitX K (.ref x) (.ref C) (λh=>PySem.W.InstAt h x ox C od) where
 ty:=λ_ _ _ I=>I.type
 it:=λ_ _ X _=>by
  obtain⟨cdD,QU,_⟩:=PySem.W.any_some c.hd;unfold PySem.W.clsIn at QU
  split at QU
  .rename_i c' d' cd' sl' ho;intro A' Q' E' s' k q;unfold isType loadHead;exact RM (WL (k _ _ (X _ _ ho)) (SY q))
  .cases QU
 ne:=λh tp dd N9 n sl X htp=>by
  obtain⟨cdD,QU,_⟩:=PySem.W.any_some c.hd;refine Bool.eq_false_iff.mpr λq=>?_;have e:C=tp:=Value.ref.inj (beq_iff_eq.mp q);subst e;unfold PySem.W.clsIn at QU
  split at QU
  .rename_i c' d' cd' sl' ho;have z:=(X _ _ ho).symm.trans htp;cases z
  .cases QU
 ca:=λX I k=>zx c X I k
theorem DK{tk:Tok}{v:Value}{R:Result->Shared->Prop}(po:((PySem.W.clsIn K C).any λcd=>gG cd.mro)=true)(c:jy K C)(X:K.In s.heap)(I:PySem.W.InstAt s.heap x ox C od)(ht:PySem.W.takerIn K C name=some none)
  (h:∀ b,wpAny (model prog w) A.in1 (storeInOwnDict (.ref x) (.ref C) (.str name tk) name v b)
   (λfin s'=>match fin with | .done f=>R (.ok f) s' | .again c'=>c'.quiet=true/\codeAny (model prog w) A c' R s') (λe s'=>R (.error e) s') s) :
  codeAny (model prog w) A (.call (.builtin "object.__setattr__") ⟨[.ref x,.str name tk,v],[]⟩) R s:=by
 have SF:=PySem.F.store_object;obtain⟨cd,hc,ho⟩:=PySem.W.any_some po;have sub:PySem.W.Looks (model prog w) s.heap (isInstance (.ref x) (.type "object")) true:=I.type.andThen (PySem.W.looks_mroIn X c.mo);refine YZ SF.slot.plain SF.entry (@PySem.W.check_slot (model prog w) _ _ s "object.__setattr__" "object" "__setattr__" (.ref x) [.str name tk,v] [] _ SF.kind SF.split sub (SF.args (.ref x) (.str name tk) v) ?_);obtain⟨attr,ha,hr⟩:=WJ.mp ht;have hm:PySem.W.Looks (model prog w) s.heap (mroOf (.ref C)) cd.mro:=(PySem.W.looks_clsIn X hc).andThen .now;have L3:PySem.W.Looks (model prog w) s.heap (storeTaker? attr) none:=by
  cases attr with
  | none=>cases hr;exact .now
  | some a =>
   obtain⟨b,hb,e⟩:=Tv.mp hr;refine(PySem.W.looks_takesIn X hb).andThen ?_;cases b with
   | true=>cases e
   | false=>exact .now
 rw[PySem.W.osa_eq,PySem.refuse_eq];refine RM (RM (I.type.here (RM (hm.here ?_))));rw[mS _ ho];refine SY (RM (I.type.here (RM ((PySem.W.looks_findIn X ha).here (RM (L3.here ?_))))));exact h _
theorem BV{vs:Array Value}{v:Value}{Q:Unit->Shared->Prop}(po:((PySem.W.clsIn K C).any λcd=>gG cd.mro)=true)(c:jy K C)(X:K.In s.heap)(hx:s.heap.get? x=some ⟨.ref C,none,.fields vs,#[]⟩)(ht:PySem.W.takerIn K C name=some none)
  (h:∀ h' tk d,h'.get? x=some ⟨.ref C,some d,.fields vs,#[]⟩->s.heap.get? d=none->h'.Ns1 d (λy=>if y=name then some v else none)->(∀ b o,b≠x->s.heap.get? b=some o->h'.get? b=some o)->Q () { s with heap:=h',toks:=tk }) :
  wpAny (model prog w) A (setAttr (.ref x) name v) Q E s:=by
 have I:PySem.W.InstAt s.heap x ⟨.ref C,none,.fields vs,#[]⟩ C none:=⟨hx,rfl,rfl,trivial⟩
 refine PySem.W.set_plain X I c.sa (DK (s:={ s with toks:=s.toks+1 }) po c X I ht λb=>?_);obtain⟨cd,hc,Sd⟩:=PySem.W.any_some c.hd;have ON:=S7 hx;refine RM (SY (RM (RM (WL hx (RM (PySem.W.Looks.here (s:={ s with toks:=s.toks+1 }) (PySem.W.looks_clsIn X hc) ?_))))));rw[Sd];refine RM (wpAny_alloc ?_);have RE:(s.heap.push { cls:=.type "dict", data:=.dict #[] }).get? x=some ⟨.ref C,none,.fields vs,#[]⟩:=SQ _ hx;refine RM (wpAny_update RE ?_);refine SY (a:=some s.heap.objs.size) (RM (SY (RM ?_)));have Pz:((s.heap.push { cls:=.type "dict", data:=.dict #[] }).update x λo=>{ o with dict:=some s.heap.objs.size }).get? x=some ⟨.ref C,some s.heap.objs.size,.fields vs,#[]⟩:=UZ _ RE rfl;have e1:(s.heap.push { cls:=.type "dict", data:=.dict #[] }).get? s.heap.objs.size=some { cls:=.type "dict", data:=.dict #[] }:=S2 s.heap rfl;have nxd:s.heap.objs.size≠x:=Vk ON;have e2:((s.heap.push { cls:=.type "dict", data:=.dict #[] }).update x λo=>{ o with dict:=some s.heap.objs.size }).get? s.heap.objs.size=some { cls:=.type "dict", data:=.dict #[] }:=by
  rw[Uk _ _ (Vb nxd)];exact e1
 have e3:((s.heap.push { cls:=.type "dict", data:=.dict #[] }).update x λo=>{ o with dict:=some s.heap.objs.size }).Ns s.heap.objs.size (λ_=>none):=⟨_,#[],_,e2,rfl,(λe he=>absurd he (by simp)),λ_=>rfl⟩
 refine wpAny_nsSet1 (s:={ s with heap:=(s.heap.push { cls:=.type "dict", data:=.dict #[] }).update x λo=>{ o with dict:=some s.heap.objs.size },toks:=s.toks+1 }) (Zy e3) λh' QO PH=>?_;obtain⟨oD,esD,epD,hoD,hdD,QU⟩:=QO.count (PySem.Within.cons (ns:=[]) name v (λy hy=>absurd rfl hy));refine RM (wpAny_lookBehind hoD (by rw[hdD];exact pastItsLine_dict (TJ QU (by show 1<=sizeLine+1;exact Nat.le_add_left _ _))) ?_);refine SY (h h' _ s.heap.objs.size ((PH.2 x (Vb nxd)).trans Pz) (Wg (SX _)) QO λb o hb e=>?_);refine(PH.2 b (Tu (S7 e))).trans ?_;rw[Uk _ _ (Vb hb)];exact SQ _ e
end
def oV(K:PySem.W.Frag)(C:Addr)(newId:String)(f:Addr):Bool:=match K.lookup C with
 | some ⟨.type "type", _,.cls cd,sl⟩=>(match cd.mro,sl.toList with
  | .ref C'::bm,[_,_,_,_,some (.builtin n),_]=>C'==C&&n==newId&&!cd.hasDel&&PySem.W.tailIn K fE bm&&PySem.W.nsOkIn K cd.ns&&PySem.W.nsIn K cd.ns "__init__" == some (some (.ref f))
  | _,_=>false)
 | _=>false
section
variable{E:Value->Shared->Prop}{g:Array GenState}{d:Drawn}{t:Nat}{os:OsState}
variable{nm q:Str}{N:Addr}{bs bm:List Value}{Qp:Bool}{sn:List Str}{sub:List Value}{ab:Bool}{col:Option Bool}{k0 k1 k2 k3 k5:Option Value}{RS:String}
theorem oW(F:ExcBaseFacts "ValueError" newId RS fE)(T:OwnTail h fE bm){mN:Str->Option Value}{rest:List Value}{Q:Fin->Shared->Prop}
  (hC:h.get? C=some (excClassObj nm q C N bs bm Qp sn sub ab col dd k0 k1 k2 k3 k5 newId)) (hn:h.Ns N mN) (QI:mN "__init__" = some (.ref f))
  (hb:∀ h':Heap,(∀ b o,h.get? b=some o->h'.get? b=some o)->∀ self,PySem.W.Looks (model prog w) h' (bindSpecial (.ref f) self) (.ref f,[self]))
  (hq:∀ h':Heap,(∀ b o,h.get? b=some o->h'.get? b=some o)->h'.get? h.objs.size=some { cls:=.type "tuple", data:=.seq rest.toArray } ->
   h'.get? (h.objs.size+1)=some { cls:=.ref C,data:=.fields #[.ref h.objs.size,.none,.none,.none,.bool false,.none] }->h'.objs.size=h.objs.size+2 ->
   wpAny (model prog w) A (call (.ref f) (.ref (h.objs.size+1)::rest)) (λv s'=>v=.none/\Q (.done (.ret (.ref (h.objs.size+1)))) s') E ⟨h',g,d,t,os⟩) (vS:rest.length<=sizeLine:=by size_fits) :
  wpAny (model prog w) A (Builtin.«type.__call__» ⟨.ref C::rest,[]⟩) Q E ⟨h,g,d,t,os⟩:=by
 repeat (first | with_reducible refine X5 hC ?_ | with_reducible refine wpAny_madeBy_exc hC ?_ | wp_step)
 refine codeAny_call_builtin_code (Zp _ F.quiet) (wpAny_check_new_subT F T hC ?_);refine codeAny_exc_new_subT F T hC ?_ vS;show wpAny _ _ _ _ _ _;have kp:∀ b o,h.get? b=some o->((h.push { cls:=.type "tuple", data:=.seq rest.toArray }).push { cls:=.ref C,data:=.fields #[.ref h.objs.size,.none,.none,.none,.bool false,.none] }).get? b=some o:=λb o e=>SQ _ (SQ _ e);have hC1:=kp _ _ hC;have hn₁:((h.push { cls:=.type "tuple", data:=.seq rest.toArray }).push { cls:=.ref C,data:=.fields #[.ref h.objs.size,.none,.none,.none,.bool false,.none] }).Ns N mN:=hn.keeps kp;have Sg:((h.push { cls:=.type "tuple", data:=.seq rest.toArray }).push
   { cls:=.ref C,data:=.fields #[.ref h.objs.size,.none,.none,.none,.bool false,.none] }).get? (h.objs.size+1)=some
   { cls:=.ref C,data:=.fields #[.ref h.objs.size,.none,.none,.none,.bool false,.none] }:=by heap_get
 have htup:((h.push { cls:=.type "tuple", data:=.seq rest.toArray }).push
   { cls:=.ref C,data:=.fields #[.ref h.objs.size,.none,.none,.none,.bool false,.none] }).get? h.objs.size=some { cls:=.type "tuple", data:=.seq rest.toArray }:=SQ _ (S2 _ rfl)
 have Pd:((h.push { cls:=.type "tuple", data:=.seq rest.toArray }).push { cls:=.ref C,data:=.fields #[.ref h.objs.size,.none,.none,.none,.bool false,.none] }).objs.size=h.objs.size+2:=by rw[Ua,Ua]
 have hcC:(Td C::bm).contains (.ref C)=true:=by simp
 have T₁:=T.keeps kp;have hb1:=hb _ kp (.ref (h.objs.size+1));have fin:=hq _ kp htup Sg Pd;generalize ((h.push { cls:=.type "tuple", data:=.seq rest.toArray }).push { cls:=.ref C,data:=.fields #[.ref h.objs.size,.none,.none,.none,.bool false,.none] })=h1 at *;unfold isInstance
 repeat (first | with_reducible refine X5 Sg ?_ | (with_reducible refine wpAny_isSubtype_exc hC1 ?_;rw[hcC]) | wp_step)
 show wpAny _ _ (typeLookup (.ref C) _) _ _ _;refine wpAny_typeLookup_tail hC1 hn₁ T₁ F.mroIs F.init.lookup ?_;rw[QI];refine U0 (RM (hb1.here ?_));refine RM (UU fin (λv s' z=>?_) λ_ _ z=>z);obtain⟨rfl,z⟩:=z
 wp_walk
 exact z
end
end
def hX(C:Addr)(dd:Option Addr)(e:Addr):HO:=.ext λh=>∃ vs,h.get? e=some ⟨.ref C,dd,.fields vs,#[]⟩
theorem Ea{e:Addr}{vs:Array Value}(he:h.get? e=some ⟨.ref C,dd,.fields vs,#[]⟩):b_ P w H h e (hX C dd e) :=
 ⟨⟨vs,he⟩,⟨_,he⟩,λ_ _ ⟨vs,q⟩ k=>⟨vs,k _ q⟩⟩
def ExcAt(H:Hp)(e C:Addr)(fo:Option (List (Str×V))):Prop:=match fo with
 | none=>H e=some (hX C none e)
 | some fs=>∃ d,H e=some (hX C (some d) e)/\H d=some (.xd fs)
theorem Inv.oJ(I:Inv X N5 σ H s){e:Addr}(he:H e=some (hX C dd e)):∃ vs,s.heap.get? e=some ⟨.ref C,dd,.fields vs,#[]⟩:=(I.bB e _ he).1
theorem Inv.D9(I:Inv X N5 σ H s){e:Addr}{fo:Option (List (Str×V))}(h:ExcAt H e C fo):∃ ox od,PySem.W.InstAt s.heap e ox C od/\(fo=none->od=none) ∧
  ∀ fs,fo=some fs->∃ (o:Obj) (mA:Str->Option Value),od=some o/\(∀ n,PySem.W.lookIn n o=some (mA n))/\∀ f,ml (fs.lookup f) (mA f):=by
 cases fo with
 | none =>
  obtain⟨vs,q⟩:=I.oJ h;exact⟨_,none,⟨q,rfl,rfl,trivial⟩,λ_=>rfl,λfs z=>(by cases z)⟩
 | some fs =>
  obtain⟨d,h1,h2⟩:=h;obtain⟨vs,q⟩:=I.oJ h1;obtain⟨mA,n,r⟩:=(show ∃ mA,s.heap.Ns1 d mA/\∀ f,ml (fs.lookup f) (mA f) from I.bB d _ h2)
  obtain⟨o,ho,hl⟩:=mK n;refine⟨_,some o,⟨q,rfl,rfl,ho⟩,λz=>(by cases z),λRx z=>?_⟩;cases z;exact⟨o,mA,rfl,hl,r⟩
theorem Inv.tJ{a:Addr}(I:Inv X N5 σ H s)(hn:s.heap.get? a=none):H a=none:=by
 cases q:H a with
 | none=>rfl
 | some u =>
  exfalso;have:∀ (u:HO),b_ X.prog X.w H s.heap a u->∃ ob,s.heap.get? a=some ob:=by
   intro u
   induction u with
   | lst xs=>intro ⟨_,_,_,_,e⟩;exact⟨_,e⟩
   | tup xs=>intro ⟨_,_,_,p⟩;obtain⟨ob,e,_⟩:=p;exact⟨ob,e⟩
   | dK O4=>intro ⟨_,_,_,_,p⟩;obtain⟨ob,_,_,e,_⟩:=p;exact⟨ob,e⟩
   | dT O4=>intro ⟨_,_,_,_,ob,_,_,e,_⟩;exact⟨ob,e⟩
   | set S n=>intro p;obtain⟨es,ob,xs,ep,e,_⟩:=p;exact⟨_,e⟩
   | ins C dx fs=>intro ⟨_,_,_,e,_⟩;exact⟨_,e⟩
   | own x=>intro ⟨ob,e⟩;exact⟨ob,e⟩
   | xd fs=>intro ⟨mA,n,_⟩;obtain⟨ob,e,_⟩:=mK n;exact⟨ob,e⟩
   | met f x=>intro e;exact⟨_,e⟩
   | hZ lo hi=>intro ⟨_,_,_,e⟩;exact⟨_,e⟩
   | qL o u _=>intro ⟨e,_⟩;exact⟨_,e⟩
   | FO ps=>intro e;exact⟨_,e⟩
   | ext φ=>intro ⟨_,⟨ob,e⟩,_⟩;exact⟨ob,e⟩
  obtain⟨ob,e⟩:=this u (I.bB a u q);rw[hn] at e;cases e
theorem Inv.FW{a:Addr}{o:HO}(I:Inv X N5 σ H s)(k:∀ b u,s.heap.get? b=some u->h'.get? b=some u)(hn:s.heap.get? a=none)(new:b_ X.prog X.w (upd H a o) h' a o) :
  Inv X N5 σ (upd H a o) { s with heap:=h',toks:=t' }:=by
 have ne:∀ b u,s.heap.get? b=some u->b≠a:=λb u e z=>by rw[z,hn] at e;cases e
 have QY:H a=none:=I.tJ hn;have Ra:∀ b u,H b=some u->b≠a:=λb u e z=>by rw[z,QY] at e;cases e
 refine I.un ⟨λb u e _ _ _=>k b u e,λb u e _ _ _=>⟨u.slots,k b u e⟩,λb u e n _=>by rw[au (ne b u e)];exact n,λb u e _=>⟨u,k b u e⟩,
  λb xs e=>by rw[au (Ra b _ e)];exact e,λb ob u e=>by rw[au (Ra b _ e)];exact e,λb ps e=>⟨#[],by rw[au (Ra b _ e),e];simp⟩⟩ λb u e=>?_
 by_cases z:b=a
 .subst z;rw[aE] at e;cases e;exact new
 .rw[au z] at e;refine(I.bB b u e).lQ (λc v _ q=>k c v q) (λc q=>?_) λc ys q=>?_
  .rw[au (Ra c _ q)];exact q
  .rw[au (Ra c _ q)];exact q
variable{apos:Pos}{m:Str}{ta:TE}{o:Expr}
section
variable{f:Str}{pos:Pos}
def L6(K:PySem.W.Frag):List V->Hp->VK->Prop:=λxs H Q=>∃ e C fo b,jy K C/\ExcAt H e C fo ∧
 ((∃ T,xs=[.ref e,.ty T]/\PySem.W.kitOne K (.ref C) (.type T)=some b)\/(∃ D,xs=[.ref e,.ref D]/\PySem.W.kitOne K (.ref C) (.ref D)=some b))/\Q (.bl b) H
theorem CQ:dw X (.builtin "isinstance") (L6 X.K):=by
 intro N5 s σ H xs us Q I r h;obtain⟨e,C,fo,b,c,ha,hc,q⟩:=h;obtain⟨ox,od,J,_⟩:=I.D9 ha;rcases hc with ⟨T,rfl,hk⟩ | ⟨D,rfl,hk⟩
 .cases r with
  | cons r1 r2 =>
   cases r2 with
   | cons r3 r4 =>
    cases r4;cases (show _=Td e from r1);cases (show _=U7 T from r3);exact PySem.W.kia_one (uO c) I.jK J hk (λz=>nomatch z) λtk=>⟨.bl b,H,I.tok tk,rfl,q⟩
 .cases r with
  | cons r1 r2 =>
   cases r2 with
   | cons r3 r4 =>
    cases r4;cases (show _=Td e from r1);cases (show _=Td D from r3);exact PySem.W.kia_one (uO c) I.jK J hk (λz=>nomatch z) λtk=>⟨.bl b,H,I.tok tk,rfl,q⟩
end
variable{mg:Str->Option Value}
theorem xu{K:PySem.W.Frag}{N:Addr}{n:Str}{v:Value}(X:K.In h)(G:h.Ns N mg)(e:PySem.W.nsIn K N n=some (some v)):mg n=some v:=by
 obtain⟨o,es,ep,ho,hd,_,hf⟩:=G;unfold PySem.W.nsIn at e
 split at e
 .rename_i c d es' n' sl q;have:=X _ _ q;rw[ho] at this;cases this;cases hd
  split at e
  .rename_i en he;cases e;rw[<- hf];unfold nsFind findBy;rw[<- Zm,he];rfl
  .split at e <;> cases e
 .cases e
theorem Eh{K:PySem.W.Frag}(X:K.In h)(q:PySem.W.excIn K C fE newId=true) :
  ∃ bm N nm qn bs Qp sn sub ab col dd k0 k1 k2 k3 k5 mN,h.get? C=some (excClassObj nm qn C N bs bm Qp sn sub ab col dd k0 k1 k2 k3 k5 newId)/\h.Ns N mN/\mN "__init__" = none/\OwnTail h fE bm:=by
 unfold PySem.W.excIn at q
 split at q
 .rename_i dd cd sl ho
  split at q
  .rename_i C' bm k0 k1 k2 k3 n k5 hm hs;simp only[Ud,beq_iff_eq,ZI] at q;obtain⟨⟨⟨⟨⟨rfl,rfl⟩,QV⟩,ht⟩,bB⟩,QI⟩:=q;obtain⟨nm,bs,mro,ns,qn,hd,sn,sub,ab,col,del⟩:=cd;dsimp only at hm QV bB QI;subst hm QV;have hsl:sl=#[k0,k1,k2,k3,some (.builtin n),k5]:=by
    obtain⟨l⟩:=sl;simp only at hs;rw[hs]
   subst hsl;exact⟨bm,ns,nm,qn,bs,hd,sn,sub,ab,col,dd,k0,k1,k2,k3,k5,_,X _ _ ho,.of_isNs (PySem.W.isNs_of_in X bB),PySem.W.nsMap_none_of_in X bB QI,PySem.W.tail_of_in X ht⟩
  .cases q
 .cases q
theorem AS{K:PySem.W.Frag}(X:K.In h)(q:oV K C newId f=true) :
  ∃ bm N nm qn bs Qp sn sub ab col dd k0 k1 k2 k3 k5 mN,h.get? C=some (excClassObj nm qn C N bs bm Qp sn sub ab col dd k0 k1 k2 k3 k5 newId)/\h.Ns N mN/\mN "__init__" = some (.ref f)/\OwnTail h fE bm:=by
 unfold oV at q
 split at q
 .rename_i dd cd sl ho
  split at q
  .rename_i C' bm k0 k1 k2 k3 n k5 hm hs;simp only[Ud,beq_iff_eq,ZI] at q;obtain⟨⟨⟨⟨⟨rfl,rfl⟩,QV⟩,ht⟩,bB⟩,QI⟩:=q;obtain⟨nm,bs,mro,ns,qn,hd,sn,sub,ab,col,del⟩:=cd;dsimp only at hm QV bB QI;subst hm QV;have hsl:sl=#[k0,k1,k2,k3,some (.builtin n),k5]:=by
    obtain⟨l⟩:=sl;simp only at hs;rw[hs]
   subst hsl;have hN:=Heap.Ns.of_isNs (PySem.W.isNs_of_in X bB);exact⟨bm,ns,nm,qn,bs,hd,sn,sub,ab,col,dd,k0,k1,k2,k3,k5,_,X _ _ ho,hN,xu X hN QI,PySem.W.tail_of_in X ht⟩
  .cases q
 .cases q
variable{k:Nat}{t:TA}{es:List Expr}{e:Expr}{sp:Sp}{ps:List Str}{fd:FuncData}
section
variable{p pos:Pos}
end
section
open PySem.SeqAt (shaped noMix noMixAll)
end
section
open PySem.SeqAt (shaped noMix noMixAll)
theorem Fb{x:V}{u t:Value}(I:Inv X N5 σ H s)(rx:RelV x u)(ty:jM X.K H x t):∃ HH:Heap->Prop,PySem.W.KitX X.K u t HH/\HH s.heap/\u≠.builtin "__main__.__loader__#opaque" := by
 cases ty with
 | cJ=>cases (show u=Um from rx);exact⟨_,PySem.W.kitx_none,Vw,λz=>nomatch z⟩
 | bl y=>cases (show u=Vv y from rx);exact⟨_,PySem.W.kitx_bool,Vw,λz=>nomatch z⟩
 | int i=>obtain⟨t,q⟩:=(show ∃ t,u=XD i t from rx);cases q;exact⟨_,PySem.W.kitx_int,Vw,λz=>nomatch z⟩
 | str y=>obtain⟨t,q⟩:=(show ∃ t,u=X_ y t from rx);cases q;exact⟨_,PySem.W.kitx_str,Vw,λz=>nomatch z⟩
 | Ge y=>obtain⟨t,q⟩:=(show ∃ t,u=YT y t from rx);cases q;exact⟨_,PySem.W.kitx_float,Vw,λz=>nomatch z⟩
 | @lst a xs ea =>
  cases (show u=Td a from rx);obtain⟨_,_,n,_,h1⟩:=(show b_ X.prog X.w H s.heap a (.lst xs) from I.bB a _ ea)
  exact⟨_,PySem.W.kitx_list,⟨_,h1,rfl⟩,λz=>nomatch z⟩
 | @qL a ob xs ea =>
  cases (show u=Td a from rx);obtain⟨_,_,_,n,_,h1⟩:=(show b_ X.prog X.w H s.heap a (.qL ob (.lst xs)) from I.bB a _ ea)
  exact⟨_,PySem.W.kitx_list,⟨_,h1,rfl⟩,λz=>nomatch z⟩
 | @tup a xs ea =>
  cases (show u=Td a from rx);obtain⟨_,_,_,o,h1,h2,_⟩:=(show b_ X.prog X.w H s.heap a (.tup xs) from I.bB a _ ea)
  exact⟨_,PySem.W.kitx_tuple,⟨o,h1,h2⟩,λz=>nomatch z⟩
 | @dK a O4 ea =>
  cases (show u=Td a from rx);obtain⟨_,_,vs,_,o,es,ep,h1,h2,_⟩:=(show b_ X.prog X.w H s.heap a (.dK O4) from I.bB a _ ea)
  exact⟨_,PySem.W.kitx_dict,⟨o,h1,h2.1⟩,λz=>nomatch z⟩
 | @dT a O4 ea =>
  cases (show u=Td a from rx);obtain⟨_,_,xs,_,o,es,ep,h1,h2,_⟩:=(show b_ X.prog X.w H s.heap a (.dT O4) from I.bB a _ ea)
  exact⟨_,PySem.W.kitx_dict,⟨o,h1,h2.1⟩,λz=>nomatch z⟩
 | @ins a C dx fs ea cl ha hn JP hm =>
  cases (show u=Td a from rx);obtain⟨mA,O,_⟩:=l5 I.bB ea;obtain⟨od,J,_⟩:=O.look;exact⟨_,PySem.W.kitx_own (cl.get _) cl.hd ha hn JP hm,J,λz=>nomatch z⟩
def JY(K:PySem.W.Frag):List V->Hp->VK->Prop:=λxs H Q=>∃ (x:V) (tp:Addr) (Ts:List String) (t:Value) (b:Bool),xs=[x,.ref tp]/\H tp=some (.tup (Ts.map V.ty))/\jM K H x t/\PySem.W.kitAny K t (Ts.map U7)=some b/\Q (.bl b) H
theorem xJ:∀ {Ts:List String} {us:List Value},Vals (Ts.map V.ty) us->us=Ts.map U7
 | [],us,r=>by rw[V6] at r;cases r;rfl
 | T::Ts,us,r=>by
  rw[Tw] at r;cases r with
  | cons r1 r2 =>
   cases (show _=U7 T from r1);rw[xJ r2];rfl
theorem yL:dw X (.builtin "isinstance") (JY X.K):=by
 intro N5 s σ H xs us Q I r h;obtain⟨x,tp,Ts,t,b,rfl,htp,ty,e,q⟩:=h;cases r with
 | cons r1 r2 =>
  cases r2 with
  | cons r3 r4 =>
   cases r4;cases (show _=Td tp from r3);obtain⟨HH,Z,p,ne⟩:=Fb I r1 ty;obtain⟨_,N9,rv,o,h1,h2,n,h3⟩:=(show b_ X.prog X.w H s.heap tp (.tup (Ts.map V.ty)) from I.bB tp _ htp)
   have ei:=xJ rv;subst ei;obtain⟨cls,dd,data,sl⟩:=o;dsimp only at h2 h3;subst h2 h3;exact PySem.W.kia_tup Z I.jK p h1 e ne λtk=>⟨.bl b,H,I.tok tk,rfl,q⟩
theorem yg:∀ {bs:List Bool} {us:List Value},Vals (bs.map V.bl) us->us=bs.map Vv
 | [],us,r=>by rw[V6] at r;cases r;rfl
 | b::bs,us,r=>by
  rw[Tw] at r;cases r with
  | cons r1 r2 =>
   cases (show _=Vv b from r1);rw[yg r2];rfl
theorem IA:bootBuiltins "all" = some (.builtin "all"):=by decide +kernel
theorem Al(hc:X.calm=true):dw X (.builtin "all") (λxs H Q=>∃ (a:Addr) (bs:List Bool),xs=[.ref a]/\iB X.K H a (bs.map V.bl)/\Q (.bl (bs.all id)) H):=by
 intro N5 s σ H xs us Q I r h;obtain⟨a,bs,rfl,hq,q⟩:=h;cases r with
 | cons r1 r2 =>
  cases r2;cases (show _=Td a from r1);obtain⟨N9,rv,p,hz⟩:=I.list hq;have ei:=yg rv;subst ei;have hl:=p.isList;have ON:a<s.heap.objs.size:=by obtain⟨_,e,_⟩:=hl;exact S7 e
  refine call_all_walk (X4 hl ?_);refine⟨s.heap.objs.size,[s.heap.objs.size,a],[s.heap.objs.size],(bs.map Vv).toArray.size,_,_,λi=>(bs[i]?).getD true,rfl,Walks.list (A:=X.A.in1) (I.ok.hd hc) _ a (Tu ON) (bs.map Vv).toArray,
   ⟨⟨_,S2 _ rfl,rfl,rfl⟩,hl.push _⟩,λi v s' Q' E' hP hQ=>?_,λh' tk hk=>?_⟩
  .have hP':(bs.map Vv)[i]?=some v:=by simpa using hP
   rw[Tr] at hP';obtain⟨b,e1,e2⟩:=Tv.mp hP';subst e2;simp only[e1,Vf] at hQ;exact Vs hQ
  .have e:((Tg (bs.map Vv).toArray.size).all λi=>(bs[i]?).getD true)=bs.all id:=by
    rw[Tc,S0];rw[YJ,UB,UB];constructor
    .intro h b hb;obtain⟨i,hi,e⟩:=List.getElem_of_mem hb;have:=h i (UA.mpr hi);simp only[SW hi,Vf,e] at this;exact this
    .intro h i hi;have Rj:=UA.mp hi;simp only[SW Rj,Vf];exact h _ (T6 Rj)
   rw[e];refine⟨.bl _,H,I.kept (t':=tk) (λb x e=>?_),rfl,q⟩;exact hk b x (λhm=>by rw[Ui.mp hm] at e;exact VU _ (S7 e)) (SQ _ e)
end
section
open PySem.MeetsSeq PySem.MeetsSeq2 PySem.MeetsSeq3
theorem mC:fillsNumberSlot (.type "tuple") "mul" = pure false :=
 PySem.fillsNumberSlot_seq (id := "tuple.__mul__") (r:=some (.builtin "tuple.__rmul__")) F.slot_tuple_mul.lookup (by decide +kernel) F.slot_tuple_rmul.lookup (by decide +kernel)
theorem sZ:seqRepeat? (.type "tuple")=pure (some (.builtin "tuple.__mul__")):=by
 unfold seqRepeat?;rw[PySem.seqSlot_of (T := "tuple") (name := "__mul__") (id := "tuple.__mul__") F.slot_tuple_mul.lookup (by decide +kernel),PySem.seqSlot_of (T := "tuple") (name := "__rmul__") (id := "tuple.__rmul__") F.slot_tuple_rmul.lookup (by decide +kernel)];rfl
theorem tZ(a:Int)(t:Tok)(l:Addr)(items:Array Value)(n:Nat)(dd:Option Addr)(sl:Array (Option Value)) :
  Meets (Builtin.«int.__rmul__» ⟨[.int a t,.ref l],[]⟩) (λ_ R s=>s.heap.get? l=some ⟨.type "tuple", dd,.seq items n,sl⟩/\R (.ok (.ret YW)) s) :=
 .of_wp λprog w A R s h=>by obtain⟨hp,g,d,tk,os⟩:=s;obtain⟨hl,h⟩:=h;wp_walk;exact⟨_,rfl,h⟩
theorem z7(l:Addr)(items:Array Value)(n:Nat)(dd:Option Addr)(sl:Array (Option Value))(u:Tok) :
  Meets (Builtin.«tuple.__mul__» ⟨[.ref l,.int 1 u],[]⟩) (λ_ R s=>s.heap.get? l=some ⟨.type "tuple", dd,.seq items n,sl⟩/\R (.ok (.ret (.ref l))) s) :=
 .of_wp λprog w A R s h=>by
  obtain⟨hp,g,d,tk,os⟩:=s;obtain⟨hl,h⟩:=h;have f1:=Yg;have f2:=VV
  wp_walk using U1 hl
  exact⟨_,rfl,h⟩
theorem zP(l:Addr)(items:Array Value)(n:Nat)(dd:Option Addr)(sl:Array (Option Value))(x:Int)(u:Tok)(c0:¬ (decide (x < -2^63)||decide (x>=2^63))=true)(c1:¬ (items.isEmpty||x==1)=true)(c2:¬ (decide (x<=0)||items.isEmpty)=true)
  (c3:¬ (items.size:Int)*x>(2^63-1)/8) (c4:¬ XR ((items.size:Int)*x)=true) (Pd:(XM (λx1 x2=>x1++x2) #[] (SS x.toNat items)).size<=sizeLine) :
  Meets (Builtin.«tuple.__mul__» ⟨[.ref l,.int x u],[]⟩) (λ_ R s=>s.heap.get? l=some ⟨.type "tuple", dd,.seq items n,sl⟩/\R (.ok (.ret (.ref s.heap.objs.size))) { s with heap:=s.heap.push { cls:=.type "tuple", data:=.seq (XM (λx1 x2=>x1++x2) #[] (SS x.toNat items)) },toks:=s.toks }) :=
 .of_wp λprog w A R s h=>by
  obtain⟨hp,g,d,tk,os⟩:=s;obtain⟨hl,h⟩:=h;have f1:=Yg;have f2:=VV
  wp_walk using U1 hl
  refine YK (decide_eq_false c0) ?_;wp_walk using U1 hl;refine YK (decide_eq_false c3) ?_;wp_walk using U1 hl;exact⟨_,rfl,h⟩
theorem y_(l:Addr)(items:Array Value)(n:Nat)(dd:Option Addr)(sl:Array (Option Value))(x:Int)(u:Tok)(c0:¬ (decide (x < -2^63)||decide (x>=2^63))=true)(c1:¬ (items.isEmpty||x==1)=true)(c2:(decide (x<=0)||items.isEmpty)=true) :
  Meets (Builtin.«tuple.__mul__» ⟨[.ref l,.int x u],[]⟩) (λ_ R s=>s.heap.get? l=some ⟨.type "tuple", dd,.seq items n,sl⟩/\R (.ok (.ret (.ref s.heap.objs.size))) { s with heap:=s.heap.push { cls:=.type "tuple", data:=.seq #[] },toks:=s.toks }) :=
 .of_wp λprog w A R s h=>by
  obtain⟨hp,g,d,tk,os⟩:=s;obtain⟨hl,h⟩:=h;have f1:=Yg;have f2:=VV
  wp_walk using U1 hl
  refine YK (decide_eq_false c0) ?_;wp_walk using U1 hl;exact⟨_,rfl,h⟩
def FZ(K:PySem.W.Frag):R2:=λx y H Q=>∃ a k xs,x=.ref a/\y=.int k/\gi K H a xs/\xs≠[]/\-(2^63)<=k/\k<2^63/\xs.length*k.toNat<=sizeLine/\(k=1->Q (.ref a) H)/\(k≠1->∀ p,H p=none->Q (.ref p) (upd H p (.tup (SS k.toNat xs).flatten)))
theorem DO:hV X (binaryOp .Mult) (FZ X.K):=by
 intro N5 s σ H x y v u Q I rx ry h;obtain⟨a,k,xs,rfl,rfl,hq,QC,h1,h2,hz,q1,q2⟩:=h;cases rx;obtain⟨t,rfl⟩:=ry;obtain⟨N9,r,⟨o,e,hc,n,hd⟩,_⟩:=I.tuple hq;obtain⟨cls,dd,data,sl⟩:=o;dsimp only at hc hd;subst hc hd;have hl:=r.length;refine XY (T := "tuple") (U := "int") (by decide) ⟨_,e,rfl⟩ (λs'=>Ys s' k t) mC F.fills_int_mul F.slot_int_rmul sZ F.slot_int_index.lookup
  (WG F.slot_int_rmul (Ys s k t) F.entry_int_rmul (F.args_int_rmul_2 _ _) (tZ k t a N9.toArray n dd sl) ⟨e,rfl,⟨_,e,rfl⟩,?_⟩)
 by_cases hk1:k=1
 .subst hk1;exact WG F.slot_tuple_mul ⟨_,e,rfl⟩ F.entry_tuple_mul (F.args_tuple_mul_2 _ _) (z7 a N9.toArray n dd sl t) ⟨e,⟨.ref a,H,I,rfl,q1 rfl⟩⟩
 .have Ri:(k==1)=false:=by simpa using hk1
  have QI:N9≠[]:=λz=>QC (r.lW.mp z);have hie:N9.toArray.isEmpty=false:=by cases N9 with | nil=>exact absurd rfl QI | cons _ _=>rfl
  have c0:¬ (decide (k < -2^63)||decide (k>=2^63))=true:=by simp;lia
  have c1:¬ (N9.toArray.isEmpty||k==1)=true:=by rw[hie,Ri];simp
  have fin:∀ ys,ys=(SS k.toNat N9).flatten.toArray->EP X N5 σ Q (.ref s.heap.objs.size) { s with heap:=s.heap.push { cls:=.type "tuple", data:=.seq ys },toks:=s.toks }:=λys ey=>by
   subst ey;refine⟨.ref s.heap.objs.size,_,I.laid (t':=s.toks) (o:=.tup (SS k.toNat xs).flatten) (λb ob q=>SQ _ q) (SX _) ?_,rfl,q2 hk1 _ (I.bB.fresh (SX _))⟩;exact⟨by rw[len_rep,Xw];exact hz,_,r.rep k.toNat,Y9 _ _⟩
  have PF:XM (λx1 x2=>x1++x2) #[] (SS k.toNat N9.toArray)=(SS k.toNat N9).flatten.toArray:=by
   have:=foldl_rep N9 k.toNat [];rw[YH] at this;exact this
  by_cases hk0:k<=0
  .have c2:(decide (k<=0)||N9.toArray.isEmpty)=true:=by rw[decide_eq_true hk0];rfl
   refine WG F.slot_tuple_mul ⟨_,e,rfl⟩ F.entry_tuple_mul (F.args_tuple_mul_2 _ _) (y_ a N9.toArray n dd sl k t c0 c1 c2) ⟨e,fin _ ?_⟩;rw[show k.toNat=0 by lia];rfl
  .have c2:¬ (decide (k<=0)||N9.toArray.isEmpty)=true:=by rw[decide_eq_false hk0,hie];simp
   have em:((N9.toArray.size:Nat):Int)*k=((xs.length*k.toNat:Nat):Int):=by
    rw[Tc,<- hl,Int.natCast_mul,Wz (by lia)]
   have hs:(sizeLine:Int)<=(2^63-1)/8:=by decide
   refine WG F.slot_tuple_mul ⟨_,e,rfl⟩ F.entry_tuple_mul (F.args_tuple_mul_2 _ _) (zP a N9.toArray n dd sl k t c0 c1 c2 ?_ ?_ ?_) ⟨e,fin _ PF⟩
   .rw[em];lia
   .rw[em];unfold XR;simp only[decide_eq_true_eq];lia
   .rw[PF,Tc,len_rep,Xw,<- hl];exact hz
end
structure bq (K:PySem.W.Frag) (x qual:Str) (st:Stmt) (dv:Value) (f:Addr) (fd:FuncData):Prop where
 ex:∃ (oc:Value) (od:Option Addr) (kV doc pm:Value) (an:Option Addr) (Ox ct:Value) (Rf:Array (Option Value)),
  fd=PySem.W.fnOf x qual (ij st) (e_ st) (bg st) dv kV doc pm an Ox ct/\K.lookup f=some ⟨oc,od,.func fd,Rf⟩/\PySem.W.codeIn K Ox qual=true
 kp:PySem.W.keepIn K (.ref f)=true
variable{base:Heap}
variable{ds:List Value}{T:Addr}{qual:Str}
section
variable{K:PySem.W.Frag}
theorem bq.binds{st:Stmt}{o:Obj}(F:bq K x qual st (.ref T) f fd)(ho:K.lookup T=some o)(hs:o.data=.seq items n)
  (h:∀ (kV doc pm:Value) (an:Option Addr) (Ox ct:Value) (us:List Value),(us++ds).length=ps.length->∃ k,bindArgs (PySem.W.fnOf x qual (ij st) (e_ st) (bg st) (.ref T) kV doc pm an Ox ct) ⟨us,[]⟩=seqItems? (.ref T) >>= k/\k (some items)=pure (ps.zip (us++ds))):Binds K fd ps ds:=by
 obtain⟨oc,od,kV,doc,pm,an,Ox,ct,Rf,rfl,lk,Pc⟩:=F.ex;intro s us X hl;obtain⟨k,h1,h2⟩:=h kV doc pm an Ox ct us hl;exact BindsTo.of_defaults rfl (X _ _ ho) hs h1 h2
end
variable{v:V}
theorem JS{pos:Pos}(hg:Gl X x)(hm:∃ u,X.mg x=some u/\RelV v u)(hd:autoParam ((x==("__debug__" : Str))=false) aD._auto_1):PE X (.Name x pos) (tC v):=by
 obtain⟨u,h1,h2⟩:=hm;exact Fp hg h1 h2 hd
theorem Iy:bootBuiltins "max" = some (.builtin "max"):=by decide +kernel
variable{y:Str}
theorem yf{cl:List (Str×Addr)}{pos Qj py:Pos}{wi:TI}{g:TG}{fs:List Str}(hN:X.N.Nodup)(Sk:X.N[i]?=some y)(hy:Loc X.env.scope y)(Of:X.calm=true)
  (OB:closureFor scope X.env=pure cl) (hk:scope.kind=.function) (nc:fv scope.names=true) (lo:gA scope.names=true) (fh:gE cl scope.names=true) (ag:eE X cl) (fr:iC X scope cl fs js)
  (hi:PI X tg iter wi) (hg:∀ C s₀ H₀ ex N5,PG (nZ X scope cl (ts++fs) C s₀ H₀ ex N5) tg g) (he:∀ C s₀ H₀ ex N5,PE (nZ X scope cl (ts++fs) C s₀ H₀ ex N5) elt te)
  (hs:autoParam (∀ x,foldedSetIterable iter X.env x=pure x) aI._auto_1) (RP:autoParam (swapsWith (.ListComp elt [⟨tg,iter,[],0⟩] scope pos) (some (.Name y py)) Qj.line X.env=pure true) aR._auto_1)
  (hf:autoParam (X.fn y=true\/X.env.scope.names.lookup y=some .local) aF._auto_1) :
  PS X (.Assign [.Name y py] (.ListComp elt [⟨tg,iter,[],0⟩] scope pos) Qj) (Hj (wQ wi g te ts js) (aJ i)):=by
 intro N5 s σ H D I h;rw[exec_Assign_Name_used _ _ _ _ RP];refine RM (WC (RM ?_));show wpAny _ X.A (do let _ <- comprehension (.ListComp elt [⟨tg,iter,[],0⟩] scope pos) scope X.env _ (newList []) false (eval iter X.env) (some (assign (.Name y py) X.env))) _ _ s;refine RM (UU (vL (tt:=none) Of OB hk nc lo fh ag fr hi hg (λ_ _ _ _ _=>trivial) he hs I (show C8 wi g none te ts js σ H (λx H1=>D.nx (σ.set i (some x)) H1) from h) (some (assign (.Name y py) X.env)) (λ_ s'=>SP X N5 D .next s') λDd H' s' C Io q hm f=>?_) (λ_ s' hq=>SY (SY hq)) λ_ _ e=>e);show wpAny _ X.A (assign (.Name y py) X.env (.ref Dd)) _ _ s';refine Zv (sj Io hN Sk hy (v:=.ref Dd) rfl (λs'' I'' ⟨a,sb,ha⟩=>?_) hf);obtain⟨m,hn⟩:=hm;obtain⟨f0,f1,f2,f3,f4,f5⟩:=f;have naC:a≠C:=by
  rcases ha with z | z
  .rw[z];exact λw=>f1 w.symm
  .exact f4 y a z
 refine⟨m,hn.sameBut sb (Vb naC),λh' Qt=>?_⟩;exact⟨_,H',I''.other ⟨f0,f1,f2,f3,f4,f5⟩ Qt,q⟩
theorem oK(a b c:Value):checkTypeCall "zip" ⟨[a,b,c],[]⟩=pure ():=by kernel_rfl
theorem rh(a b c:Value):checkBuiltinCall "zip.__new__" ⟨[.type "zip", a,b,c],[]⟩=pure ():=by kernel_rfl
abbrev bI(h:Heap)(T:Addr)(a b c:Value):Prop:=h.get? T=some { cls:=.type "tuple", data:=.seq #[a,b,c] }
structure Z3 (z TI TO i1 i2 i3:Addr):Prop where
 TIz:TI≠z
 TOz:TO≠z
 i1z:i1≠z
 i2z:i2≠z
 JN:i3≠z
 TITO:TI≠TO
 TIi1:TI≠i1
 TIi2:TI≠i2
 Ni:TI≠i3
 TOi1:TO≠i1
 TOi2:TO≠i2
 Fm:TO≠i3
 i12:i1≠i2
 MN:i1≠i3
 MT:i2≠i3
structure L3 (z TO i1 i2 i3 l:Addr):Prop where
 z:l≠z
 o:l≠TO
 i1:l≠i1
 i2:l≠i2
 i3:l≠i3
section
variable{E:Value->Shared->Prop}
theorem dG{a b c x:Value}{Q:Unit->Shared->Prop}(hT:bI s.heap T a b c)
  (h:∀ h',h'.get? T=some { cls:=.type "tuple", data:=.seq ((#[a,b,c]:Array Value).setIfInBounds k x) }->Wq T s.heap h'->Q () { s with heap:=h' }) :
  wpAny (model prog w) A (updateSeq T (·.setIfInBounds k x)) Q E s:=by
 refine wpAny_updateSeq hT rfl (h _ ?_ (Xp ..));rw[UZ _ hT rfl];simp[VX]
variable{b1 b2 b3:Bool}{z TI TO i1 i2 i3 l3:Addr}{k3:Nat}{xs zs:Array Value}{x y v a b c:Value}
theorem zW(D:Z3 z TI TO i1 i2 i3)(D1:L3 z TO i1 i2 i3 l1)(D2:L3 z TO i1 i2 i3 l2)(D3:L3 z TO i1 i2 i3 l3)
  (hz:IsZip s.heap z TI TO .none) (OS:bI s.heap TI (.ref i1) (.ref i2) (.ref i3)) (OU:bI s.heap TO a b c)
  (h1:eM s.heap b1 i1 l1 k1) (h2:eM s.heap b2 i2 l2 k2) (h3:eM s.heap b3 i3 l3 k3) (PD:gg s.heap b1 l1 xs) (Py:gg s.heap b2 l2 ys) (Q0:gg s.heap b3 l3 zs) (hx:xs[k1]?=some x) (hy:ys[k2]?=some y) (hv:zs[k3]?=some v)
  (hQ:∀ h',IsZip h' z TI TO (rawInt s.heap.objs.size)->bI h' TO x y v->eM h' b1 i1 l1 (k1+1)->eM h' b2 i2 l2 (k2+1)->eM h' b3 i3 l3 (k3+1)->bI h' s.heap.objs.size x y v->h'.objs.size=s.heap.objs.size+1 ->
   (∀ c o,c≠z->c≠TO->c≠i1->c≠i2->c≠i3->s.heap.get? c=some o->h'.get? c=some o)->Q (.ref s.heap.objs.size) { s with heap:=h' }) :
  wpAny (model prog w) A (Builtin.«zip.__next__» ⟨[.ref z],[]⟩) (λfin s'=>∃ v,fin=.done (.ret v)/\Q v s') E s:=by
 show wpAny _ _ (field (.ref z) 2 >>= _) _ _ _;refine RM (TN hz rfl (x:=.bool false) rfl ?_);show wpAny _ _ (field (.ref z) 3 >>= _) _ _ _;refine RM (TN hz rfl (x:=.ref TI) rfl ?_);refine RM (Uo OS rfl ?_);show wpAny _ _ (TU (.ref z) >>= _) _ _ _;refine RM ?_;unfold TU;refine RM (TN hz rfl (x:=.none) rfl (SY ?_));simp only[if_true];refine RM (Vd ?_);refine RM (TN hz rfl (x:=.ref TO) rfl ?_);refine RM (Uj hz (by simp) λh₁ hz1 hs₁=>?_)
 replace hz1:IsZip h₁ z TI TO .ellipsis:=hz1
 refine RM ?_;simp only[VB,Xk,Xl,XO];refine RM (RM (Vl ?_));show wpAny _ _ (Tq (.ref i1) >>= _) _ _ _;refine RM (cR (h1.at λo e=>hs₁.extBut _ _ D.i1z e) (PD.at λo e=>hs₁.extBut _ _ D1.z e) hx λh₂ h1₂ hs2=>SY ?_);have hTO2:bI h₂ TO a b c:=hs2.extBut _ _ D.TOi1 (hs₁.extBut _ _ D.TOz OU);refine RM (Uo hTO2 rfl ?_);refine RM (dG hTO2 λh₃ hTO3 hs3=>?_)
 replace hTO3:bI h₃ TO x b c:=hTO3
 refine RM (Wi (SY ?_));have Rm:∀ q o,q≠z->q≠TO->q≠i1->s.heap.get? q=some o->h₃.get? q=some o:=λq o c1 c2 c3 e=>hs3.extBut _ _ c2 (hs2.extBut _ _ c3 (hs₁.extBut _ _ c1 e));refine RM (RM (Vl ?_));show wpAny _ _ (Tq (.ref i2) >>= _) _ _ _;refine RM (cR (h2.at λo e=>Rm _ o D.i2z D.TOi2.symm D.i12.symm e) (Py.at λo e=>Rm _ o D2.z D2.o D2.i1 e) hy λh₄ h2₄ hs4=>SY ?_);have hTO4:bI h₄ TO x b c:=hs4.extBut _ _ D.TOi2 hTO3;refine RM (Uo hTO4 rfl ?_);refine RM (dG hTO4 λh₅ hTO5 hs5=>?_)
 replace hTO5:bI h₅ TO x y c:=hTO5
 refine RM (Wi (SY ?_));have k5:∀ q o,q≠z->q≠TO->q≠i1->q≠i2->s.heap.get? q=some o->h₅.get? q=some o:=λq o c1 c2 c3 c4 e=>hs5.extBut _ _ c2 (hs4.extBut _ _ c4 (Rm q o c1 c2 c3 e));refine RM (RM (Vl ?_));show wpAny _ _ (Tq (.ref i3) >>= _) _ _ _;refine RM (cR (h3.at λo e=>k5 _ o D.JN D.Fm.symm D.MN.symm D.MT.symm e) (Q0.at λo e=>k5 _ o D3.z D3.o D3.i1 D3.i2 e) hv λh₆ h3₆ hs6=>SY ?_);have hTO6:bI h₆ TO x y c:=hs6.extBut _ _ D.Fm hTO5;refine RM (Uo hTO6 rfl ?_);refine RM (dG hTO6 λh₇ hTO7 hs7=>?_)
 replace hTO7:bI h₇ TO x y v:=hTO7
 refine RM (Wi (SY (SY ?_)));refine RM (Uo hTO7 rfl ?_);refine RM (YX ?_);have Pd:h₇.objs.size=s.heap.objs.size:=by rw[hs7.1,hs6.1,hs5.1,hs4.1,hs3.1,hs2.1,hs₁.1]
 have hz3:IsZip h₃ z TI TO .ellipsis:=hs3.extBut _ _ D.TOz.symm (hs2.extBut _ _ D.i1z.symm hz1);have hz5:IsZip h₅ z TI TO .ellipsis:=hs5.extBut _ _ D.TOz.symm (hs4.extBut _ _ D.i2z.symm hz3);have hz7:IsZip h₇ z TI TO .ellipsis:=hs7.extBut _ _ D.TOz.symm (hs6.extBut _ _ D.JN.symm hz5);have k7:∀ q o,q≠z->q≠TO->q≠i1->q≠i2->q≠i3->s.heap.get? q=some o->h₇.get? q=some o:=λq o c1 c2 c3 c4 c5 e=>hs7.extBut _ _ c2 (hs6.extBut _ _ c5 (k5 q o c1 c2 c3 c4 e));have h1₇:eM h₇ b1 i1 l1 (k1+1):=h1₂.at λo e=>hs7.extBut _ _ D.TOi1.symm (hs6.extBut _ _ D.MN (hs5.extBut _ _ D.TOi1.symm (hs4.extBut _ _ D.i12 (hs3.extBut _ _ D.TOi1.symm e))));have h2₇:eM h₇ b2 i2 l2 (k2+1):=h2₄.at λo e=>hs7.extBut _ _ D.TOi2.symm (hs6.extBut _ _ D.MT (hs5.extBut _ _ D.TOi2.symm e));have h3₇:eM h₇ b3 i3 l3 (k3+1):=h3₆.at λo e=>hs7.extBut _ _ D.Fm.symm e;have Q6:z<h₇.objs.size:=S7 hz7;show wpAny _ _ (UW (.ref z) (.ref h₇.objs.size) >>= _) _ _ _;refine RM ?_;unfold UW;have hz₈:IsZip (h₇.push { cls:=.type "tuple", data:=.seq #[x,y,v] }) z TI TO .ellipsis:=SQ _ hz7;refine RM (Uj hz₈ (by simp) λh₉ hz9 hs9=>?_)
 replace hz9:IsZip h₉ z TI TO (rawInt h₇.objs.size):=hz9
 refine Uj hz9 (by simp) λhA hzA hsA=>?_
 replace hzA:IsZip hA z TI TO (rawInt h₇.objs.size):=hzA
 have up:∀ c o,c≠z->h₇.get? c=some o->hA.get? c=some o:=λc o c1 e=>hsA.extBut _ _ c1 (hs9.extBut _ _ c1 (SQ _ e));have hTA:bI hA h₇.objs.size x y v:=hsA.extBut _ _ (Vk Q6) (hs9.extBut _ _ (Vk Q6) (S2 _ rfl));have SE:hA.objs.size=h₇.objs.size+1:=by rw[hsA.1,hs9.1,Ua]
 rw[Pd] at hzA hTA SE;refine SY ⟨_,rfl,?_⟩;show Q (.ref h₇.objs.size) _;rw[Pd];exact hQ hA hzA (up _ _ D.TOz hTO7) (h1₇.at λo e=>up _ o D.i1z e) (h2₇.at λo e=>up _ o D.i2z e) (h3₇.at λo e=>up _ o D.JN e) hTA SE λc o c1 c2 c3 c4 c5 e=>up c o c1 (k7 c o c1 c2 c3 c4 c5 e)
theorem Cp{Q:Fin->Shared->Prop}(hh:A.handled=none)(D:Z3 z TI TO i1 i2 i3)(D1:L3 z TO i1 i2 i3 l1)(D2:L3 z TO i1 i2 i3 l2)(D3:L3 z TO i1 i2 i3 l3)
  (hz:IsZip s.heap z TI TO .none) (OS:bI s.heap TI (.ref i1) (.ref i2) (.ref i3)) (OU:bI s.heap TO a b c)
  (h1:eM s.heap b1 i1 l1 k1) (h2:eM s.heap b2 i2 l2 k2) (h3:eM s.heap b3 i3 l3 k3) (PD:gg s.heap b1 l1 xs) (Py:gg s.heap b2 l2 ys) (Q0:gg s.heap b3 l3 zs) (Pw:xs[k1]?=none\/ys[k2]?=none\/zs[k3]?=none)
  (hE:∀ h' e,(∀ c o,c≠z->c≠TO->c≠i1->c≠i2->c≠i3->s.heap.get? c=some o->h'.get? c=some o)->(∃ o,h'.get? e=some o/\o.cls=.type "StopIteration")->E (.ref e) { s with heap:=h' }) :
  wpAny (model prog w) A (Builtin.«zip.__next__» ⟨[.ref z],[]⟩) Q E s:=by
 show wpAny _ _ (field (.ref z) 2 >>= _) _ _ _;refine RM (TN hz rfl (x:=.bool false) rfl ?_);show wpAny _ _ (field (.ref z) 3 >>= _) _ _ _;refine RM (TN hz rfl (x:=.ref TI) rfl ?_);refine RM (Uo OS rfl ?_);show wpAny _ _ (TU (.ref z) >>= _) _ _ _;refine RM ?_;unfold TU;refine RM (TN hz rfl (x:=.none) rfl (SY ?_));simp only[if_true];refine RM (Vd ?_);refine RM (TN hz rfl (x:=.ref TO) rfl ?_);refine RM (Uj hz (by simp) λh₁ hz1 hs₁=>?_)
 replace hz1:IsZip h₁ z TI TO .ellipsis:=hz1
 refine RM ?_;simp only[VB,Xk,Xl,XO];refine RM (RM (Vl ?_));show wpAny _ _ (Tq (.ref i1) >>= _) _ _ _;cases hx:xs[k1]? with
 | none =>
  refine RM (gX hh (h1.at λo e=>hs₁.extBut _ _ D.i1z e) (PD.at λo e=>hs₁.extBut _ _ D1.z e) hx λh₂ e hs2 he=>?_);obtain⟨oe,PZ,Qy⟩:=he;have hz2:IsZip h₂ z TI TO .ellipsis:=hs2 _ _ D.i1z.symm hz1;have Rr:e≠z:=λx=>by subst x;rw[hz2] at PZ;cases PZ;simp at Qy
  refine Uj hz2 (by simp) λh₃ _ hs3=>hE h₃ e (λc o c1 _ c3 _ _ x=>hs3.extBut _ _ c1 (hs2 _ _ c3 (hs₁.extBut _ _ c1 x))) ⟨oe,hs3.extBut _ _ Rr PZ,Qy⟩
 | some x =>
  refine RM (cR (h1.at λo e=>hs₁.extBut _ _ D.i1z e) (PD.at λo e=>hs₁.extBut _ _ D1.z e) hx λh₂ h1₂ hs2=>SY ?_);have hTO2:bI h₂ TO a b c:=hs2.extBut _ _ D.TOi1 (hs₁.extBut _ _ D.TOz OU);refine RM (Uo hTO2 rfl ?_);refine RM (dG hTO2 λh₃ hTO3 hs3=>?_)
  replace hTO3:bI h₃ TO x b c:=hTO3
  refine RM (Wi (SY ?_));have Rm:∀ q o,q≠z->q≠TO->q≠i1->s.heap.get? q=some o->h₃.get? q=some o:=λq o c1 c2 c3 e=>hs3.extBut _ _ c2 (hs2.extBut _ _ c3 (hs₁.extBut _ _ c1 e));have hz3:IsZip h₃ z TI TO .ellipsis:=hs3.extBut _ _ D.TOz.symm (hs2.extBut _ _ D.i1z.symm hz1);refine RM (RM (Vl ?_));show wpAny _ _ (Tq (.ref i2) >>= _) _ _ _;cases hy:ys[k2]? with
  | none =>
   refine RM (gX hh (h2.at λo e=>Rm _ o D.i2z D.TOi2.symm D.i12.symm e) (Py.at λo e=>Rm _ o D2.z D2.o D2.i1 e) hy λh₄ e hs4 he=>?_);obtain⟨oe,PZ,Qy⟩:=he;have hz₄:IsZip h₄ z TI TO .ellipsis:=hs4 _ _ D.i2z.symm hz3;have Rr:e≠z:=λx=>by subst x;rw[hz₄] at PZ;cases PZ;simp at Qy
   refine Uj hz₄ (by simp) λh₅ _ hs5=>hE h₅ e (λc o c1 c2 c3 c4 _ x=>hs5.extBut _ _ c1 (hs4 _ _ c4 (Rm c o c1 c2 c3 x))) ⟨oe,hs5.extBut _ _ Rr PZ,Qy⟩
  | some y =>
   have hv:zs[k3]?=none:=by
    rcases Pw with h | h | h
    .rw[hx] at h;cases h
    .rw[hy] at h;cases h
    .exact h
   refine RM (cR (h2.at λo e=>Rm _ o D.i2z D.TOi2.symm D.i12.symm e) (Py.at λo e=>Rm _ o D2.z D2.o D2.i1 e) hy λh₄ h2₄ hs4=>SY ?_);have hTO4:bI h₄ TO x b c:=hs4.extBut _ _ D.TOi2 hTO3;refine RM (Uo hTO4 rfl ?_);refine RM (dG hTO4 λh₅ hTO5 hs5=>?_);refine RM (Wi (SY ?_));have k5:∀ q o,q≠z->q≠TO->q≠i1->q≠i2->s.heap.get? q=some o->h₅.get? q=some o:=λq o c1 c2 c3 c4 e=>hs5.extBut _ _ c2 (hs4.extBut _ _ c4 (Rm q o c1 c2 c3 e));have hz5:IsZip h₅ z TI TO .ellipsis:=hs5.extBut _ _ D.TOz.symm (hs4.extBut _ _ D.i2z.symm hz3);refine RM (RM (Vl ?_));show wpAny _ _ (Tq (.ref i3) >>= _) _ _ _;refine RM (gX hh (h3.at λo e=>k5 _ o D.JN D.Fm.symm D.MN.symm D.MT.symm e) (Q0.at λo e=>k5 _ o D3.z D3.o D3.i1 D3.i2 e) hv λh₆ e hs6 he=>?_);obtain⟨oe,PZ,Qy⟩:=he;have hz6:IsZip h₆ z TI TO .ellipsis:=hs6 _ _ D.JN.symm hz5;have Rr:e≠z:=λx=>by subst x;rw[hz6] at PZ;cases PZ;simp at Qy
   refine Uj hz6 (by simp) λh₇ _ hs7=>hE h₇ e (λc o c1 c2 c3 c4 c5 x=>hs7.extBut _ _ c1 (hs6 _ _ c5 (k5 c o c1 c2 c3 c4 x))) ⟨oe,hs7.extBut _ _ Rr PZ,Qy⟩
end
section
variable{E:Value->Shared->Prop}
variable{b1 b2 b3:Bool}{z TI TO i1 i2 i3 l3:Addr}{k3:Nat}{xs zs:Array Value}{x y v a b c:Value}
theorem mE{Q:Option Value->Shared->Prop}(D:Z3 z TI TO i1 i2 i3)(D1:L3 z TO i1 i2 i3 l1)(D2:L3 z TO i1 i2 i3 l2)(D3:L3 z TO i1 i2 i3 l3)
  (hz:IsZip s.heap z TI TO .none) (OS:bI s.heap TI (.ref i1) (.ref i2) (.ref i3)) (OU:bI s.heap TO a b c)
  (h1:eM s.heap b1 i1 l1 k1) (h2:eM s.heap b2 i2 l2 k2) (h3:eM s.heap b3 i3 l3 k3) (PD:gg s.heap b1 l1 xs) (Py:gg s.heap b2 l2 ys) (Q0:gg s.heap b3 l3 zs) (hx:xs[k1]?=some x) (hy:ys[k2]?=some y) (hv:zs[k3]?=some v)
  (hQ:∀ h',IsZip h' z TI TO (rawInt s.heap.objs.size)->bI h' TO x y v->eM h' b1 i1 l1 (k1+1)->eM h' b2 i2 l2 (k2+1)->eM h' b3 i3 l3 (k3+1)->bI h' s.heap.objs.size x y v->h'.objs.size=s.heap.objs.size+1 ->
   (∀ c o,c≠z->c≠TO->c≠i1->c≠i2->c≠i3->s.heap.get? c=some o->h'.get? c=some o)->Q (some (.ref s.heap.objs.size)) { s with heap:=h' }) :
  wpAny (model prog w) A (pyNext (.ref z)) Q E s:=by
 have hT:s.TypeIs (.ref z) "zip" := ⟨_,hz,rfl⟩
 unfold pyNext;exact RM (VZ (Ur (name:=T9 "__next__") hT F.slot_zip_next
  (UQ F.slot_zip_next hT F.entry_zip_next
   (zW D D1 D2 D3 hz OS OU h1 h2 h3 PD Py Q0 hx hy hv λh' a1 a2 a3 a4 a5 a6 a7 a8=>SY (hQ h' a1 a2 a3 a4 a5 a6 a7 a8)) (F.args_zip_next_1 _))))
theorem nO{Q:Option Value->Shared->Prop}(hh:A.handled=none)(D:Z3 z TI TO i1 i2 i3)(D1:L3 z TO i1 i2 i3 l1)(D2:L3 z TO i1 i2 i3 l2)(D3:L3 z TO i1 i2 i3 l3)
  (hz:IsZip s.heap z TI TO .none) (OS:bI s.heap TI (.ref i1) (.ref i2) (.ref i3)) (OU:bI s.heap TO a b c)
  (h1:eM s.heap b1 i1 l1 k1) (h2:eM s.heap b2 i2 l2 k2) (h3:eM s.heap b3 i3 l3 k3) (PD:gg s.heap b1 l1 xs) (Py:gg s.heap b2 l2 ys) (Q0:gg s.heap b3 l3 zs) (Pw:xs[k1]?=none\/ys[k2]?=none\/zs[k3]?=none)
  (hQ:∀ h',(∀ c o,c≠z->c≠TO->c≠i1->c≠i2->c≠i3->s.heap.get? c=some o->h'.get? c=some o)->Q none { s with heap:=h' }):wpAny (model prog w) A (pyNext (.ref z)) Q E s:=by
 have hT:s.TypeIs (.ref z) "zip" := ⟨_,hz,rfl⟩
 unfold pyNext;refine RM (VZ (Ur (name:=T9 "__next__") hT F.slot_zip_next
  (UQ F.slot_zip_next hT F.entry_zip_next (Cp hh D D1 D2 D3 hz OS OU h1 h2 h3 PD Py Q0 Pw λh' e hk he=>?_) (F.args_zip_next_1 _))))
 obtain⟨o,ho,hc⟩:=he;refine RM (Ye (T := "StopIteration") (b:=true) ⟨o,ho,hc⟩ YY ?_);exact SY (hQ _ hk)
end
abbrev LY(h:Heap)(b1 b2 b3:Bool)(l1 l2 l3:Addr):Heap:=(F_ h b1 b2 l1 l2).push (EL b3 l3)
abbrev LC(h:Heap)(b1 b2 b3:Bool)(l1 l2 l3:Addr):Heap:=(LY h b1 b2 b3 l1 l2 l3).push { cls:=.type "tuple", data:=.seq #[.ref h.objs.size,.ref (HV h b1 l1).objs.size,.ref (F_ h b1 b2 l1 l2).objs.size] }
abbrev LK(h:Heap)(b1 b2 b3:Bool)(l1 l2 l3:Addr):Heap:=(LC h b1 b2 b3 l1 l2 l3).push { cls:=.type "tuple", data:=.seq #[.none,.none,.none] }
abbrev I0(h:Heap)(b1 b2 b3:Bool)(l1 l2 l3:Addr):Heap:=(LK h b1 b2 b3 l1 l2 l3).push { cls:=.type "zip", data:=.fields #[.none,.bool false,.bool false,.ref (LY h b1 b2 b3 l1 l2 l3).objs.size,.ref (LC h b1 b2 b3 l1 l2 l3).objs.size] }
theorem oH(b1 b2 b3:Bool)(l1 l2 l3:Addr)(xs ys zs:Array Value) :
  Meets (Builtin.«zip.__new__» ⟨[.type "zip", .ref l1,.ref l2,.ref l3],[]⟩) (λ_ R s=>gg s.heap b1 l1 xs/\gg s.heap b2 l2 ys/\gg s.heap b3 l3 zs ∧
   R (.ok (.ret (.ref (LK s.heap b1 b2 b3 l1 l2 l3).objs.size))) { s with heap:=I0 s.heap b1 b2 b3 l1 l2 l3 }) :=
 .of_wp λprog w A R s h=>by
  obtain⟨hp,g,d,tk,os⟩:=s;obtain⟨PD,Py,Q0,h⟩:=h;have Sx:=sub_zip;have hL1:gg (Xe ⟨hp,g,d,tk,os⟩) b1 l1 xs:=PD;have hL2:gg (Xe ⟨hp.push (EL b1 l1),g,d,tk,os⟩) b2 l2 ys:=gg.push Py _;have hL3:gg (Xe ⟨(hp.push (EL b1 l1)).push (EL b2 l2),g,d,tk,os⟩) b3 l3 zs:=gg.push (gg.push Q0 _) _
  wp_walk using fZ hL1,fZ hL2,fZ hL3
  exact⟨_,rfl,h⟩
section
variable{E:Value->Shared->Prop}
theorem yW{b1 b2 b3:Bool}{l3:Addr}{xs zs:Array Value}(PD:gg s.heap b1 l1 xs)(Py:gg s.heap b2 l2 ys)(Q0:gg s.heap b3 l3 zs)
  (h:∀ h',IsZip h' (s.heap.objs.size+5) (s.heap.objs.size+3) (s.heap.objs.size+4) .none->bI h' (s.heap.objs.size+3) (.ref s.heap.objs.size) (.ref (s.heap.objs.size+1)) (.ref (s.heap.objs.size+2)) ->
   bI h' (s.heap.objs.size+4) .none .none .none->eM h' b1 s.heap.objs.size l1 0->eM h' b2 (s.heap.objs.size+1) l2 0->eM h' b3 (s.heap.objs.size+2) l3 0 ->
   (∀ c o,s.heap.get? c=some o->h'.get? c=some o)->Q (.ref (s.heap.objs.size+5)) { s with heap:=h' }) :
  wpAny (model prog w) A (call (.type "zip") [.ref l1,.ref l2,.ref l3]) Q E s:=by
 refine ZH F.called_zip (by decide) (oK _ _ _) (rh _ _ _) (λobj=>F.initArgs_range_3 obj _ _ _) F.entry_zip_new
  (oH b1 b2 b3 l1 l2 l3 xs ys zs) ⟨PD,Py,Q0,?_⟩
 have z1:(HV s.heap b1 l1).objs.size=s.heap.objs.size+1:=Ua ..;have z2:(F_ s.heap b1 b2 l1 l2).objs.size=s.heap.objs.size+2:=by rw[Ua,z1]
 have z3:(LY s.heap b1 b2 b3 l1 l2 l3).objs.size=s.heap.objs.size+3:=by rw[Ua,z2]
 have z4:(LC s.heap b1 b2 b3 l1 l2 l3).objs.size=s.heap.objs.size+4:=by rw[Ua,z3]
 have z5:(LK s.heap b1 b2 b3 l1 l2 l3).objs.size=s.heap.objs.size+5:=by rw[Ua,z4]
 have g6:(I0 s.heap b1 b2 b3 l1 l2 l3).get? (LK s.heap b1 b2 b3 l1 l2 l3).objs.size=some _:=S2 _ rfl;have g5:(I0 s.heap b1 b2 b3 l1 l2 l3).get? (LC s.heap b1 b2 b3 l1 l2 l3).objs.size=some _:=SQ _ (S2 _ rfl);have g4:(I0 s.heap b1 b2 b3 l1 l2 l3).get? (LY s.heap b1 b2 b3 l1 l2 l3).objs.size=some _:=SQ _ (SQ _ (S2 _ rfl));have g3:(I0 s.heap b1 b2 b3 l1 l2 l3).get? (F_ s.heap b1 b2 l1 l2).objs.size=some _:=SQ _ (SQ _ (SQ _ (S2 _ rfl)));have g2:(I0 s.heap b1 b2 b3 l1 l2 l3).get? (HV s.heap b1 l1).objs.size=some _:=SQ _ (SQ _ (SQ _ (SQ _ (S2 _ rfl))));have g1:(I0 s.heap b1 b2 b3 l1 l2 l3).get? s.heap.objs.size=some _:=SQ _ (SQ _ (SQ _ (SQ _ (SQ _ (S2 _ rfl)))));show _/\_;rw[z3,z4,z5] at g6;rw[z1,z2,z3] at g4;rw[z4] at g5;rw[z2] at g3;rw[z1] at g2;rw[z5];exact⟨⟨_,g6,rfl⟩,h _ g6 g4 g5 (eM.new _ b1 _ _ g1) (eM.new _ b2 _ _ g2) (eM.new _ b3 _ _ g3) λc o x =>
  SQ _ (SQ _ (SQ _ (SQ _ (SQ _ (SQ _ x)))))⟩
end
def MP (K : PySem.W.Frag) (b1 b2 b3 : Bool) (a1 a2 a3 : Addr) : It :=
  ⟨λi H => ∃ xs ys zs x y v, kF K H b1 a1 xs /\ kF K H b2 a2 ys /\ kF K H b3 a3 zs /\ xs[i]? = some x /\ ys[i]? = some y /\ zs[i]? = some v,
   λi H r H' => ∃ p x y v, H p = none /\ r = .ref p /\ H' = upd H p (.tup [x, y, v]) /\ (∀ xs, kF K H b1 a1 xs -> xs[i]? = some x) /\ (∀ ys, kF K H b2 a2 ys -> ys[i]? = some y) /\ (∀ zs, kF K H b3 a3 zs -> zs[i]? = some v),
   λi H => ∃ xs ys zs, kF K H b1 a1 xs /\ kF K H b2 a2 ys /\ kF K H b3 a3 zs /\ (xs.length <= i \/ ys.length <= i \/ zs.length <= i)⟩
theorem rB{z TI TO i1 i2 i3 a:Addr}{xs:List V}(I:Inv X N5 σ H s)(h:kF X.K H b a xs)(hf:∀ b∈[z,TO,i1,i2,i3,TI],lV X N5 H b):L3 z TO i1 i2 i3 a :=
 ⟨cB I h (hf z (by simp)),cB I h (hf TO (by simp)),cB I h (hf i1 (by simp)),cB I h (hf i2 (by simp)),cB I h (hf i3 (by simp))⟩
theorem zm{K:PySem.W.Frag}{tp:Pos}(b1 b2 b3:Bool)(a1 a2 a3 z TI TO i1 i2 i3:Addr)(D:Z3 z TI TO i1 i2 i3) :
  Turn P w K (.Tuple elts x1 tp) (MP K b1 b2 b3 a1 a2 a3) [z,TO,i1,i2,i3,TI] z (λi h=>IsZip h z TI TO .none/\bI h TI (.ref i1) (.ref i2) (.ref i3)/\(∃ a b c,bI h TO a b c)/\eM h b1 i1 a1 i/\eM h b2 i2 a2 i/\eM h b3 i3 a3 i) where
 mem:=by simp
 obj:=λi h st b hb=>by
  obtain⟨hz,OS,⟨a,c,d,OU⟩,h1,h2,h3⟩:=st;simp only[Tt,UC,or_false] at hb;rcases hb with q | q | q | q | q | q <;> subst q
  .exact⟨_,hz,λv z=>by cases z⟩
  .exact⟨_,OU,λv z=>by cases z⟩
  .obtain⟨o,vs,e,d⟩:=h1.obj;exact⟨o,e,λv z=>by rw[d] at z;cases z⟩
  .obtain⟨o,vs,e,d⟩:=h2.obj;exact⟨o,e,λv z=>by rw[d] at z;cases z⟩
  .obtain⟨o,vs,e,d⟩:=h3.obj;exact⟨o,e,λv z=>by rw[d] at z;cases z⟩
  .exact⟨_,OS,λv z=>by cases z⟩
 keep:=λi h h' st k=>by
  obtain⟨hz,OS,⟨a,c,d,OU⟩,h1,h2,h3⟩:=st;exact⟨k z (by simp) _ hz,k TI (by simp) _ OS,⟨a,c,d,k TO (by simp) _ OU⟩,h1.at λo e=>k i1 (by simp) o e,h2.at λo e=>k i2 (by simp) o e,h3.at λo e=>k i3 (by simp) o e⟩
 item:=by
  intro X hP hw hK hc i N5 s σ H E I hf st hg;subst hP hw hK;obtain⟨xs,ys,zs,x,y,v,OT,OO,Qs,hx,hy,hv⟩:=hg;obtain⟨Q7,Rv,p1,SA⟩:=I.row OT;obtain⟨OV,Rw,p2,Rl⟩:=I.row OO;obtain⟨SJ,rv3,p3,hz3'⟩:=I.row Qs;obtain⟨u1,hu1,ru1⟩:=Rv.get hx;obtain⟨u2,hu2,ru2⟩:=Rw.get hy;obtain⟨u3,hu3,ru3⟩:=rv3.get hv;obtain⟨hz,OS,⟨a,c,d,OU⟩,h1,h2,h3⟩:=st;obtain⟨oi1,vs1,R5,di1⟩:=h1.obj;obtain⟨oi2,vs2,R6,di2⟩:=h2.obj;obtain⟨oi3,vs3,ei3,di3⟩:=h3.obj;refine mE D (rB I OT hf) (rB I OO hf) (rB I Qs hf) hz OS OU h1 h2 h3 p1 p2 p3 (x:=u1) (y:=u2) (v:=u3) (by simpa using hu1) (by simpa using hu2) (by simpa using hu3) λh' g1 g2 g3 g4 g4' g5 g6 g7=>⟨_,rfl,?_⟩
  refine XZ (s:={ s with heap:=h' }) g1 λhN SD QD=>?_;have PF:H s.heap.objs.size=none:=I.bB.fresh (SX _);have lt:∀ {c:Addr} {o:Obj},s.heap.get? c=some o->c≠s.heap.objs.size:=λe=>Tu (S7 e);have Q9:∀ b o,b ∉ [z,TO,i1,i2,i3,TI]->s.heap.get? b=some o->hN.get? b=some o:=λb o hb q=>by
   simp only[Tt,UC,or_false,not_or] at hb;exact(QD.2 b hb.1).trans (g7 b o hb.1 hb.2.1 hb.2.2.1 hb.2.2.2.1 hb.2.2.2.2.1 q)
  have hT3:hN.get? s.heap.objs.size=some { cls:=.type "tuple", data:=.seq #[u1,u2,u3] }:=(QD.2 _ (lt hz).symm).trans g5;have I3:Inv X N5 σ (upd H s.heap.objs.size (.tup [x,y,v])) { s with heap:=hN,toks:=s.toks } :=
   I.kh (ch:=[z,TO,i1,i2,i3,TI]) Q9 hf (SX _) (λb hb=>by
    simp only[Tt,UC,or_false] at hb;rcases hb with q | q | q | q | q | q <;> subst q
    .exact⟨_,hz⟩
    .exact⟨_,OU⟩
    .exact⟨_,R5⟩
    .exact⟨_,R6⟩
    .exact⟨_,ei3⟩
    .exact⟨_,OS⟩)
    ⟨by show 3<=sizeLine;decide,[u1,u2,u3],.cons ru1 (.cons ru2 (.cons ru3 .nil)),⟨_,hT3,rfl,_,rfl⟩⟩
  refine⟨.ref s.heap.objs.size,_,I3,rfl,⟨_,x,y,v,PF,rfl,rfl,λzs' Ru=>by rw[I.lr Ru OT];exact hx,λzs' Ru=>by rw[I.lr Ru OO];exact hy,λzs' Ru=>by rw[I.lr Ru Qs];exact hv⟩,
   ⟨SD,(QD.2 TI D.TIz).trans (g7 TI _ D.TIz D.TITO D.TIi1 D.TIi2 D.Ni OS),⟨_,_,_,(QD.2 TO D.TOz).trans g2⟩,g3.at λo e=>(QD.2 i1 D.i1z).trans e,g4.at λo e=>(QD.2 i2 D.i2z).trans e,g4'.at λo e=>(QD.2 i3 D.JN).trans e⟩,λb hb=>?_⟩
  have nb:b≠s.heap.objs.size:=by
   simp only[Tt,UC,or_false] at hb;rcases hb with q | q | q | q | q | q <;> subst q
   .exact lt hz
   .exact lt OU
   .exact lt R5
   .exact lt R6
   .exact lt ei3
   .exact lt OS
  rw[au nb];exact(hf b hb).1
 done:=by
  intro X hP hw hK hc i N5 s σ H E I hf st hg;subst hP hw hK;obtain⟨xs,ys,zs,OT,OO,Qs,Pw⟩:=hg;obtain⟨Q7,Rv,p1,SA⟩:=I.row OT;obtain⟨OV,Rw,p2,Rl⟩:=I.row OO;obtain⟨SJ,rv3,p3,hz3'⟩:=I.row Qs;obtain⟨hz,OS,⟨a,c,d,OU⟩,h1,h2,h3⟩:=st;have l1:=Rv.length;have l2:=Rw.length;have l3:=rv3.length;refine nO (I.ok.hd hc) D (rB I OT hf) (rB I OO hf) (rB I Qs hf) hz OS OU h1 h2 h3 p1 p2 p3 ?_ λh' k=>⟨rfl,?_⟩
  .rcases Pw with q | q | q
   .exact .inl (by simp;lia)
   .exact .inr (.inl (by simp;lia))
   .exact .inr (.inr (by simp;lia))
  .exact I.yk (t':=s.toks) (ch:=[z,TO,i1,i2,i3,TI]) (λb u hb e=>by
    simp only[Tt,UC,or_false,not_or] at hb;exact k b u hb.1 hb.2.1 hb.2.2.1 hb.2.2.2.1 hb.2.2.2.2.1 e) hf
 self:=λ_ _ _ _ _ st h=>by
  obtain⟨hz,_⟩:=st;exact W6 hz h
theorem D5(n:Nat):Z3 (n+5) (n+3) (n+4) n (n+1) (n+2):=by
 refine⟨?_,?_,?_,?_,?_,?_,?_,?_,?_,?_,?_,?_,?_,?_,?_⟩ <;> (show @Ne Nat _ _;lia)
def F1(K:PySem.W.Frag)(tl:TA):TI:=fun σ H R=>tl σ H λvs H1=>∃ b1 b2 b3 a1 a2 a3,vs=[.ref a1,.ref a2,.ref a3]/\(∃ xs,kF K H1 b1 a1 xs)/\(∃ ys,kF K H1 b2 a2 ys)/\(∃ zs,kF K H1 b3 a3 zs)/\R (MP K b1 b2 b3 a1 a2 a3) H1
theorem sU{tp:Pos}{l1 l2 l3:Expr}{p pos:Pos}(hg:Gl X "zip")(hm:X.mg "zip" = none)(hl:PA X [l1,l2,l3] tl)(hs:autoParam (starEach [l1,l2,l3] X.env=[(false,eval l1 X.env),(false,eval l2 X.env),(false,eval l3 X.env)]) aR._auto_1)(PH:autoParam (starEach [l2,l3] X.env=[(false,eval l2 X.env),(false,eval l3 X.env)]) aR._auto_1) :
  PI X (.Tuple elts x1 tp) (.Call (.Name "zip" p) [l1,l2,l3] [] pos) (F1 X.K tl):=by
 intro N5 s σ H R I h;refine Call_ (i8 I hg hm YL (Ux (cX (hl pos N5 s σ H _ I h) λus s1 ⟨vs,H1,I1,r1,q1⟩=>?_) (by rw[hs,PH]) (by rw[PH];rfl)));obtain⟨b1,b2,b3,a1,a2,a3,e,⟨xs,OT⟩,⟨ys,OO⟩,⟨zs,Qs⟩,q⟩:=q1;subst e;cases r1 with
 | cons r rr =>
  cases rr with
  | cons r' rr =>
   cases rr with
   | cons SN rr =>
    cases rr;cases (show _=Td a1 from r);cases (show _=Td a2 from r');cases (show _=Td a3 from SN);obtain⟨Q7,Rv,p1,SA⟩:=I1.row OT;obtain⟨OV,Rw,p2,Rl⟩:=I1.row OO;obtain⟨SJ,rv3,p3,SD⟩:=I1.row Qs;refine yW p1 p2 p3 λh' g1 g2 g3 g4 g5 g6 g7=>?_;have I2:Inv X N5 σ H1 { s1 with heap:=h' }:=I1.kept (t':=s1.toks) g7;refine W6 (s:={ s1 with heap:=h' }) g1 ?_;refine⟨s1.heap.objs.size+5,[s1.heap.objs.size+5,s1.heap.objs.size+4,s1.heap.objs.size,s1.heap.objs.size+1,s1.heap.objs.size+2,s1.heap.objs.size+3],_,_,H1,rfl,I2,
     zm b1 b2 b3 a1 a2 a3 _ _ _ _ _ _ (D5 s1.heap.objs.size),⟨g1,g2,⟨_,_,_,g3⟩,g4,g5,g6⟩,λb hb=>?_,q⟩
    have hle:s1.heap.objs.size<=b:=by
     simp only[Tt,UC,or_false] at hb;rcases hb with q | q | q | q | q | q
     .rw[q];exact US _ 5
     .rw[q];exact US _ 4
     .rw[q];exact SX _
     .rw[q];exact US _ 1
     .rw[q];exact US _ 2
     .rw[q];exact US _ 3
    exact I1.t5 hle (I1.bB.fresh hle)
variable{oe:Obj}{outer:List Env}
variable{to:Option Addr}
section
variable{M:Model}{E:Value->Shared->Prop}
theorem sG{env:Env}{L e:Addr}{vs:Array Value}{head:Value}{Rp:Bool}{Q:Unit->Shared->Prop}
  (QY:A.frames=some (env::outer)) (hl:s.heap.FunFrames base (env::outer)) (hf:env.frame=some L)
  (he:s.heap.get? e=some oe) (hd:oe.data=.fields vs) (Pd:1<vs.size)
  (h:∀ h' T oT ts,h'.get? e=some (VA (·.setIfInBounds 1 (.ref T)) oe)->s.heap.objs.size<=T->T≠e->h'.get? T=some oT->oT.data=.fields ts->ts[3]?=some (rawInt L) ->
   (∀ b o,b≠e->b ∉ wm (env::outer)->s.heap.get? b=some o->h'.get? b=some o)->(∀ b o,b≠e->s.heap.get? b=some o->∃ sl,h'.get? b=some { o with slots:=sl })->Q () { s with heap:=h' }) :
  wpAny M A (do let a <- frameOf env;let pl <- entryPlaceOf L Rp;let b <- Za head a .none (rawInt L) .none pl;setField (.ref e) 1 b) Q E s:=by
 have hene:e ∉ (env::outer).filterMap (·.frame):=λhm=>by
  obtain⟨_,o,ho,Sr⟩:=hl.mem hm;rw[he] at ho;injection ho with ho;subst ho;exact Sr vs hd
 refine RM (wpAny_frameOf_fun QY hl hf λh₁ hs₁=>?_);refine RM (wpAny_entryPlaceOf λpl OH=>?_);unfold Za newFields;refine RM (UX ?_ (OH.sizeOk5 _ _ _ _ _));have he1:h₁.get? e=some oe:=(hs₁.2.1 e hene).trans he;have he₂:=SQ (h:=h₁) { cls:=.type "traceback", dict:=none,data:=.fields ([head,.ref L,.none,rawInt L,.none]++(if pl.isEmpty then SS 6 Um else pl)).toArray } he1;have hTe:h₁.objs.size≠e:=Vk (S7 he1);have hd3:=VF hd (·.setIfInBounds 1 (Td h₁.objs.size));have he3:=UZ (VA (·.setIfInBounds 1 (Td h₁.objs.size))) he₂ (Wc hd3);have hT₃:=(Uk (h₁.push { cls:=.type "traceback", dict:=none,data:=.fields ([head,.ref L,.none,rawInt L,.none]++(if pl.isEmpty then SS 6 Um else pl)).toArray })
  (VA (·.setIfInBounds 1 (Td h₁.objs.size))) (Vb hTe)).trans (S2 h₁ rfl)
 have keep:∀ b o,b≠e->h₁.get? b=some o ->
   ((h₁.push { cls:=.type "traceback", dict:=none,data:=.fields ([head,.ref L,.none,rawInt L,.none]++(if pl.isEmpty then SS 6 Um else pl)).toArray }).update e (VA (·.setIfInBounds 1 (Td h₁.objs.size)))).get? b=some o:=λb o QH hb=>by
  rw[Uk _ _ (Vb QH)];exact SQ _ hb
 refine WO he₂ hd Pd (h _ h₁.objs.size _ _ he3 ?_ hTe hT₃ rfl (by first | (simp;done) | (rcases OH with rfl | ⟨_,_,_,_,_,_,_,rfl⟩ <;> simp)) ?_ ?_)
 .exact Yp hs₁.1.symm
 .intro b o QH hbf hb;exact keep b o QH ((hs₁.2.1 b hbf).trans hb)
 .intro b o QH hb;obtain⟨sl,hs⟩:=hs₁.2.2 b o hb;exact⟨sl,keep b _ QH hs⟩
def Lies(h:Heap)(e:Addr)(vs:Array Value)(to:Option Addr):Prop:=match to with
 | none=>vs[1]?=some .none
 | some T=>vs[1]?=some (.ref T)/\T≠e/\∃ oT ts,h.get? T=some oT/\oT.data=.fields ts/\ts[3]?=some .none
theorem yT{env:Env}{L e:Addr}{vs:Array Value}{Q:Unit->Shared->Prop}
  (QY:A.frames=some (env::outer)) (hl:s.heap.FunFrames base (env::outer)) (hf:env.frame=some L)
  (he:s.heap.get? e=some oe) (hd:oe.data=.fields vs) (hto:Lies s.heap e vs to)
  (h:∀ h' T oT ts,h'.get? e=some (VA (·.setIfInBounds 1 (.ref T)) oe)->s.heap.objs.size<=T->T≠e->h'.get? T=some oT->oT.data=.fields ts->ts[3]?=some (rawInt L) ->
   (∀ b o,b≠e->(∀ T,to=some T->b≠T)->b ∉ wm (env::outer)->s.heap.get? b=some o->h'.get? b=some o) ->
   (∀ b o,b≠e->(∀ T,to=some T->b≠T)->s.heap.get? b=some o->∃ sl,h'.get? b=some { o with slots:=sl })->(∀ b o,s.heap.get? b=some o->∃ o',h'.get? b=some o')->Q () { s with heap:=h' }) :
  wpAny M A (noteFrame (.ref e) env) Q E s:=by
 unfold noteFrame;simp only[hf];cases to with
 | none =>
  have h1:vs[1]?=some .none:=hto;refine RM (TN he hd h1 ?_);rw[if_neg (by decide)];refine sG QY hl hf he hd (UL.mp h1).1 λh' T oT ts a1 a2 a3 a4 a5 a6 a7 a8=>?_;refine h h' T oT ts a1 a2 a3 a4 a5 a6 (λb o n1 _ n2 q=>a7 b o n1 n2 q) (λb o n1 _ q=>a8 b o n1 q) λb o q=>?_
  by_cases z:b=e
  .subst z;exact⟨_,a1⟩
  .obtain⟨sl,r⟩:=a8 b o z q;exact⟨_,r⟩
 | some T0 =>
  obtain⟨h1,hTe,oT,ts,hT,hdT,h3⟩:=hto;refine RM (TN he hd h1 ?_);rw[if_pos (show (Td T0 != Um)=true from by simp)];refine RM (TN hT hdT h3 ?_);rw[if_neg (show ¬ ((Um==rawInt L)=true) from by simp[rawInt])];refine RM (WO hT hdT (UL.mp h3).1 ?_);have other:∀ b,b≠T0->(s.heap.update T0 (VA (·.setIfInBounds 3 Um))).get? b=s.heap.get? b:=λb hb=>Uk _ _ (Vb hb);have Rc:∀ b o,s.heap.get? b=some o->(∀ vs,o.data≠.fields vs)->b≠T0:=λb o hb Sr q=>by
   rw[q,hT] at hb;injection hb with hb;subst hb;exact Sr ts hdT
  have Ro:=UZ (VA (·.setIfInBounds 3 Um)) hT (Wc (VF hdT _));refine sG QY (hl.of_keeps λb o hb Sr=>⟨o,(other b (Rc b o hb Sr)).trans hb,rfl⟩) hf ((other e (Vb hTe)).trans he) hd (UL.mp h1).1 λh' T oT' ts' a1 a2 a3 a4 a5 a6 a7 a8=>?_;refine h h' T oT' ts' a1 (by simpa [Heap.update] using a2) a3 a4 a5 a6 (λb o n1 n2 n3 q=>a7 b o n1 n3 ((other b (n2 T0 rfl)).trans q)) (λb o n1 n2 q=>a8 b o n1 ((other b (n2 T0 rfl)).trans q)) λb o q=>?_
  by_cases z:b=e
  .subst z;exact⟨_,a1⟩
  .by_cases z2:b=T0
   .subst z2;obtain⟨sl,r⟩:=a8 b _ z Ro;exact⟨_,r⟩
   .obtain⟨sl,r⟩:=a8 b o z ((other b z2).trans q);exact⟨_,r⟩
end
def kD(C:Addr)(dd:Option Addr)(e:Addr):HO:=.ext λh=>∃ t,h.get? e=some ⟨.ref C,dd,.fields #[.ref t,.none,.none,.none,.bool false,.none],#[]⟩
def Kb(C:Addr)(dd:Option Addr)(e T:Addr):HO:=.ext λh=>∃ vs,h.get? e=some ⟨.ref C,dd,.fields vs,#[]⟩/\vs[1]?=some (.ref T)
def NA(fl:Value)(T:Addr):HO:=.ext λh=>∃ oT ts,h.get? T=some oT/\oT.data=.fields ts/\ts[3]?=some fl
def mI(Hc:Hp)(e T C:Addr)(dd:Option Addr)(fl:Value):Hp:=upd (upd Hc T (NA fl T)) e (Kb C dd e T)
variable{fl:Value}{Hc:Hp}
theorem pC{e:Addr}:mI Hc e T C dd fl e=some (Kb C dd e T):=aE
theorem pq{e:Addr}(n:T≠e):mI Hc e T C dd fl T=some (NA fl T):=by unfold mI;rw[au n,aE]
theorem jf{e b:Addr}(n:b≠e)(n2:b≠T):mI Hc e T C dd fl b=Hc b:=by unfold mI;rw[au n,au n2]
theorem Inv.note{e:Addr}{vs:Array Value}{φ:Heap->Prop}{Q:Unit->Shared->Prop}{E:Value->Shared->Prop}(I:Inv X N5 σ H s)(Oz:X.stack=X.env::X.outer)(hf:X.env.frame=some X.env.locals)
  (he:H e=some (.ext φ)) (hx:s.heap.get? e=some ⟨.ref C,dd,.fields vs,#[]⟩) (lies:Lies s.heap e vs to) (hT:∀ T,to=some T->(∃ ψ,H T=some (.ext ψ))/\Hc T=none) (hc:∀ b,b≠e->(∀ T,to=some T->b≠T)->Hc b=H b)
  (h:∀ h' T,Hc T=none->T≠e->Inv X N5 σ (mI Hc e T C dd (rawInt X.env.locals)) { s with heap:=h' }->Q () { s with heap:=h' }) :
  wpAny (model X.prog X.w) X.A (noteFrame (.ref e) X.env) Q E s:=by
 have hl:=I.stack;have QY:=I.ok.frames;have sf:=I.ui;rw[Oz] at hl QY sf;refine yT (base:=X.base) QY hl hf hx rfl lies λh' T oT ts a1 a2 a3 a4 a5 a6 a7 a8 a9=>?_;have hTn:H T=none:=I.bB.fresh a2;have nT:∀ b u,H b=some u->b≠T:=λb u q z=>by rw[z,hTn] at q;cases q
 have QS:∀ b u,H b=some u->(∀ ψ,u≠.ext ψ)->b≠e/\∀ T0,to=some T0->b≠T0:=by
  intro b u q hu;refine⟨λz=>?_,λT0 z w=>?_⟩
  .rw[z,he] at q;exact hu _ (Ti q).symm
  .obtain⟨⟨ψ,q2⟩,_⟩:=hT T0 z;rw[w,q2] at q;exact hu _ (Ti q).symm
 have old:∀ b u,H b=some u->(∀ ψ,u≠.ext ψ)->mI Hc e T C dd (rawInt X.env.locals) b=some u:=λb u q hu=>by
  obtain⟨n1,n2⟩:=QS b u q hu;rw[jf n1 (nT b u q),hc b n1 n2];exact q
 have hcT:Hc T=none:=by
  by_cases z:∃ T0,to=some T0/\T=T0
  .obtain⟨T0,z1,z2⟩:=z;rw[z2];exact(hT T0 z1).2
  .rw[hc T a3 λT0 z1 z2=>z ⟨T0,z1,z2⟩];exact hTn
 have un:∀ b o,s.heap.get? b=some o->H b=none->b≠e/\(∀ T0,to=some T0->b≠T0)/\b≠T:=by
  intro b o q n;refine⟨λz=>?_,λT0 z w=>?_,Tu (S_ (S7 q) a2)⟩
  .rw[z,he] at n;cases n
  .obtain⟨⟨ψ,q2⟩,_⟩:=hT T0 z;rw[w,q2] at n;cases n
 refine h h' T hcT a3 ?_;have U:Un (wm X.stack) [] H (mI Hc e T C dd (rawInt X.env.locals)) s.heap h':=by
  rw[Oz];refine⟨λb o q n nf _=>?_,λb o q n _ _=>?_,λb o q n _=>?_,λb o q _=>a9 b o q,λb xs q=>old b _ q (λ_ z=>nomatch z),λb ob u q=>old b _ q (λ_ z=>nomatch z),λb ps q=>⟨#[],?_⟩⟩
  .obtain⟨n1,n2,_⟩:=un b o q n;exact a7 b o n1 n2 nf q
  .obtain⟨n1,n2,_⟩:=un b o q n;exact a8 b o n1 n2 q
  .obtain⟨n1,n2,n3⟩:=un b o q n;rw[jf n1 n3,hc b n1 n2];exact n
  .rw[old b _ q (λ_ z=>nomatch z)];simp
 have ok:mf X.prog X.w (mI Hc e T C dd (rawInt X.env.locals)) h':=λb u q=>by
  by_cases z:b=e
  .subst z;rw[pC] at q;cases q;refine⟨⟨_,a1,?_⟩,⟨_,a1⟩,λh1 h2 ⟨ws,q1,q2⟩ k=>⟨ws,k _ q1,q2⟩⟩;have Pd:1<vs.size:=by
    cases to with
    | none=>exact(UL.mp (show vs[1]?=some .none from lies)).1
    | some T0=>exact(UL.mp lies.1).1
   simp[Pd]
  .by_cases z2:b=T
   .subst z2;rw[pq a3] at q;cases q;exact⟨⟨oT,ts,a4,a5,a6⟩,⟨_,a4⟩,λh1 h2 ⟨o1,t1,q1,q2,q3⟩ k=>⟨o1,t1,k _ q1,q2,q3⟩⟩
   .rw[jf z z2] at q;have z3:∀ T0,to=some T0->b≠T0:=λT0 w w2=>by rw[w2,(hT T0 w).2] at q;cases q
    rw[hc b z z3] at q;have nf:∀ c u',H c=some u'->c ∉ wm (X.env::X.outer):=λc u' q' hm=>by have:=sf c hm;rw[q'] at this;cases this
    refine(I.bB b u q).lQ (λc v Rq q'=>?_) (λc q'=>old c _ q' (λ_ z=>nomatch z)) λc xs q'=>old c _ q' (λ_ z=>nomatch z);rcases Rq with rfl | Rq
    .exact a7 c v z z3 (nf c u q) q'
    .obtain⟨n1,n2⟩:=QS c _ Rq (λ_ z=>nomatch z);exact a7 c v n1 n2 (nf c _ Rq) q'
 exact I.call (ch:=[]) U ok I.bare (λb z=>absurd z (by simp))
theorem Inv.z9{e:Addr}(I:Inv X N5 σ (mI Hc e T C dd fl) s)(n:T≠e):∃ vs oT ts,s.heap.get? e=some ⟨.ref C,dd,.fields vs,#[]⟩/\vs[1]?=some (.ref T)/\s.heap.get? T=some oT/\oT.data=.fields ts/\ts[3]?=some fl:=by
 obtain⟨vs,h1,h2⟩:=(I.bB e _ pC).1;obtain⟨oT,ts,q⟩:=(I.bB T _ (pq n)).1;exact⟨vs,oT,ts,h1,h2,q⟩
theorem Inv.JX{e:Addr}{Q:Unit->Shared->Prop}{E:Value->Shared->Prop}(I:Inv X N5 σ (mI Hc e T C dd fl) s)(hfl:fl=.none\/fl=rawInt X.env.locals)(n:T≠e)(hcT:Hc T=none)(Oz:X.stack=X.env::X.outer)(hf:X.env.frame=some X.env.locals)
  (h:∀ h' T,Hc T=none->T≠e->Inv X N5 σ (mI Hc e T C dd (rawInt X.env.locals)) { s with heap:=h' }->Q () { s with heap:=h' }) :
  wpAny (model X.prog X.w) X.A (noteFrame (.ref e) X.env) Q E s:=by
 obtain⟨vs,oT,ts,hx,h1,hT,hd,h3⟩:=I.z9 n;rcases hfl with rfl | rfl
 .refine I.note (Hc:=Hc) (to:=some T) Oz hf pC hx ⟨h1,n,oT,ts,hT,hd,h3⟩ (λT0 z=>?_) (λb n1 n2=>(jf n1 (n2 T rfl)).symm) h;cases z;exact⟨⟨_,pq n⟩,hcT⟩
 .unfold noteFrame;simp only[hf];refine RM (TN hx rfl h1 ?_);rw[if_pos (show (Td T != Um)=true from by simp)];refine RM (TN hT hd h3 ?_);rw[if_pos (show (rawInt X.env.locals==rawInt X.env.locals)=true from by simp)];exact SY (h s.heap T hcT n I)
theorem Inv.Lb{e:Addr}{Q:Unit->Shared->Prop}{E:Value->Shared->Prop}(I:Inv X N5 σ H s)(he:H e=some (kD C dd e))(Oz:X.stack=X.env::X.outer)(hf:X.env.frame=some X.env.locals)
  (h:∀ h' T,upd H e (hX C dd e) T=none->T≠e->Inv X N5 σ (mI (upd H e (hX C dd e)) e T C dd (rawInt X.env.locals)) { s with heap:=h' }->Q () { s with heap:=h' }) :
  wpAny (model X.prog X.w) X.A (noteFrame (.ref e) X.env) Q E s:=by
 obtain⟨t,hx⟩:=(I.bB e _ he).1;exact I.note (Hc:=upd H e (hX C dd e)) (to:=none) Oz hf he hx rfl (λ_ z=>by cases z) (λb n1 _=>au n1) h
theorem Inv.qa{e:Addr}{fr:Option Addr}{Q:Unit->Shared->Prop}{E:Value->Shared->Prop}(I:Inv X N5 σ (mI Hc e T C dd fl) s)(n:T≠e)
  (h:∀ h',Inv X N5 σ (mI Hc e T C dd (fr.elim .none λf=>rawInt f)) { s with heap:=h' }->Q () { s with heap:=h' }) :
  wpAny (model X.prog X.w) X.A (setFlight (.ref e) fr) Q E s:=by
 obtain⟨vs,oT,ts,hx,h1,hT,hd,h3⟩:=I.z9 n;unfold setFlight;refine RM (TN hx rfl h1 ?_);rw[if_pos (show (Td T != Um)=true from by simp)];have Pd:3<ts.size:=(UL.mp h3).1;refine WO hT hd Pd (h _ ?_);have other:∀ b,b≠T->(s.heap.update T (VA (·.setIfInBounds 3 (fr.elim Um λf=>rawInt f)))).get? b=s.heap.get? b:=λb hb=>Uk _ _ (Vb hb);have Ro:=UZ (VA (·.setIfInBounds 3 (fr.elim Um λf=>rawInt f))) hT (Wc (VF hd _));have nT:∀ b,mI Hc e T C dd fl b=none->b≠T:=λb q z=>by rw[z,pq n] at q;cases q
 have same:∀ b,b≠T->mI Hc e T C dd (fr.elim .none λf=>rawInt f) b=mI Hc e T C dd fl b:=λb z=>by
  by_cases w:b=e
  .subst w;rw[pC,pC]
  .rw[jf w z,jf w z]
 have ne:∀ b u,mI Hc e T C dd fl b=some u->(∀ ψ,u≠.ext ψ)->b≠T:=λb u q hu z=>by rw[z,pq n] at q;exact hu _ (Ti q).symm
 refine I.un (t':=s.toks) ⟨λb o q z _ _=>(other b (nT b z)).trans q,λb o q z _ _=>⟨o.slots,(other b (nT b z)).trans q⟩,λb o q z _=>by rw[same b (nT b z)];exact z,λb o q _=>?_,λb xs q=>?_,λb ob u q=>?_,λb ps q=>⟨#[],?_⟩⟩ λb u q=>?_
 .by_cases z:b=T
  .subst z;exact⟨_,Ro⟩
  .exact⟨o,(other b z).trans q⟩
 .rw[same b (ne b _ q λ_ z=>nomatch z)];exact q
 .rw[same b (ne b _ q λ_ z=>nomatch z)];exact q
 .rw[same b (ne b _ q λ_ z=>nomatch z),q];simp
 .by_cases z:b=T
  .subst z;rw[pq n] at q;cases q;refine⟨⟨_,_,Ro,VF hd _,?_⟩,⟨_,Ro⟩,λh1 h2 ⟨o1,t1,q1,q2,q3⟩ k=>⟨o1,t1,k _ q1,q2,q3⟩⟩;simp[Pd]
  .rw[same b z] at q;refine(I.bB b u q).lQ (λc v hc q'=>(other c ?_).trans q') (λc q'=>?_) λc xs q'=>?_
   .rcases hc with rfl | hc
    .exact z
    .exact ne c _ hc λ_ z=>nomatch z
   .rw[same c (ne c _ q' λ_ z=>nomatch z)];exact q'
   .rw[same c (ne c _ q' λ_ z=>nomatch z)];exact q'
def bW(P:Program)(w:World):JL:=λouter H s E e s'=>∃ (ea T C:Addr) (dd:Option Addr) (Hc:Hp),e=.ref ea/\s'.os=s.os/\AllBare s'.gens/\Un (wm outer) [] H (mI Hc ea T C dd .none) s.heap s'.heap/\mf P w (mI Hc ea T C dd .none) s'.heap ∧
 Hc ea=some (hX C dd ea)/\Hc T=none/\T≠ea/\E (.ref ea) none Hc
def Zx (X : Cx) (E : St -> XK) (e : Value) (s : Shared) : Prop := ∃ (ea C : Addr) (dd : Option Addr) (N5 : List (Addr × Obj)) (σ : St), e = .ref ea ∧
  ((∃ H, Inv X N5 σ H s /\ H ea = some (kD C dd ea) /\ E σ (.ref ea) none (upd H ea (hX C dd ea))) ∨
   (∃ Hc T fl, Inv X N5 σ (mI Hc ea T C dd fl) s /\ (fl = .none \/ fl = rawInt X.env.locals) /\ Hc ea = some (hX C dd ea) /\ Hc T = none /\ T ≠ ea /\ E σ (.ref ea) none Hc))
variable{E:St->XK}
theorem Zx.note{e:Value}{Q:Unit->Shared->Prop}{F:Value->Shared->Prop}(z:Zx X E e s)(Oz:X.stack=X.env::X.outer)(hf:X.env.frame=some X.env.locals)
  (h:∀ s' ea C dd N5 σ Hc T,e=.ref ea->Inv X N5 σ (mI Hc ea T C dd (rawInt X.env.locals)) s'->Hc ea=some (hX C dd ea)->Hc T=none->T≠ea->E σ (.ref ea) none Hc->Q () s') :
  wpAny (model X.prog X.w) X.A (noteFrame e X.env) Q F s:=by
 obtain⟨ea,C,dd,N5,σ,rfl,⟨H,I,h1,h2⟩ | ⟨Hc,T,fl,I,h1,h2,h3,h4,h5⟩⟩:=z
 .exact I.Lb h1 Oz hf λh' T q1 q2 I2=>h _ ea C dd N5 σ _ T rfl I2 aE q1 q2 h2
 .exact I.JX h1 h4 h3 Oz hf λh' T q1 q2 I2=>h _ ea C dd N5 σ _ T rfl I2 h2 q1 q2 h5
theorem Zx.GF{E:XK}{e:Value}{F:Value->Shared->Prop}(z:Zx X (λ_=>E) e s)(Oz:X.stack=X.env::X.outer)(hf:X.env.frame=some X.env.locals)(hex:X.ex=[]) :
  wpAny (model X.prog X.w) X.A (leaving X.env e) (λ_ s'=>bW X.prog X.w X.outer X.H₀ X.s₀ E e s') F s:=by
 unfold leaving;refine RM (z.note Oz hf λs' ea C dd N5 σ Hc T he I h1 h2 h3 h4=>?_);subst he;refine I.qa h3 λh' I2=>⟨ea,T,C,dd,Hc,rfl,I2.os,I2.bare,?_,I2.bB,h1,h2,h3,h4⟩
 have:=I2.base;rw[hex] at this;exact this
theorem Zx.own(Oz:X.stack=X.env::X.outer)(hf:X.env.frame=some X.env.locals):PassesOwn (model X.prog X.w) X.A X.env (Zx X E):=by
 intro e s z;refine z.note Oz hf λs' ea C dd N5 σ Hc T he I h1 h2 h3 h4=>?_;subst he;obtain⟨vs,oT,ts,hx,q1,_⟩:=I.z9 h3;show wpAny _ _ _ _ _ _;refine RM (TN hx rfl q1 ?_);rw[if_neg (show ¬ ((Td T==Um)=true) from by simp)];rw[hf];refine I.qa h3 λh' I2=>⟨ea,C,dd,N5,σ,rfl,.inr ⟨Hc,T,_,I2,.inr rfl,h1,h2,h3,h4⟩⟩
structure fc (X:Cx) (E:St->XK):Prop where
 pass:∀ (N5:List (Addr×Obj)) (σ:St) (H:Hp) (s:Shared) (e:Value) (s':Shared),Inv X N5 σ H s->bW X.prog X.w X.stack H s (E σ) e s'->X.xe e s'
 new:∀ (N5:List (Addr×Obj)) (σ:St) (H:Hp) (s:Shared) (e C:Addr) (dd:Option Addr),Inv X N5 σ H s->H e=some (kD C dd e)->E σ (.ref e) none (upd H e (hX C dd e))->X.xe (.ref e) s
 own:PassesOwn (model X.prog X.w) X.A X.env X.xe
abbrev Cx.out(X:Cx)(E:St->XK):Cx:=X.oO (Zx X E)
theorem Aq(Oz:X.stack=X.env::X.outer)(hf:X.env.frame=some X.env.locals):fc (X.out E) E where
 pass:=by
  intro N5 σ H s e s' I h;obtain⟨ea,T,C,dd,Hc,rfl,os,bare,un,bB,h1,h2,h3,hE⟩:=h;have I':=I.eQ.C0 (ch:=[]) os un bB bare (λb z=>absurd z (by simp));exact⟨ea,C,dd,N5,σ,rfl,.inr ⟨Hc,T,.none,I',.inl rfl,h1,h2,h3,hE⟩⟩
 new:=λN5 σ H s e C dd I he hE=>⟨e,C,dd,N5,σ,rfl,.inl ⟨H,I.eQ,he,hE⟩⟩
 own:=Zx.own Oz hf
variable{N:List Str}{Rf:Array (Option Value)}{od:Option Addr}{body:List Stmt}{params:Arguments}
theorem xv{K:PySem.W.Frag}{dV kV doc pm Ox ct oc:Value}{an:Option Addr}(lk:K.lookup f=some ⟨oc,od,.func (PySem.W.fnOf name qual params body scope dV kV doc pm an Ox ct),Rf⟩)(Pc:PySem.W.codeIn K Ox qual=true)(S:cH N ps scope)
  (len:∀ vs H Q E,sp vs H Q E->vs.length=ps.length)
  (QT:∀ (A:Around) (outer:List Env) (s:Shared) (H:Hp) (vs:List V) (Q:VK) (E:XK),cA k (A.deeper (envOfC qual scope s.heap.objs.size f Ox))->sp vs H Q E ->
   ∃ t,kN ((lF (bW P w) P w K mg base N qual scope f Ox A outer s H E).out λ_=>E) body t/\t { nx:=λ_ H'=>Q .cJ H',rt:=Q } (start N vs) H) :
  aY P w K mg base (bW P w) (k+1) f (PySem.W.fnOf name qual params body scope dV kV doc pm an Ox ct) ps sp:=by
 refine K8 lk Pc S len λA outer s H vs Q E hr hs=>?_;obtain⟨t,h1,h2⟩:=QT A outer s H vs Q E hr hs;refine⟨t,λN5 s1 σ H1 D I q=>?_,h2⟩;refine UU (h1 N5 s1 σ H1 D (I.oO _) q) (λf s' z=>z.eQ) λe s' z=>?_;exact z.GF rfl rfl rfl
variable{pos':Pos}
section
open PySem.Builtin.ObjectAttr (storeInOwnDict storeTaker? setByDescriptor)
theorem uh{e t:Addr}(he:h.get? e=some ⟨.ref C,dd,.fields #[.ref t,.none,.none,.none,.bool false,.none],#[]⟩):b_ P w H h e (kD C dd e) :=
 ⟨⟨t,he⟩,⟨_,he⟩,λ_ _ ⟨t,q⟩ k=>⟨t,k _ q⟩⟩
section
variable{p pos:Pos}
def J3(C:Addr)(t:TA):TE:=fun σ H Q=>t σ H λvs H1=>vs.length<=sizeLine/\∀ a,H1 a=none->Q (.ref a) (upd H1 a (kD C none a))
theorem ED(hc:PySem.W.excIn X.K C fE "ValueError.__new__" = true)(kp:PySem.W.keepIn X.K (.ref C)=true)(hg:Gl X x)(hm:X.mg x=some (.ref C))
  (ha:PA X (e::es) t) (Pa:autoParam ((x==("__debug__" : Str))=false) aD._auto_1) (he:autoParam (starEach (e::es) X.env=(false,eval e X.env)::starEach es X.env) aR._auto_1) (OH:autoParam ((backTo pos (starEach es X.env)).any (·.1)=false) aR._auto_1) :
  PE X (.Call (.Name x p) (e::es) [] pos) (J3 C t):=by
 intro N5 s σ H Q I h;refine VE (ju I hg hm ?_ Pa);refine PySem.W.callWith_K (h₀:=X.base) I.ok.mod.Gb kp (cX (ha pos N5 s σ H _ I h) λus s1 ⟨vs,H1,I1,r,hl,q⟩=>⟨I1.jK,?_⟩) he OH;obtain⟨bm,N,nm,qn,bs,Qp,sn,sub,ab,col,dd,k0,k1,k2,k3,k5,mN,hC,hN,QI,T⟩:=Eh I1.jK hc;obtain⟨hp,g,d,tk,os⟩:=s1;refine wpAny_call_exc_subT PySem.F.excBase_ValueError T hC hN QI (λh' a M=>?_) (by show us.length<=sizeLine;rw[<- r.length];exact hl);obtain⟨t',e1,_,_⟩:=M.there;have I2:Inv X N5 σ (upd H1 a (kD C none a)) ⟨h',g,d,tk,os⟩:=I1.FW (t':=tk) M.keeps M.new (uh e1);have hn:H1 a=none:=I1.tJ M.new;exact⟨.ref a,_,I2,rfl,q a hn⟩
def Ju(C:Addr)(sp:Sp)(t:TA):TE:=fun σ H Q=>t σ H λvs H1=>vs.length<=sizeLine/\∀ a,H1 a=none->sp (.ref a::vs) (upd H1 a (kD C none a)) (λv H2=>v=.cJ/\Q (.ref a) H2) E0
theorem Cj(hc:oV X.K C "ValueError.__new__" f=true)(hf:PySem.W.isFn X.K (.ref f)=true)(kp:PySem.W.keepIn X.K (.ref C)=true)(F:aY X.prog X.w X.K X.mg X.base (bW X.prog X.w) k f fd ps sp)(hr:cA (k+1) X.A)(hb:Binds X.K fd ps [])(hg:Gl X x)(hm:X.mg x=some (.ref C))
  (ha:PA X (e::es) t) (Pa:autoParam ((x==("__debug__" : Str))=false) aD._auto_1) (he:autoParam (starEach (e::es) X.env=(false,eval e X.env)::starEach es X.env) aR._auto_1) (OH:autoParam ((backTo pos (starEach es X.env)).any (·.1)=false) aR._auto_1) :
  PE X (.Call (.Name x p) (e::es) [] pos) (Ju C sp t):=by
 intro N5 s σ H Q I h;refine VE (ju I hg hm ?_ Pa);refine PySem.W.callWith_K (h₀:=X.base) I.ok.mod.Gb kp (cX (ha pos N5 s σ H _ I h) λus s1 ⟨vs,H1,I1,r,hl,q⟩=>⟨I1.jK,?_⟩) he OH;have X1:=I1.jK;obtain⟨bm,N,nm,qn,bs,Qp,sn,sub,ab,col,dd,k0,k1,k2,k3,k5,mN,hC,hN,QI,T⟩:=AS X1 hc;obtain⟨hp,g,d,tk,os⟩:=s1;have f1:=tc_lookup;have f2:=tc_bind (.ref C);have hT:(⟨hp,g,d,tk,os⟩:Shared).TypeIs (.ref C) "type" := ⟨_,hC,rfl⟩
 refine XQ (codeAny_of_tree ?_);show wpAny _ _ (callAny (.ref C) _) _ _ _
 repeat (any_goals (first | assumption | with_reducible refine X5 hC ?_ | wp_step))
 refine⟨rfl,?_⟩;refine codeAny_call_builtin_at (Zp _ (by decide +kernel)) entry_typeCall (wpAny_check_type_call_sub hC (oW PySem.F.excBase_ValueError T hC hN QI
  (λh' kk self=>PySem.W.bind_fn (λb o z=>kk b o (X1 b o z)) self (beq_iff_eq.mp hf)) (λh' kk ht hx hz=>?_) (by show us.length<=sizeLine;rw[<- r.length];exact hl)))
 have I2:Inv X N5 σ (upd H1 (hp.objs.size+1) (kD C none (hp.objs.size+1))) ⟨h',g,d,tk,os⟩:=I1.FW (t':=tk) kk (Wg (Wh _)) (uh hx);have hq:=q (hp.objs.size+1) (I1.tJ (Wg (Wh _)));have r2:Vals (V.ref (hp.objs.size+1)::vs) (Td (hp.objs.size+1)::us):=.cons rfl r;have hlen:(Td (hp.objs.size+1)::us++[]).length=ps.length:=by
  rw[Ul,<- r2.length];exact F.len _ _ _ _ hq
 refine XQ (Xx (F.run _ X.stack _ _ ⟨Td (hp.objs.size+1)::us,[]⟩ (Td (hp.objs.size+1)::us) _ _ E0 (hr.make C us []) (I2.kP.make C us []) (by have:=hb _ (Td (hp.objs.size+1)::us) I2.jK hlen;rwa [Ul] at this) r2 hq) λr s' Qr=>?_);cases r with
 | error e =>
  obtain⟨_,_,_,_,_,_,_,_,_,_,_,_,_,z⟩:=Qr;exact z.elim
 | ok fl =>
  cases fl with
  | ret u =>
   obtain⟨v,H',I3,rv,ev,q3⟩:=I2.after Qr;subst ev;exact⟨rv,⟨V.ref (hp.objs.size+1),H',I3,rfl,q3⟩⟩
  | next=>exact U8 Qr
  | brk=>exact U8 Qr
  | cont=>exact U8 Qr
def Jo(K:PySem.W.Frag)(ta tv:TE)(f:Str):TS:=λD σ H=>tv σ H λy H1=>ta σ H1 λx H2=>∃ a C,x=.ref a/\H2 a=some (kD C none a)/\jy K C/\((PySem.W.clsIn K C).any λcd=>gG cd.mro)=true/\bX K C f ∧
 ∀ d,H2 d=none->d≠a->D.nx σ (upd (upd H2 d (.xd [(f,y)])) a (kD C (some d) a))
theorem BA{value:Expr}{tv:TE}{n:Str}(ha:PE X o ta)(hv:PE X value tv)(hs:swapsWith value (some (.Attribute o n pos')) pos.line X.env=pure false):PS X (.Assign [.Attribute o n pos'] value pos) (Jo X.K ta tv n):=by
 intro N5 s σ H D I h;refine W2 (cX (hv N5 s σ H _ I h) λu s1 ⟨y,H1,I1,ry,q⟩=>cX (ha N5 s1 σ H1 _ I1 q) λov s2 ⟨x,H2,I2,rx,a,C,ex,ea,c,po,na,q2⟩=>?_) hs;subst ex;obtain rfl:ov=Td a:=rx;obtain⟨tt,hx⟩:=(I2.bB a _ ea).1;refine BV po c I2.jK hx na.Gk λh' tk d e1 e2 e3 e4=>?_;have hd:H2 d=none:=I2.tJ e2;have nda:d≠a:=λz=>by rw[z,ea] at hd;cases hd
 refine⟨σ,_,?_,q2 d hd nda⟩;have up:∀ b,b≠a->b≠d->upd (upd H2 d (.xd [(n,y)])) a (kD C (some d) a) b=H2 b:=λb h1 h2=>by rw[au h1,au h2]
 have nd:∀ b u,s2.heap.get? b=some u->b≠d:=λb u e z=>by rw[z,e2] at e;cases e
 have nH:∀ b u,H2 b=some u->b≠d:=λb u e z=>by rw[z,hd] at e;cases e
 have nE:∀ b u,H2 b=some u->(∀ C dd,u≠kD C dd a)->b≠a:=λb u e hu z=>by
  rw[z,ea] at e;exact hu C none (Ti e).symm
 refine I2.un (t':=tk) ⟨λb u e z _ _=>e4 b u (λw=>by rw[w,ea] at z;cases z) e,λb u e z _ _=>⟨u.slots,e4 b u (λw=>by rw[w,ea] at z;cases z) e⟩,λb u e z _=>?_,λb u e _=>?_,λb xs e=>?_,λb ob u e=>?_,λb ps e=>?_⟩ λb u e=>?_
 .rw[up b (λw=>by rw[w,ea] at z;cases z) (nd b u e)];exact z
 .by_cases w:b=a
  .rw[w];exact⟨_,e1⟩
  .exact⟨u,e4 b u w e⟩
 .rw[up b (nE b _ e λ_ _ z=>by cases z) (nH b _ e)];exact e
 .rw[up b (nE b _ e λ_ _ z=>by cases z) (nH b _ e)];exact e
 .exact⟨#[],by rw[up b (nE b _ e λ_ _ z=>by cases z) (nH b _ e),e];simp⟩
 .by_cases w:b=a
  .subst w;rw[aE] at e;cases e;exact uh e1
  .rw[au w] at e
   by_cases w2:b=d
   .subst w2;rw[aE] at e;cases e;refine⟨_,e3,λg=>?_⟩;show ml (Vz g [(n,y)]) (if g=n then some _ else none);rw[UR]
    by_cases z:g=n
    .rw[if_pos z,show (g==n)=true from by simp[z]];exact ry
    .rw[if_neg z,show (g==n)=false from by simp[z]];exact Vw
   .rw[au w2] at e;refine(I2.bB b u e).lQ (λc v hc z=>e4 c v ?_ z) (λc z=>?_) λc ys z=>?_
    .rcases hc with z' | z'
     .rw[z'];exact w
     .exact nE c _ z' λ_ _ z=>by cases z
    .rw[up c (nE c _ z λ_ _ z=>by cases z) (nH c _ z)];exact z
    .rw[up c (nE c _ z λ_ _ z=>by cases z) (nH c _ z)];exact z
end
end
section
variable{M:Model}{E:Value->Shared->Prop}
theorem Aw{e:Addr}{o:Obj}(hx:s.heap.get? e=some o)(h:Q o.cls s):wpAny M A (typeOf (.ref e)) Q E s:=by
 unfold typeOf;exact RM (WL hx (SY h))
theorem x_{e:Addr}{o:Obj}{vs:Array Value}{Q:Bool->Shared->Prop}(hx:s.heap.get? e=some o)(hd:o.data=.fields vs)(h:Q false s):wpAny M A (isType (.ref e)) Q E s:=by
 unfold isType loadHead;refine RM (WL hx (SY ?_));rw[hd];exact h
end
def GI(K:PySem.W.Frag)(E:St->XK)(te:TE):TS:=λD σ H=>te σ H λv H1=>∃ e C dd,v=.ref e/\H1 e=some (kD C dd e)/\jy K C/\PySem.W.typeIn K (.ref C)=some (.type "type")/\E σ (.ref e) none (upd H1 e (hX C dd e))
theorem vH{exc:Expr}{pos:Pos}(O:fc X E)(Of:X.calm=true)(he:PE X exc te):PS X (.Raise (some exc) none pos) (GI X.K E te):=by
 intro N5 s σ H D I h;rw[arm_exec_Raise];refine RM (WC ?_);unfold raiseStmt;dsimp only [evalOpt,Option.map];refine RM (RM (cX (he N5 s σ H _ I h) λu s1 hq=>RM (WC (SY ?_))));obtain⟨v,H1,I1,rv,e,C,dd,ev,hN,c,ht,hE⟩:=hq;subst ev;obtain rfl:u=Td e:=rv;obtain⟨t,hx⟩:=(I1.bB e _ hN).1;have X1:=I1.jK;refine RM (SY ?_);refine RM (U0 ?_);unfold excFromValue isExcClass;refine RM (RM (x_ hx rfl ?_));refine SY ?_;refine RM ?_;unfold isInstance;refine RM (Aw hx ((PySem.W.looks_mroIn X1 c.mb).here ?_));refine SY ?_;dsimp only;refine RM (x_ hx rfl ?_);unfold raisedInstance;refine RM (RM (Aw hx (RM ((PySem.W.looks_typeIn X1 ht).here ?_))));refine SY ?_;unfold setFlight;refine RM (RM (TN hx rfl (x:=.none) rfl ?_));refine SY ?_;exact wpAny_raiseNew_none (I1.ok.hd Of) (O.new N5 σ H1 s1 e C dd I1 hN hE)
inductive PV where
 | cJ | bl (b:Bool) | int (i:Int) | str (x:Str)
 | tup (xs:List PV) | lst (xs:List PV)
 | jV (xs:List PV)
 | obj (C:Addr) (fs:List (Str×PV))
 | exc (C:Addr) (fo:Option (List (Str×PV)))
 | emp
 deriving Inhabited
mutual
inductive Rep (H:Hp):PV->V->Prop where
 | cJ:Rep H .cJ .cJ
 | bl (b:Bool):Rep H (.bl b) (.bl b)
 | int (i:Int):Rep H (.int i) (.int i)
 | str (x:Str):Rep H (.str x) (.str x)
 | tup {a:Addr} {xs:List PV} {vs:List V}:H a=some (.tup vs)->aP H xs vs->Rep H (.tup xs) (.ref a)
 | lst {a:Addr} {xs:List PV} {vs:List V}:H a=some (.lst vs)->aP H xs vs->Rep H (.lst xs) (.ref a)
 | jV {a:Addr} {o:Obj} {xs:List PV} {vs:List V}:H a=some (.qL o (.lst vs))->aP H xs vs->Rep H (.jV xs) (.ref a)
 | obj {a C dx:Addr} {fs:List (Str×PV)} {vs:List (Str×V)}:H a=some (.ins C dx vs)->iR H fs vs->Rep H (.obj C fs) (.ref a)
 | xq {a C:Addr}:H a=some (hX C none a)->Rep H (.exc C none) (.ref a)
 | wN {a C d:Addr} {fs:List (Str×PV)} {vs:List (Str×V)}:H a=some (hX C (some d) a)->H d=some (.xd vs)->iR H fs vs->Rep H (.exc C (some fs)) (.ref a)
 | emp {a:Addr}:H a=some (.dK [])->Rep H .emp (.ref a)
inductive aP (H:Hp):List PV->List V->Prop where
 | nil:aP H [] []
 | cons {p:PV} {v:V} {ps:List PV} {vs:List V}:Rep H p v->aP H ps vs->aP H (p::ps) (v::vs)
inductive iR (H:Hp):List (Str×PV)->List (Str×V)->Prop where
 | nil:iR H [] []
 | cons {n:Str} {p:PV} {v:V} {ps:List (Str×PV)} {vs:List (Str×V)}:Rep H p v->iR H ps vs->iR H ((n,p)::ps) ((n,v)::vs)
end
mutual
theorem Rep.mono{H H':Hp}(s:bw H H'):∀ {p:PV} {v:V},Rep H p v->Rep H' p v
 | _,_,.cJ=>.cJ
 | _,_,.bl b=>.bl b
 | _,_,.int i=>.int i
 | _,_,.str x=>.str x
 | _,_,.tup h r=>.tup (s _ _ h) (r.mono s)
 | _,_,.lst h r=>.lst (s _ _ h) (r.mono s)
 | _,_,.jV h r=>.jV (s _ _ h) (r.mono s)
 | _,_,.obj h r=>.obj (s _ _ h) (r.mono s)
 | _,_,.xq h=>.xq (s _ _ h)
 | _,_,.wN h h2 r=>.wN (s _ _ h) (s _ _ h2) (r.mono s)
 | _,_,.emp h=>.emp (s _ _ h)
theorem aP.mono{H H':Hp}(s:bw H H'):∀ {p:List PV} {v:List V},aP H p v->aP H' p v
 | _,_,.nil=>.nil
 | _,_,.cons h r=>.cons (h.mono s) (r.mono s)
theorem iR.mono{H H':Hp}(s:bw H H'):∀ {p:List (Str×PV)} {v:List (Str×V)},iR H p v->iR H' p v
 | _,_,.nil=>.nil
 | _,_,.cons h r=>.cons (h.mono s) (r.mono s)
end
theorem aP.length{H:Hp}:∀ {p:List PV} {v:List V},aP H p v->p.length=v.length
 | _,_,.nil=>rfl
 | _,_,.cons _ r=>by simp[r.length]
theorem aP.get{H:Hp}:∀ {p:List PV} {v:List V} {i:Nat} {x:PV},aP H p v->p[i]?=some x->∃ u,v[i]?=some u/\Rep H x u
 | _,_,_,_,.nil,e=>by simp at e
 | _,_,0,_,.cons h _,e=>by simp at e;subst e;exact⟨_,rfl,h⟩
 | _,_,i+1,x,.cons _ r,e=>by
  obtain⟨u,h1,h2⟩:=aP.get (i:=i) (x:=x) r (by simpa using e);exact⟨u,by simpa using h1,h2⟩
theorem aP.append{H:Hp}:∀ {p q:List PV} {v u:List V},aP H p v->aP H q u->aP H (p++q) (v++u)
 | _,_,_,_,.nil,s=>s
 | _,_,_,_,.cons h r,s=>.cons h (r.append s)
theorem aP.take{H:Hp}:∀ {p:List PV} {v:List V} (n:Nat),aP H p v->aP H (p.take n) (v.take n)
 | _,_,0,_=>.nil
 | _,_,_+1,.nil=>.nil
 | _,_,n+1,.cons h r=>.cons h (r.take n)
theorem aP.drop{H:Hp}:∀ {p:List PV} {v:List V} (n:Nat),aP H p v->aP H (p.drop n) (v.drop n)
 | _,_,0,r=>r
 | _,_,_+1,.nil=>.nil
 | _,_,n+1,.cons _ r=>r.drop n
theorem aP.set{H:Hp}{x:PV}{u:V}(h:Rep H x u):∀ {p:List PV} {v:List V} (i:Nat),aP H p v->aP H (p.set i x) (v.set i u)
 | _,_,_,.nil=>.nil
 | _,_,0,.cons _ r=>.cons h r
 | _,_,i+1,.cons q r=>.cons q (r.set h i)
theorem aP.snoc{p:List PV}{v:List V}{x:PV}{u:V}(r:aP H p v)(h:Rep H x u):aP H (p++[x]) (v++[u]):=r.append (.cons h .nil)
theorem iR.look{H:Hp}{f:Str}:∀ {p:List (Str×PV)} {v:List (Str×V)} {x:PV},iR H p v->p.lookup f=some x->∃ u,v.lookup f=some u/\Rep H x u
 | _,_,_,.nil,e=>by simp at e
 | (n,_)::_,_,x,.cons h r,e=>by
  rw[UR] at e ⊢;cases q:f==n with
  | true=>rw[q] at e;cases e;exact⟨_,rfl,h⟩
  | false=>rw[q] at e;exact r.look e
theorem iR.none{H:Hp}{f:Str}:∀ {p:List (Str×PV)} {v:List (Str×V)},iR H p v->p.lookup f=none->v.lookup f=none
 | _,_,.nil,_=>rfl
 | (n,_)::_,_,.cons h r,e=>by
  rw[UR] at e ⊢;cases q:f==n with
  | true=>rw[q] at e;cases e
  | false=>rw[q] at e;exact r.none e
theorem aP.ints{H:Hp}:∀ {ns:List Int} {v:List V},aP H (ns.map PV.int) v->v=ns.map V.int
 | [],_,.nil=>rfl
 | _::_,_,.cons (.int i) r=>by rw[r.ints];rfl
theorem aP.Ny{H:Hp}:∀ {ns:List Bool} {v:List V},aP H (ns.map PV.bl) v->v=ns.map V.bl
 | [],_,.nil=>rfl
 | _::_,_,.cons (.bl i) r=>by rw[r.Ny];rfl
structure bL (Hs H Oa H':Hp):Prop where
 st:bw Hs Oa
 al:bw H H'
 sub:bw Oa H'
 nw:∀ a o,Hs a=none->H a=some o->Oa a=none
variable{Hs:Hp}
theorem bL.refl(s:bw Hs H):bL Hs H Hs H:=⟨λ_ _ e=>e,λ_ _ e=>e,s,λ_ _ e _=>e⟩
variable{Om:Hp}
theorem bL.trans{H1 Oj H2:Hp}(a:bL Hs H Om H1)(b:bL Om H1 Oj H2):bL Hs H Oj H2 :=
 ⟨λc o e=>b.st c o (a.st c o e),λc o e=>b.al c o (a.al c o e),b.sub,λc o e q=>b.nw c o (a.nw c o e q) (a.al c o q)⟩
theorem bL.new{p:Addr}{o:HO}(s:bw Hs H)(n:H p=none):bL Hs H (upd Hs p o) (upd H p o):=by
 have ne:∀ c u,H c=some u->c≠p:=λc u e z=>by rw[z,n] at e;cases e
 refine⟨λc u e=>?_,λc u e=>?_,λc u e=>?_,λc u e q=>?_⟩
 .rw[au (ne c u (s c u e))];exact e
 .rw[au (ne c u e)];exact e
 .by_cases z:c=p
  .subst z;rw[aE] at e ⊢;exact e
  .rw[au z] at e ⊢;exact s c u e
 .rw[au (ne c u q)];exact e
inductive SV where
 | sh (p:PV)
 | ow (xs:List PV)
 | bd (a C:Addr) (fs:List (Str×PV))
abbrev af:=List (Option SV)
structure SR (B H₀ Hs H:Hp) (σ:St) (env:af):Prop where
 gr:bL B H₀ Hs H
 len:σ.length=env.length
 sh:∀ (i:Nat) (p:PV),env[i]?=some (some (.sh p))->∃ v,σ[i]?=some (some v)/\Rep Hs p v
 ow:∀ (i:Nat) (xs:List PV),env[i]?=some (some (.ow xs))->∃ a vs,σ[i]?=some (some (.ref a))/\H a=some (.lst vs)/\Hs a=none/\H₀ a=none/\aP Hs xs vs
 sep:∀ (i j:Nat) (xs ys:List PV) (a:Addr),i≠j->env[i]?=some (some (.ow xs))->env[j]?=some (some (.ow ys))->σ[i]?=some (some (.ref a))->σ[j]?≠some (some (.ref a))
 bd:∀ (i:Nat) (a C:Addr) (fs:List (Str×PV)),env[i]?=some (some (.bd a C fs))->∃ dx vs,σ[i]?=some (some (.ref a))/\H a=some (.ins C dx vs)/\Hs a=none/\H₀ a=none/\iR Hs fs vs
 one:∀ (i j:Nat) (a b C D:Addr) (fs gs:List (Str×PV)),env[i]?=some (some (.bd a C fs))->env[j]?=some (some (.bd b D gs))->i=j
variable{H₀:Hp}
theorem SR.grow{B Oa H':Hp}{env:af}(r:SR B H₀ Hs H σ env)(g:bL Hs H Oa H'):SR B H₀ Oa H' σ env where
 gr:=r.gr.trans g
 len:=r.len
 sh:=λi p e=>let ⟨v,h1,h2⟩:=r.sh i p e;⟨v,h1,h2.mono g.st⟩
 ow:=λi xs e=>let ⟨a,vs,h1,h2,h3,h4,h5⟩:=r.ow i xs e;⟨a,vs,h1,g.al _ _ h2,g.nw _ _ h3 h2,h4,h5.mono g.st⟩
 sep:=r.sep
 bd:=λi a C fs e=>let ⟨dx,vs,h1,h2,h3,h4,h5⟩:=r.bd i a C fs e;⟨dx,vs,h1,g.al _ _ h2,g.nw _ _ h3 h2,h4,h5.mono g.st⟩
 one:=r.one
abbrev EX:=Addr×Option (List (Str×PV))
abbrev M(α:Type):=Option (Except EX α)
def M.ok{α:Type}(a:α):M α:=some (.ok a)
variable{α:Type}
noncomputable def M.bind{β:Type}(x:M α)(f:α->M β):M β:=match x with
 | some (.ok a)=>f a
 | some (.error e)=>some (.error e)
 | none=>none
instance:Monad M where
 pure:=M.ok
 bind:=M.bind
def az(r:M α)(Q:α->Prop)(E:EX->Prop):Prop:=match r with
 | some (.ok a)=>Q a
 | some (.error e)=>E e
 | none=>False
variable{E':EX->Prop}
theorem az.imp{r:M α}{Q Q':α->Prop}{E:EX->Prop}(h:az r Q E)(hq:∀ a,Q a->Q' a)(he:∀ e,E e->E' e):az r Q' E':=by
 cases r with
 | none=>exact h
 | some x=>cases x with
  | ok a=>exact hq a h
  | error e=>exact he e h
theorem az.bind{α β:Type}{x:M α}{f:α->M β}{Q:β->Prop}{E:EX->Prop}(h:az (x.bind f) Q E):az x (λa=>az (f a) Q E) E:=by
 cases x with
 | none=>exact h
 | some x=>cases x with
  | ok a=>exact h
  | error e=>exact h
def XW(E:XK)(Hs H:Hp)(x:EX):Prop:=∀ ea Oa H',bL Hs H Oa H'->Rep Oa (.exc x.1 x.2) (.ref ea)->E (.ref ea) none H'
theorem XW.grow{E:XK}{Oa H':Hp}{x:EX}(h:XW E Hs H x)(g:bL Hs H Oa H'):XW E Oa H' x:=λea Oj H2 g2 r=>h ea Oj H2 (g.trans g2) r
def tE(E:St->XK)(f:af->M PV):TE:=fun σ H Q=>∃ B H₀ Hs env,SR B H₀ Hs H σ env/\az (f env) (λp=>∀ v Oa H',bL Hs H Oa H'->Rep Oa p v->Q v H') (XW (E σ) Hs H)
theorem PE.imp{t t':TE}(h:PE X e t)(i:∀ σ H Q,t' σ H Q->t σ H Q):PE X e t':=λN5 s σ H Q I q=>h N5 s σ H Q I (i σ H Q q)
theorem yw{f:af->M PV}{g:af->PV->M PV}{Q R:VK}(h:tE E (λenv=>(f env).bind (g env)) σ H Q)
  (k:∀ B H₀ Hs H1 env p v,SR B H₀ Hs H1 σ env->Rep Hs p v->az (g env p) (λq=>∀ u Oa H',bL Hs H1 Oa H'->Rep Oa q u->Q u H') (XW (E σ) Hs H1)->R v H1):tE E f σ H R:=by
 obtain⟨B,H₀,Hs,env,sr,h⟩:=h;refine⟨B,H₀,Hs,env,sr,(az.bind h).imp (λp hp v Oa H' g r=>?_) λe he=>he⟩;exact k B H₀ Oa H' env p v (sr.grow g) r (hp.imp (λq hq u Oj H2 g2 r2=>hq u Oj H2 (g.trans g2) r2) λe he=>he.grow g)
theorem yn{f g:af->M PV}{op:PV->PV->M PV}{r:R2}{Q:VK}(h:tE E (λenv=>(f env).bind λp=>(g env).bind λq=>op p q) σ H Q)
  (k:∀ Hs H1 p q v u,bw Hs H1->Rep Hs p v->Rep Hs q u->az (op p q) (λz=>∀ w Oa H',bL Hs H1 Oa H'->Rep Oa z w->Q w H') (XW (E σ) Hs H1)->r v u H1 Q):Kc r (tE E f) (tE E g) σ H Q:=by
 refine yw h λB H₀ Hs H1 env p v sr rp hp=>?_;refine⟨B,H₀,Hs,env,sr,(az.bind hp).imp (λq hq u Oa H' g ru=>?_) λe he=>he⟩;exact k Oa H' p q v u (sr.grow g).gr.sub (rp.mono g.st) ru (hq.imp (λz hz w Oj H2 g2 r2=>hz w Oj H2 (g.trans g2) r2) λe he=>he.grow g)
theorem Ko{f:af->M PV}{op:PV->M PV}{r:V->Hp->VK->Prop}{Q:VK}(h:tE E (λenv=>(f env).bind op) σ H Q)
  (k:∀ Hs H1 p v,bw Hs H1->Rep Hs p v->az (op p) (λz=>∀ w Oa H',bL Hs H1 Oa H'->Rep Oa z w->Q w H') (XW (E σ) Hs H1)->r v H1 Q):Nt r (tE E f) σ H Q :=
 yw h λB H₀ Hs H1 env p v sr rp hp=>k Hs H1 p v sr.gr.sub rp hp
def JI(sp:Sp)(OZ:List V)(E:St->XK)(t:TA):TE:=fun σ H Q=>t σ H λvs H1=>sp (vs++OZ) H1 Q (E σ)
def BR(C:Addr)(m:Str)(sp:Sp)(OZ:List V)(E:St->XK)(ta:TE)(t:TA):TE:=fun σ H Q=>ta σ H λx H1=>∃ a dx fs,x=.ref a/\H1 a=some (.ins C dx fs)/\fs.lookup m=none ∧
 t σ H1 λvs H2=>sp (x::(vs++OZ)) H2 Q (E σ)
def Gz(C:Addr)(sp:Sp)(OZ:List V)(E:St->XK)(t:TA):TE:=fun σ H Q=>t σ H λvs H1=>∀ x dx,H1 x=none->H1 dx=none->dx≠x ->
 sp (.ref x::(vs++OZ)) (upd (upd H1 dx (.own x)) x (.ins C dx [])) (λv H2=>v=.cJ/\Q (.ref x) H2) (E σ)
variable{OZ:List V}
variable{vs:List V}{us:List Value}
variable{pl:Sem Bool}
section
variable{p pos:Pos}
theorem t4{Q:VK}(F:aY X.prog X.w X.K X.mg X.base (bW X.prog X.w) k f fd ps sp)(hr:cA k X.A)(hb:Binds X.K fd ps ds)(hd:Vals OZ ds)(hx:fc X E)
  (I:Inv X N5 σ H s) (r:Vals vs us) (h:sp (vs++OZ) H Q (E σ)):wpAny (model X.prog X.w) X.A (call (.ref f) us) (EP X N5 σ Q) X.xe s:=by
 have r2:Vals (vs++OZ) (us++ds):=r.append hd;have hl:(us++ds).length=ps.length:=by rw[<- r2.length];exact F.len _ _ _ _ h
 refine XQ (Xx (F.run X.A X.stack s H ⟨us,[]⟩ (us++ds) (vs++OZ) Q (E σ) hr I.kP (hb s us I.jK hl) r2 h) λr s' hq=>?_);cases r with
 | error e=>exact hx.pass N5 σ H s e s' I hq
 | ok fl =>
  cases fl with
  | ret u=>exact I.after hq
  | next=>exact U8 hq
  | brk=>exact U8 hq
  | cont=>exact U8 hq
theorem CF(F:aY X.prog X.w X.K X.mg X.base (bW X.prog X.w) k f fd ps sp)(hr:cA k X.A)(hg:Gl X x)(hm:X.mg x=some (.ref f))(hk:PySem.W.keepIn X.K (.ref f)=true)(hb:Binds X.K fd ps ds)(hd:Vals OZ ds)(hx:fc X E)
  (ha:PA X (e::es) t) (Pa:autoParam ((x==("__debug__" : Str))=false) aD._auto_1) (he:autoParam (starEach (e::es) X.env=(false,eval e X.env)::starEach es X.env) aR._auto_1) (OH:autoParam ((backTo pos (starEach es X.env)).any (·.1)=false) aR._auto_1) :
  PE X (.Call (.Name x p) (e::es) [] pos) (JI sp OZ E t):=by
 intro N5 s σ H Q I h;refine VE (ju I hg hm ?_ Pa);refine PySem.W.callWith_K (h₀:=X.base) I.ok.mod.Gb hk (cX (ha pos N5 s σ H _ I h) λus s1 ⟨vs,H1,I1,r,q⟩=>⟨I1.jK,?_⟩) he OH;exact t4 F hr hb hd hx I1 r q
theorem AV(he:PE X o ta)(c:ma X.K C)(hm:Meth X.K C m f)(F:aY X.prog X.w X.K X.mg X.base (bW X.prog X.w) k f fd ps sp)(hr:cA k X.A)(hb:Binds X.K fd ps ds)(hd:Vals OZ ds)(hx:fc X E)(ha:PA X (e::es) t)
  (Oz:autoParam (starEach (e::es) X.env=(false,eval e X.env)::starEach es X.env) aR._auto_1) (OH:autoParam ((backTo pos (starEach es X.env)).any (·.1)=false) aR._auto_1)
  (ht:autoParam (eval (.Call (.Attribute o m apos) (e::es) [] pos) X.env=(do
   let ov <- eval o X.env
   standAt apos.atName
   let (f,first) <- holding [ov] (getMethod ov m pl)
   callWith pos f first (backTo pos (starEach (e::es) X.env)) (backToKw pos (keywordEach [] X.env)))) aR._auto_1) :
  PE X (.Call (.Attribute o m apos) (e::es) [] pos) (BR C m sp OZ E ta t):=by
 intro N5 s σ H Q I h;refine PySem.W.methodCall_KW (pl:=pl) (cX (he N5 s σ H _ I h) λu s1 ⟨x,H1,I1,rx,a,dx,fs,ex,ea,l,q⟩=>?_) ht;subst ex;obtain rfl:u=Td a:=rx;refine qq I1 ea c hm l ?_;refine PySem.W.callWith_K (first:=[.ref a]) (h₀:=X.base) I.ok.mod.Gb hm.kp (cX (ha pos N5 s1 σ H1 _ I1 q) λus s2 ⟨vs,H2,I2,r,q2⟩=>⟨I2.jK,?_⟩) Oz OH;exact t4 (us:=.ref a::us) (vs:=.ref a::vs) F hr hb hd hx I2 (.cons rfl r) q2
theorem Af(he:PE X o ta)(c:ma X.K C)(hm:Meth X.K C m f)(F:aY X.prog X.w X.K X.mg X.base (bW X.prog X.w) k f fd ps sp)(hr:cA k X.A)(hb:Binds X.K fd ps ds)(hd:Vals OZ ds)(hx:fc X E)
  (ht:autoParam (eval (.Call (.Attribute o m apos) [] [] pos) X.env=(do
   let ov <- eval o X.env
   standAt apos.atName
   let (f,first) <- holding [ov] (getMethod ov m pl)
   callWith pos f first (backTo pos (starEach [] X.env)) (backToKw pos (keywordEach [] X.env)))) aR._auto_1) :
  PE X (.Call (.Attribute o m apos) [] [] pos) (BR C m sp OZ E ta Kq):=by
 intro N5 s σ H Q I h;refine PySem.W.methodCall_KW (pl:=pl) (cX (he N5 s σ H _ I h) λu s1 ⟨x,H1,I1,rx,a,dx,fs,ex,ea,l,q⟩=>?_) ht;subst ex;obtain rfl:u=Td a:=rx;refine qq I1 ea c hm l ?_;exact PySem.W.callWith_K0 (first:=[.ref a]) I1.jK hm.kp (t4 (us:=[.ref a]) (vs:=[.ref a]) F hr hb hd hx I1 (.cons rfl .nil) q)
theorem yY{Q:VK}(M:Mk X.K C f)(F:aY X.prog X.w X.K X.mg X.base (bW X.prog X.w) k f fd ps sp)(hr:cA (k+1) X.A)(hb:Binds X.K fd ps ds)(hd:Vals OZ ds)
  (hx:fc X E) (I:Inv X N5 σ H s) (r:Vals vs us)
  (h:∀ x dx,H x=none->H dx=none->dx≠x->sp (.ref x::(vs++OZ)) (upd (upd H dx (.own x)) x (.ins C dx [])) (λv H2=>v=.cJ/\Q (.ref x) H2) (E σ)) :
  wpAny (model X.prog X.w) X.A (call (.ref C) us) (EP X N5 σ Q) X.xe s:=by
 have hq:=h (s.heap.objs.size+1) s.heap.objs.size (I.bB.fresh (Wh _)) (I.bB.fresh (SX _)) (Tu (Ve _));have I2:=Inv.made (C:=C) I;have r2:Vals (V.ref (s.heap.objs.size+1)::(vs++OZ)) (Td (s.heap.objs.size+1)::(us++ds)):=.cons rfl (r.append hd);have hl:(Td (s.heap.objs.size+1)::us++ds).length=ps.length:=by
  have e:=r2.length;rw[F.len _ _ _ _ hq] at e;exact e.symm
 refine XQ (Ck (f:=f) I.jK M.makes M.init (beq_iff_eq.mp M.fn) (Xx (F.run _ X.stack _ _ ⟨Td (s.heap.objs.size+1)::us,[]⟩ (Td (s.heap.objs.size+1)::(us++ds)) _ _ (E σ) (hr.make C us [])
  (I2.kP.make C us []) (hb _ (Td (s.heap.objs.size+1)::us) I2.jK hl) r2 hq) λr s' Qr=>?_))
 cases r with
 | error e=>exact hx.pass N5 σ _ _ e s' I2 Qr
 | ok fl =>
  cases fl with
  | ret u =>
   obtain⟨v,H',I3,rv,ev,q3⟩:=I2.after Qr;subst ev;exact⟨rv,⟨V.ref (s.heap.objs.size+1),H',I3,rfl,q3⟩⟩
  | next=>exact U8 Qr
  | brk=>exact U8 Qr
  | cont=>exact U8 Qr
theorem A0(M:Mk X.K C f)(F:aY X.prog X.w X.K X.mg X.base (bW X.prog X.w) k f fd ps sp)(hr:cA (k+1) X.A)(hg:Gl X x)(hm:X.mg x=some (.ref C))(hb:Binds X.K fd ps ds)(hd:Vals OZ ds)(hx:fc X E)
  (ha:PA X (e::es) t) (Pa:autoParam ((x==("__debug__" : Str))=false) aD._auto_1) (he:autoParam (starEach (e::es) X.env=(false,eval e X.env)::starEach es X.env) aR._auto_1) (OH:autoParam ((backTo pos (starEach es X.env)).any (·.1)=false) aR._auto_1) :
  PE X (.Call (.Name x p) (e::es) [] pos) (Gz C sp OZ E t):=by
 intro N5 s σ H Q I h;refine VE (ju I hg hm ?_ Pa);refine PySem.W.callWith_K (h₀:=X.base) I.ok.mod.Gb M.kp (cX (ha pos N5 s σ H _ I h) λus s1 ⟨vs,H1,I1,r,q⟩=>⟨I1.jK,?_⟩) he OH;exact yY M F hr hb hd hx I1 r q
end
abbrev eD(Hs H:Hp)(Q:VK):PV->Prop:=λz=>∀ w Oa H',bL Hs H Oa H'->Rep Oa z w->Q w H'
variable{p:PV}
theorem eD.flat{Q:VK}(h:eD Hs H Q p)(s:bw Hs H)(r:Rep Hs p v):Q v H:=h v Hs H (.refl s) r
theorem eD.tup{Hs H:Hp}{Q:VK}{xs:List PV}{vs:List V}(h:eD Hs H Q (.tup xs))(s:bw Hs H)(r:aP Hs xs vs):∀ p,H p=none->Q (.ref p) (upd H p (.tup vs)) :=
 λp n=>h _ (upd Hs p (.tup vs)) _ (bL.new s n) (.tup aE (r.mono (bL.new s n).st))
theorem eD.lst{Hs H:Hp}{Q:VK}{xs:List PV}{vs:List V}(h:eD Hs H Q (.lst xs))(s:bw Hs H)(r:aP Hs xs vs):∀ p,H p=none->Q (.ref p) (upd H p (.lst vs)) :=
 λp n=>h _ (upd Hs p (.lst vs)) _ (bL.new s n) (.lst aE (r.mono (bL.new s n).st))
namespace HT
theorem Ar{prog:Program}{w:World}{A:Around}{E:Value->Shared->Prop}{s:Shared}{t b:Addr}{ws:List Value}{Q:Value->Shared->Prop}(ht:IsTup s.heap t #[])(hb:IsTup s.heap b ws.toArray)
  (h1:Q (.ref b) s):wpAny (model prog w) A (binaryOp .Add (.ref t) (.ref b)) Q E s:=by
 obtain⟨⟨cls,dd,data,sl⟩,ho,hc,n,hd⟩:=id ht;obtain⟨⟨R3,Rn,data2,RG⟩,Qn,QN,n2,hd2⟩:=id hb;simp only at hc hd QN hd2;subst hc hd QN hd2;exact ZC ⟨_,ho,rfl⟩ ⟨_,Qn,rfl⟩ Yc Zd PySem.F.slot_tuple_add PySem.F.entry_tuple_add (PySem.F.args_tuple_add_2 _ _)
   (tuple_addW0 t b #[] ws.toArray n n2 dd Rn sl RG rfl) ⟨ho,Qn,h1⟩
end HT
def Cg(K:PySem.W.Frag):R2:=λx y H Q=>∃ a b ys,x=.ref a/\y=.ref b/\gi K H a []/\gi K H b ys/\Q (.ref b) H
theorem CG:hV X (binaryOp .Add) (Cg X.K):=by
 intro N5 s σ H x y v u Q I rx ry h;obtain⟨a,b,ys,rfl,rfl,ha,hb,q1⟩:=h;cases rx;cases ry;obtain⟨N9,r1,p1,_⟩:=I.tuple ha;obtain⟨OV,r2,p2,_⟩:=I.tuple hb;have e:N9=[]:=r1.lW.mpr rfl;subst e;exact HT.Ar p1 p2 ⟨.ref b,H,I,rfl,q1⟩
def cM(c:Prop)[Decidable c](x:M α):M α:=if c then x else none
theorem az.cM{α:Type}{c:Prop}[Decidable c]{x:M α}{Q:α->Prop}{E:EX->Prop}(h:az (L2.cM c x) Q E):c/\az x Q E:=by
 unfold L2.cM at h
 by_cases hc:c
 .rw[if_pos hc] at h;exact⟨hc,h⟩
 .rw[if_neg hc] at h;exact h.elim
def eZ(o:Option PV):M PV:=match o with
 | some x=>M.ok x
 | none=>none
theorem az.opt{o:Option PV}{Q:PV->Prop}{E:EX->Prop}(h:az (eZ o) Q E):∃ x,o=some x/\Q x:=by
 cases o with
 | none=>exact h.elim
 | some x=>exact⟨x,rfl,h⟩
variable{j:Nat}
variable{op:CmpOp}
section
variable{a b:Expr}{pos:Pos}{f g h:af->M PV}
def aa(i:Nat)(env:af):M PV:=match env[i]? with
 | some (some (.sh p))=>M.ok p
 | _=>none
theorem Hz(hN:X.N[i]?=some x)(hv:BQ X.env.scope x)(hd:autoParam ((x==("__debug__" : Str))=false) aD._auto_1)(Pc:autoParam ((x==("__classdict__" : Str))=false) aD._auto_1):PE X (.Name x pos) (tE E (aa i)):=by
 refine(kZ hN hv hd Pc).imp fun σ H Q q=>?_;obtain⟨B,H₀,Hs,env,sr,q⟩:=q;unfold aa at q
 split at q
 .rename_i p e;obtain⟨v,h1,h2⟩:=sr.sh i p e;exact⟨v,h1,eD.flat q sr.gr.sub h2⟩
 .exact q.elim
theorem lC(he:PE X e (tC v))(r:∀ H,Rep H p v):PE X e (tE E λ_=>M.ok p):=by
 refine he.imp fun σ H Q q=>?_;obtain⟨B,H₀,Hs,env,sr,q⟩:=q;exact eD.flat q sr.gr.sub (r Hs)
theorem CU{i:Int}:PE X (.Constant (.int i) j pos) (tE E λ_=>M.ok (.int i)):=lC G2 λ_=>.int i
theorem JZ{i:Bool}:PE X (.Constant (.bool i) j pos) (tE E λ_=>M.ok (.bl i)):=lC Ln λ_=>.bl i
theorem Hy:PE X (.Constant .none j pos) (tE E λ_=>M.ok .cJ):=lC IM λ_=>.cJ
theorem HX{i:Str}:PE X (.Constant (.str i) j pos) (tE E λ_=>M.ok (.str i)):=lC G9 λ_=>.str i
def aj(op:PV->PV->M PV)(f g:af->M PV):af->M PV:=λenv=>(f env).bind λp=>(g env).bind λq=>op p q
def mB(E:St->XK)(r:R2)(op:PV->PV->M PV):Prop:=∀ (σ:St) (Hs H:Hp) (p q:PV) (v u:V) (Q:VK),bw Hs H->Rep Hs p v->Rep Hs q u->az (op p q) (eD Hs H Q) (XW (E σ) Hs H)->r v u H Q
theorem pL{op:Operator}{r:R2}{o:PV->PV->M PV}(ho:hV X (binaryOp op) r)(hv:mB E r o)(ha:PE X a (tE E f))(hb:PE X b (tE E g)):PE X (.BinOp a op b pos) (tE E (aj o f g)) :=
 (Gu ho ha hb).imp fun σ H Q q=>yn q λHs H1 p q v u s rp rq h=>hv σ Hs H1 p q v u Q s rp rq h
theorem jY{r:R2}{o:PV->PV->M PV}(ho:hV X (compareOp op) r)(hv:mB E r o)(ha:PE X a (tE E f))(hb:PE X b (tE E g))(hm:behindInMarks op b=false):PE X (.Compare a [op] [b] pos) (tE E (aj o f g)) :=
 (E4 ho ha hb hm).imp fun σ H Q q=>yn q λHs H1 p q v u s rp rq h=>hv σ Hs H1 p q v u Q s rp rq h
def fW:PV->PV->M PV
 | .int i,.int j=>M.ok (.int (i+j))
 | .str x,.str y=>cM (x.length+y.length<=sizeLine) (M.ok (.str (x++y)))
 | .tup xs,.tup ys=>cM (xs.length+ys.length<=sizeLine) (M.ok (.tup (xs++ys)))
 | .lst xs,.lst ys=>cM (xs.length+ys.length<=sizeLine) (M.ok (.lst (xs++ys)))
 | _,_=>none
def F2(K:PySem.W.Frag):R2:=λx y H Q=>(∃ i j,x=.int i/\y=.int j/\Q (.int (i+j)) H)\/(∃ i j,x=.str i/\y=.str j/\i.length+j.length<=sizeLine/\Q (.str (i++j)) H)\/FY K x y H Q\/K1 x y H Q\/Cg K x y H Q
theorem Ee:hV X (binaryOp .Add) (F2 X.K):=hV.or I_ (hV.or wt (hV.or Er (hV.or GX CG)))
theorem Hl{K:PySem.W.Frag}:mB E (F2 K) fW:=by
 intro σ Hs H p q v u Q s rp rq h;cases rp with
 | int i=>cases rq with
  | int j=>exact .inl ⟨i,j,rfl,rfl,eD.flat h s (.int _)⟩
  | _=>exact h.elim
 | str i=>cases rq with
  | str j =>
   obtain⟨hz,h⟩:=az.cM h;exact .inr (.inl ⟨i,j,rfl,rfl,hz,eD.flat h s (.str _)⟩)
  | _=>exact h.elim
 | @tup a xs vs ha hx=>cases rq with
  | @tup b ys us hb hy =>
   obtain⟨hz,h⟩:=az.cM h;cases hx with
   | nil=>exact .inr (.inr (.inr (.inr ⟨a,b,us,rfl,rfl,gi.of (s _ _ ha),gi.of (s _ _ hb),eD.flat h s (.tup hb hy)⟩)))
   | cons RE Pz =>
    have hx:=aP.cons RE Pz;refine .inr (.inr (.inl ⟨a,b,_,us,rfl,rfl,gi.of (s _ _ ha),gi.of (s _ _ hb),(λz=>nomatch z),by rw[<- hx.length,<- hy.length];exact hz,λz=>?_,λz=>eD.tup h s (hx.append hy)⟩));have e:ys=[]:=by cases hy with | nil=>rfl | cons _ _=>cases z
    subst e;rw[Ul] at h;exact eD.flat h s (.tup ha hx)
  | _=>exact h.elim
 | @lst a xs vs ha hx=>cases rq with
  | @lst b ys us hb hy =>
   obtain⟨hz,h⟩:=az.cM h;exact .inr (.inr (.inr (.inl ⟨a,b,vs,us,rfl,rfl,s _ _ ha,s _ _ hb,by rw[<- hx.length,<- hy.length];exact hz,eD.lst h s (hx.append hy)⟩)))
  | _=>exact h.elim
 | _=>exact h.elim
def BL(c:Int->Int->Bool)(o:Int->Int->Int):PV->PV->M PV
 | .int i,.int j=>cM (c i j=true) (M.ok (.int (o i j)))
 | _,_=>none
theorem BF{C:Int->Int->Prop}{c:Int->Int->Bool}{o:Int->Int->Int}(hc:∀ i j,c i j=true->C i j):mB E (rI C λi j=>.int (o i j)) (BL c o):=by
 intro σ Hs H p q v u Q s rp rq h;cases rp with
 | int i=>cases rq with
  | int j =>
   obtain⟨hz,h⟩:=az.cM h;exact⟨i,j,rfl,rfl,hc i j hz,eD.flat h s (.int _)⟩
  | _=>exact h.elim
 | _=>exact h.elim
def nV:PV->PV->M PV
 | .int i,.int j=>M.ok (.int (i-j))
 | _,_=>none
theorem GU:mB E (yc λi j=>.int (i-j)) nV:=by
 intro σ Hs H p q v u Q s rp rq h;cases rp with
 | int i=>cases rq with
  | int j=>exact⟨i,j,rfl,rfl,eD.flat h s (.int _)⟩
  | _=>exact h.elim
 | _=>exact h.elim
def Dq(o:Int->Int->Bool):PV->PV->M PV
 | .int i,.int j=>M.ok (.bl (o i j))
 | _,_=>none
theorem ub{o:Int->Int->Bool}:mB E (yc λi j=>.bl (o i j)) (Dq o):=by
 intro σ Hs H p q v u Q s rp rq h;cases rp with
 | int i=>cases rq with
  | int j=>exact⟨i,j,rfl,rfl,eD.flat h s (.bl _)⟩
  | _=>exact h.elim
 | _=>exact h.elim
def aS:PV->PV->M PV
 | .tup xs,.int i=>eZ (sN xs i)
 | .lst xs,.int i=>eZ (sN xs i)
 | .jV xs,.int i=>eZ (sN xs i)
 | .str z,.int i=>cM (z.length<=sizeLine) (eZ ((sN z.cps.toList i).map λc=>.str ⟨#[c]⟩))
 | _,_=>none
theorem aP.sN{H:Hp}{xs:List PV}{vs:List V}{i:Int}{x:PV}(r:aP H xs vs)(e:L2.sN xs i=some x):∃ v,L2.sN vs i=some v/\Rep H x v:=by
 unfold L2.sN at e ⊢;rw[<- r.length];obtain⟨j,h1,h2⟩:=WJ.mp e;obtain⟨v,h3,h4⟩:=r.get h2;exact⟨v,by rw[h1];exact h3,h4⟩
theorem Hq{K:PySem.W.Frag}:mB E (Nu K) aS:=by
 intro σ Hs H p q v u Q s rp rq h;cases rp with
 | @tup a xs vs ha hx=>cases rq with
  | int i =>
   obtain⟨x,ex,h⟩:=az.opt h;obtain⟨v,h1,h2⟩:=hx.sN ex;exact .inr (.inl ⟨a,vs,i,v,rfl,rfl,gi.of (s _ _ ha),h1,eD.flat h s h2⟩)
  | _=>exact h.elim
 | @lst a xs vs ha hx=>cases rq with
  | int i =>
   obtain⟨x,ex,h⟩:=az.opt h;obtain⟨v,h1,h2⟩:=hx.sN ex;exact .inl ⟨a,vs,i,v,rfl,rfl,iB.of (s _ _ ha),h1,eD.flat h s h2⟩
  | _=>exact h.elim
 | @jV a o xs vs ha hx=>cases rq with
  | int i =>
   obtain⟨x,ex,h⟩:=az.opt h;obtain⟨v,h1,h2⟩:=hx.sN ex;exact .inl ⟨a,vs,i,v,rfl,rfl,.inl (.inr ⟨o,s _ _ ha⟩),h1,eD.flat h s h2⟩
  | _=>exact h.elim
 | str z=>cases rq with
  | int i =>
   obtain⟨hz,h⟩:=az.cM h;obtain⟨x,ex,h⟩:=az.opt h;obtain⟨c,ec,rfl⟩:=Tv.mp ex;exact .inr (.inr ⟨z,i,c,rfl,rfl,hz,ec,eD.flat h s (.str _)⟩)
  | _=>exact h.elim
 | _=>exact h.elim
theorem IE(ha:PE X a (tE E f))(hb:PE X b (tE E g))(hs:uG b):PE X (.Subscript a b pos) (tE E (aj aS f g)) :=
 (Kg IP ha hb hs).imp fun σ H Q q=>yn q λHs H1 p q v u s rp rq h=>Hq σ Hs H1 p q v u Q s rp rq h
end
def tG(E:St->XK)(f:af->M α)(K:Hp->Hp->α->Prop):St->Hp->Prop:=fun σ H=>∃ B H₀ Hs env,SR B H₀ Hs H σ env/\az (f env) (K Hs H) (XW (E σ) Hs H)
def KG(K:Hp->Hp->α->Prop):Prop:=∀ Hs H Oa H' b,K Hs H b->bL Hs H Oa H'->K Oa H' b
abbrev KB(Q:Bool->Hp->Prop):Hp->Hp->Bool->Prop:=λHs H k=>∀ Oa H',bL Hs H Oa H'->Q k H'
abbrev kB(Q:VK):Hp->Hp->PV->Prop:=λHs H p=>eD Hs H Q p
abbrev KL(Q:List V->Hp->Prop):Hp->Hp->List PV->Prop:=λHs H ps=>∀ vs Oa H',bL Hs H Oa H'->aP Oa ps vs->Q vs H'
theorem KB.g{Q:Bool->Hp->Prop}:KG (KB Q):=λHs H Oa H' b k g Oj H2 g2=>k Oj H2 (g.trans g2)
theorem kB.g{Q:VK}:KG (kB Q):=λHs H Oa H' b k g w Oj H2 g2 r=>k w Oj H2 (g.trans g2) r
theorem KL.g{Q:List V->Hp->Prop}:KG (KL Q):=λHs H Oa H' b k g w Oj H2 g2 r=>k w Oj H2 (g.trans g2) r
def tT(E:St->XK)(f:af->M Bool):TT:=fun σ H Q=>tG E f (KB Q) σ H
def tL(E:St->XK)(f:af->M (List PV)):TA:=fun σ H Q=>tG E f (KL Q) σ H
theorem PT.imp{t t':TT}(h:PT X e t)(i:∀ σ H Q,t' σ H Q->t σ H Q):PT X e t':=λN5 s σ H Q I q=>h N5 s σ H Q I (i σ H Q q)
theorem PW.imp{t t':TT}(h:PW X e t)(i:∀ σ H Q,t' σ H Q->t σ H Q):PW X e t':=λw N5 s σ H Q I q=>h w N5 s σ H Q I (i σ H Q q)
theorem PA.imp{e:List Expr}{t':TA}(h:PA X e t)(i:∀ σ H Q,t' σ H Q->t σ H Q):PA X e t':=λw N5 s σ H Q I q=>h w N5 s σ H Q I (i σ H Q q)
section
variable{β:Type}{K:Hp->Hp->β->Prop}
theorem cu{f:af->M PV}{g:af->PV->M β}{R:VK}(kg:KG K)(h:tG E (λenv=>(f env).bind (g env)) K σ H)
  (k:∀ B H₀ Hs H1 env p v,SR B H₀ Hs H1 σ env->Rep Hs p v->az (g env p) (K Hs H1) (XW (E σ) Hs H1)->R v H1):tE E f σ H R:=by
 obtain⟨B,H₀,Hs,env,sr,h⟩:=h;refine⟨B,H₀,Hs,env,sr,(az.bind h).imp (λp hp v Oa H' g r=>?_) λe he=>he⟩;exact k B H₀ Oa H' env p v (sr.grow g) r (hp.imp (λq hq=>kg _ _ _ _ q hq g) λe he=>he.grow g)
theorem oZ{f:af->M Bool}{g:af->Bool->M β}{R:Bool->Hp->Prop}(kg:KG K)(h:tG E (λenv=>(f env).bind (g env)) K σ H)
  (k:∀ B H₀ Hs H1 env p,SR B H₀ Hs H1 σ env->az (g env p) (K Hs H1) (XW (E σ) Hs H1)->R p H1):tT E f σ H R:=by
 obtain⟨B,H₀,Hs,env,sr,h⟩:=h;refine⟨B,H₀,Hs,env,sr,(az.bind h).imp (λp hp Oa H' g=>?_) λe he=>he⟩;exact k B H₀ Oa H' env p (sr.grow g) (hp.imp (λq hq=>kg _ _ _ _ q hq g) λe he=>he.grow g)
theorem du{f:af->M (List PV)}{g:af->List PV->M β}{R:List V->Hp->Prop}(kg:KG K)(h:tG E (λenv=>(f env).bind (g env)) K σ H)
  (k:∀ B H₀ Hs H1 env p v,SR B H₀ Hs H1 σ env->aP Hs p v->az (g env p) (K Hs H1) (XW (E σ) Hs H1)->R v H1):tL E f σ H R:=by
 obtain⟨B,H₀,Hs,env,sr,h⟩:=h;refine⟨B,H₀,Hs,env,sr,(az.bind h).imp (λp hp v Oa H' g r=>?_) λe he=>he⟩;exact k B H₀ Oa H' env p v (sr.grow g) r (hp.imp (λq hq=>kg _ _ _ _ q hq g) λe he=>he.grow g)
end
def xw:PV->M Bool
 | .bl b=>M.ok b
 | _=>none
def eX(f:af->M PV):af->M Bool:=λenv=>(f env).bind xw
theorem az.LQ{Q:Bool->Prop}{E:EX->Prop}(h:az (xw p) Q E):∃ b,p=.bl b/\Q b:=by
 cases p with
 | bl b=>exact⟨b,rfl,h⟩
 | _=>exact h.elim
variable{r:List V->Hp->VK->Prop}
section
variable{a b:Expr}{pos:Pos}{f g h:af->M PV}{u v:af->M Bool}{rest:List Expr}
theorem v8{Q:Bool->Hp->Prop}(q:tT E (eX f) σ H Q):tB (tE E f) σ H Q:=by
 refine cu KB.g q λB H₀ Hs H1 env p v sr rp hp=>?_;obtain⟨k,rfl,hp⟩:=az.LQ hp;cases rp;exact⟨k,rfl,hp Hs H1 (.refl sr.gr.sub)⟩
theorem t8(he:PE X e (tE E f))(hw:autoParam (∀ whole,isTrue e X.env whole=(do let v <- whole;standAt e.pos;holding [v] (truthy v))) aI._auto_1):PT X e (tT E (eX f)) :=
 (Jx he hw).imp fun σ H Q q=>v8 q
theorem i9{r:R2}{o:PV->PV->M PV}(ho:hV X (compareOp op) r)(hv:mB E r o)(ha:PE X a (tE E f))(hb:PE X b (tE E g))(hm:behindInMarks op b=false):PT X (.Compare a [op] [b] pos) (tT E (eX (aj o f g))):=by
 refine(FF ho ha hb hm).imp fun σ H Q q=>?_;have q':=v8 q;exact yn q' λHs H1 p q v u s rp rq h=>hv σ Hs H1 p q v u _ s rp rq h
def lq(u:af->M Bool):af->M Bool:=λenv=>(u env).bind λb=>M.ok (!b)
def Nf(u v:af->M Bool):af->M Bool:=λenv=>(u env).bind λb=>if b=true then v env else M.ok false
def IL(u v:af->M Bool):af->M Bool:=λenv=>(u env).bind λb=>if b=true then M.ok true else v env
theorem Jr(ha:PT X a (tT E u)):PT X (.UnaryOp .Not a pos) (tT E (lq u)) :=
 (HE ha).imp fun σ H Q q=>oZ KB.g q λB H₀ Hs H1 env p sr hp=>hp Hs H1 (.refl sr.gr.sub)
theorem qi(ha:PT X a (tT E u)):PW X (.BoolOp .Or [a] pos) (tT E u):=pw_or1 ha
theorem vo(ha:PT X a (tT E u))(hb:PW X (.BoolOp .Or (b::rest) pos) (tT E v)):PW X (.BoolOp .Or (a::b::rest) pos) (tT E (IL u v)):=by
 refine(pw_or ha hb).imp fun σ H Q q=>oZ KB.g q λB H₀ Hs H1 env p sr hp=>?_;cases p with
 | true=>exact hp Hs H1 (.refl sr.gr.sub)
 | false=>exact⟨B,H₀,Hs,env,sr,hp⟩
def Jp(f:af->M PV):af->M PV:=λenv=>(f env).bind λp=>(xw p).bind λb=>M.ok (.bl (!b))
def Ek(f g:af->M PV):af->M PV:=λenv=>(f env).bind λp=>(xw p).bind λb=>if b=true then g env else M.ok (.bl false)
def NV(f g:af->M PV):af->M PV:=λenv=>(f env).bind λp=>(xw p).bind λb=>if b=true then M.ok (.bl true) else g env
theorem H0(ha:PE X a (tE E f)):PE X (.UnaryOp .Not a pos) (tE E (Jp f)):=by
 refine(Jb ha).imp fun σ H Q q=>cu (K:=kB Q) kB.g q λB H₀ Hs H1 env p v sr rp hp=>?_;obtain⟨k,rfl,hp⟩:=az.LQ (az.bind hp);cases rp;exact⟨k,rfl,eD.flat hp sr.gr.sub (.bl _)⟩
theorem CD(ha:PE X a (tE E f))(hb:PE X (.BoolOp .And (b::rest) pos) (tE E g)):PE X (.BoolOp .And (a::b::rest) pos) (tE E (Ek f g)):=by
 refine(Jq ha hb).imp fun σ H Q q=>cu (K:=kB Q) kB.g q λB H₀ Hs H1 env p v sr rp hp=>?_;obtain⟨k,rfl,hp⟩:=az.LQ (az.bind hp);cases rp;refine⟨k,rfl,?_⟩;cases k with
 | true=>exact⟨B,H₀,Hs,env,sr,hp⟩
 | false=>exact eD.flat hp sr.gr.sub (.bl _)
def zK(u:af->M Bool)(f g:af->M PV):af->M PV:=λenv=>(u env).bind λb=>if b=true then f env else g env
theorem HB(hc:PT X c (tT E u))(ha:PE X a (tE E f))(hb:PE X b (tE E g)):PE X (.IfExp c a b pos) (tE E (zK u f g)):=by
 refine(BB hc ha hb).imp fun σ H Q q=>oZ (K:=kB Q) kB.g q λB H₀ Hs H1 env p sr hp=>?_;cases p with
 | true=>exact⟨B,H₀,Hs,env,sr,hp⟩
 | false=>exact⟨B,H₀,Hs,env,sr,hp⟩
def ak:af->M (List PV):=λ_=>M.ok []
def ae(f:af->M PV)(fs:af->M (List PV)):af->M (List PV):=λenv=>(f env).bind λp=>(fs env).bind λps=>M.ok (p::ps)
variable{fs:af->M (List PV)}
theorem AD:PA X [] (tL E ak):=by
 refine kW.imp fun σ H Q q=>?_;obtain⟨B,H₀,Hs,env,sr,q⟩:=q;exact q [] Hs H (.refl sr.gr.sub) .nil
theorem xG(ha:PE X e (tE E f))(hr:PA X es (tL E fs))(hs:autoParam (starEach (e::es) X.env=(false,eval e X.env)::starEach es X.env) aR._auto_1):PA X (e::es) (tL E (ae f fs)):=by
 refine(fI ha hr hs).imp fun σ H Q q=>cu (K:=KL Q) KL.g q λB H₀ Hs H1 env p v sr rp hp=>?_;refine⟨B,H₀,Hs,env,sr,(az.bind hp).imp (λps Su vs Oa H' g r=>?_) λe he=>he⟩;exact Su (v::vs) Oa H' g (.cons (rp.mono g.st) r)
def k4(fs:af->M (List PV)):af->M PV:=λenv=>(fs env).bind λps=>cM (ps.length<=sizeLine) (M.ok (.tup ps))
def sY(fs:af->M (List PV)):af->M PV:=λenv=>(fs env).bind λps=>cM (ps.length<=sizeLine) (M.ok (.lst ps))
theorem JD(hr:PA X es (tL E fs)):PE X (.Tuple es x1 pos) (tE E (k4 fs)):=by
 refine(AW hr).imp fun σ H Q q=>du (K:=kB Q) kB.g q λB H₀ Hs H1 env p v sr rp hp=>?_;obtain⟨hz,hp⟩:=az.cM hp;exact⟨by rw[<- rp.length];exact hz,eD.tup hp sr.gr.sub rp⟩
theorem CI(hr:PA X es (tL E fs)):PE X (.List es pos) (tE E (sY fs)):=by
 refine(C_ hr).imp fun σ H Q q=>du (K:=kB Q) kB.g q λB H₀ Hs H1 env p v sr rp hp=>?_;obtain⟨hz,hp⟩:=az.cM hp;exact⟨by rw[<- rp.length];exact hz,eD.lst hp sr.gr.sub rp⟩
def ai(o:List PV->M PV)(fs:af->M (List PV)):af->M PV:=λenv=>(fs env).bind o
def kM(E:St->XK)(r:List V->Hp->VK->Prop)(o:List PV->M PV):Prop:=∀ (σ:St) (Hs H:Hp) (ps:List PV) (vs:List V) (Q:VK),bw Hs H->aP Hs ps vs->az (o ps) (eD Hs H Q) (XW (E σ) Hs H)->r vs H Q
theorem A4{o:List PV->M PV}{Q:VK}(hv:kM E r o)(q:tE E (ai o fs) σ H Q):MF r (tL E fs) σ H Q :=
 du (K:=kB Q) kB.g q λB H₀ Hs H1 env p v sr rp hp=>hv σ Hs H1 p v Q sr.gr.sub rp hp
variable{p:Pos}{id T:String}
theorem jW{o:List PV->M PV}(hc:dw X (.builtin id) r)(hv:kM E r o)(hg:Gl X x)(hm:X.mg x=none)(hx:bootBuiltins x=some (.builtin id))(ha:PA X (e::es) (tL E fs))(hn:autoParam (x ≠ "__name__") aD._auto_1)(Pa:autoParam ((x==("__debug__" : Str))=false) aD._auto_1)
  (he:autoParam (starEach (e::es) X.env=(false,eval e X.env)::starEach es X.env) aR._auto_1) (OH:autoParam ((backTo pos (starEach es X.env)).any (·.1)=false) aR._auto_1):PE X (.Call (.Name x p) (e::es) [] pos) (tE E (ai o fs)) :=
 (pO hc hg hm hx ha hn Pa he OH).imp fun σ H Q q=>A4 hv q
theorem rR{o:List PV->M PV}(hc:dw X (.type T) r)(hv:kM E r o)(hg:Gl X x)(hm:X.mg x=none)(hx:bootBuiltins x=some (.type T))(ha:PA X (e::es) (tL E fs))(hn:autoParam (x ≠ "__name__") aD._auto_1)(Pa:autoParam ((x==("__debug__" : Str))=false) aD._auto_1)
  (he:autoParam (starEach (e::es) X.env=(false,eval e X.env)::starEach es X.env) aR._auto_1) (OH:autoParam ((backTo pos (starEach es X.env)).any (·.1)=false) aR._auto_1):PE X (.Call (.Name x p) (e::es) [] pos) (tE E (ai o fs)) :=
 (sy hc hg hm hx ha hn Pa he OH).imp fun σ H Q q=>A4 hv q
end
variable{xs:List PV}
def bO:PV->Option (List PV)
 | .tup xs=>some xs
 | .lst xs=>some xs
 | .jV xs=>some xs
 | _=>none
theorem CK{K:PySem.W.Frag}(s:bw Hs H)(r:Rep Hs p v)(e:bO p=some xs):∃ a vs,v=.ref a/\(iB K H a vs\/gi K H a vs)/\aP Hs xs vs:=by
 cases r with
 | tup h r=>cases e;exact⟨_,_,rfl,.inr (gi.of (s _ _ h)),r⟩
 | lst h r=>cases e;exact⟨_,_,rfl,.inl (iB.of (s _ _ h)),r⟩
 | jV h r=>cases e;exact⟨_,_,rfl,.inl (.inl (.inr ⟨_,s _ _ h⟩)),r⟩
 | _=>cases e
def ue:PV->M PV
 | .str z=>cM (z.length<=sizeLine) (M.ok (.int z.length))
 | p=>eZ ((bO p).map λxs=>.int xs.length)
def ff:List PV->M PV
 | [p]=>ue p
 | _=>none
theorem aP.one(r:aP H [p] vs):∃ v,vs=[v]/\Rep H p v:=by
 cases r with
 | cons h r=>cases r;exact⟨_,rfl,h⟩
theorem aP.two{q:PV}(r:aP H [p,q] vs):∃ v u,vs=[v,u]/\Rep H p v/\Rep H q u:=by
 cases r with
 | cons h r=>obtain⟨u,rfl,h2⟩:=r.one;exact⟨_,_,rfl,h,h2⟩
def Gp(K:PySem.W.Frag):List V->Hp->VK->Prop:=λxs H Q=>(∃ p ys,xs=[.ref p]/\(iB K H p ys\/gi K H p ys)/\Q (.int ys.length) H)\/∃ z,xs=[.str z]/\z.length<=sizeLine/\Q (.int z.length) H
theorem zq:dw X (.builtin "len") (Gp X.K):=dw.or s_ tR
theorem IT{K:PySem.W.Frag}:kM E (Gp K) ff:=by
 intro σ Hs H ps vs Q s r h
 match ps,r with
 | [],_=>exact h.elim
 | _::_::_,_=>exact h.elim
 | [p],r =>
  obtain⟨v,rfl,rp⟩:=r.one;cases hp:bO p with
  | none =>
   cases p with
   | str z =>
    cases rp;obtain⟨hz,h⟩:=az.cM h;exact .inr ⟨z,rfl,hz,eD.flat h s (.int _)⟩
   | tup _=>cases hp
   | lst _=>cases hp
   | jV _=>cases hp
   | _=>exact h.elim
  | some xs =>
   obtain⟨a,us,rfl,hq,hx⟩:=CK (K:=K) s rp hp;have h':az (eZ ((bO p).map λxs=>PV.int xs.length)) (eD Hs H Q) (XW (E σ) Hs H):=by
    cases p with
    | str z=>cases hp
    | _=>exact h
   rw[hp] at h';refine .inl ⟨a,us,rfl,hq,?_⟩;rw[<- hx.length];exact eD.flat h' s (.int _)
def JU:List PV->M PV
 | [p]=>eZ ((bO p).map .lst)
 | _=>none
def dq:List PV->M PV
 | [p]=>eZ ((bO p).map .tup)
 | _=>none
theorem B6{K:PySem.W.Frag}:kM E (λxs H Q=>∃ p ys,xs=[.ref p]/\((iB K H p ys/\∀ l,H l=none->Q (.ref l) (upd H l (.tup ys)))\/(gi K H p ys/\Q (.ref p) H))) dq:=by
 intro σ Hs H ps vs Q s r h
 match ps,r with
 | [],_=>exact h.elim
 | _::_::_,_=>exact h.elim
 | [p],r =>
  obtain⟨v,rfl,rp⟩:=r.one;obtain⟨x,ex,h⟩:=az.opt h;obtain⟨xs,hp,rfl⟩:=Tv.mp ex;cases rp with
  | tup ha hx=>cases hp;exact⟨_,_,rfl,.inr ⟨gi.of (s _ _ ha),eD.flat h s (.tup ha hx)⟩⟩
  | lst ha hx=>cases hp;exact⟨_,_,rfl,.inl ⟨iB.of (s _ _ ha),eD.tup h s hx⟩⟩
  | jV ha hx=>cases hp;exact⟨_,_,rfl,.inl ⟨.inl (.inr ⟨_,s _ _ ha⟩),eD.tup h s hx⟩⟩
  | _=>cases hp
def l7:List PV->Option (List Int)
 | []=>some []
 | .int i::r=>(l7 r).map (i::·)
 | _=>none
def Bn:List PV->Option (List Bool)
 | []=>some []
 | .bl i::r=>(Bn r).map (i::·)
 | _=>none
theorem xU:∀ {ps:List PV} {ns:List Int},l7 ps=some ns->ps=ns.map PV.int
 | [],_,e=>by cases e;rfl
 | .int i::r,_,e=>by
  obtain⟨ms,h1,rfl⟩:=Tv.mp e;rw[xU h1];rfl
theorem CH:∀ {ps:List PV} {ns:List Bool},Bn ps=some ns->ps=ns.map PV.bl
 | [],_,e=>by cases e;rfl
 | .bl i::r,_,e=>by
  obtain⟨ms,h1,rfl⟩:=Tv.mp e;rw[CH h1];rfl
theorem iY:∀ (ns:List Int),l7 (ns.map PV.int)=some ns
 | []=>rfl
 | n::r=>by show (l7 (r.map PV.int)).map (n::·)=_;rw[iY r];rfl
theorem u5:∀ (ns:List Bool),Bn (ns.map PV.bl)=some ns
 | []=>rfl
 | n::r=>by show (Bn (r.map PV.bl)).map (n::·)=_;rw[u5 r];rfl
def Ld:PV->M PV
 | .lst xs=>eZ ((l7 xs).map λns=>.int ns.sum)
 | _=>none
def wb:List PV->M PV
 | [p]=>Ld p
 | _=>none
theorem Hb{K:PySem.W.Frag}:kM E (λxs H Q=>∃ (a:Addr) (ns:List Int),xs=[.ref a]/\iB K H a (ns.map V.int)/\Q (.int ns.sum) H) wb:=by
 intro σ Hs H ps vs Q s r h
 match ps,r with
 | [],_=>exact h.elim
 | _::_::_,_=>exact h.elim
 | [p],r =>
  obtain⟨v,rfl,rp⟩:=r.one;cases rp with
  | lst ha hx =>
   obtain⟨x,ex,h⟩:=az.opt h;obtain⟨ns,hn,rfl⟩:=Tv.mp ex;rw[xU hn] at hx;exact⟨_,ns,rfl,hx.ints▸iB.of (s _ _ ha),eD.flat h s (.int _)⟩
  | _=>exact h.elim
def all1:PV->M PV
 | .lst xs=>eZ ((Bn xs).map λns=>.bl (ns.all id))
 | _=>none
def vZ:List PV->M PV
 | [p]=>all1 p
 | _=>none
theorem GC{K:PySem.W.Frag}:kM E (λxs H Q=>∃ (a:Addr) (bs:List Bool),xs=[.ref a]/\iB K H a (bs.map V.bl)/\Q (.bl (bs.all id)) H) vZ:=by
 intro σ Hs H ps vs Q s r h
 match ps,r with
 | [],_=>exact h.elim
 | _::_::_,_=>exact h.elim
 | [p],r =>
  obtain⟨v,rfl,rp⟩:=r.one;cases rp with
  | lst ha hx =>
   obtain⟨x,ex,h⟩:=az.opt h;obtain⟨ns,hn,rfl⟩:=Tv.mp ex;rw[CH hn] at hx;exact⟨_,ns,rfl,hx.Ny▸iB.of (s _ _ ha),eD.flat h s (.bl _)⟩
  | _=>exact h.elim
def Mp(o:Int->Int->Int):PV->PV->M PV
 | .int i,.int j=>M.ok (.int (o i j))
 | _,_=>none
def Ga(o:Int->Int->Int):List PV->M PV
 | [p,q]=>Mp o p q
 | _=>none
theorem ES{o:Int->Int->Int}:kM E (λxs H Q=>∃ i j,xs=[.int i,.int j]/\Q (.int (o i j)) H) (Ga o):=by
 intro σ Hs H ps vs Q s r h
 match ps,r with
 | [],_=>exact h.elim
 | [_],_=>exact h.elim
 | _::_::_::_,_=>exact h.elim
 | [p,q],r =>
  obtain⟨v,u,rfl,rp,rq⟩:=r.two;cases rp with
  | int i=>cases rq with
   | int j=>exact⟨i,j,rfl,eD.flat h s (.int _)⟩
   | _=>exact h.elim
  | _=>exact h.elim
def dW(n:Nat)(sem:List PV->M PV):Sp:=λvs H Q E=>vs.length=n/\∃ Hs ps,bw Hs H/\aP Hs ps vs/\az (sem ps) (eD Hs H Q) (XW E Hs H)
variable{P1:List PV}
section
variable{sem:List PV->M PV}{p pos:Pos}{fs:af->M (List PV)}{g:af->M PV}
theorem FA(F:aY X.prog X.w X.K X.mg X.base (bW X.prog X.w) k f fd ps (dW n sem))(hr:cA k X.A)(hg:Gl X x)(hm:X.mg x=some (.ref f))(hk:PySem.W.keepIn X.K (.ref f)=true)(hb:Binds X.K fd ps ds)(hd:Vals OZ ds)(hdp:∀ H,aP H P1 OZ)(O:fc X E)
  (hl:∀ ps,sem (ps++P1)≠none->ps.length+P1.length=n)
  (ha:PA X (e::es) (tL E fs)) (Pa:autoParam ((x==("__debug__" : Str))=false) aD._auto_1) (he:autoParam (starEach (e::es) X.env=(false,eval e X.env)::starEach es X.env) aR._auto_1) (OH:autoParam ((backTo pos (starEach es X.env)).any (·.1)=false) aR._auto_1) :
  PE X (.Call (.Name x p) (e::es) [] pos) (tE E (ai (λps=>sem (ps++P1)) fs)):=by
 refine(CF F hr hg hm hk hb hd O ha Pa he OH).imp fun σ H Q q=>du (K:=kB Q) kB.g q λB H₀ Hs H1 env P5 v sr rp hp=>?_;have r2:aP Hs (P5++P1) (v++OZ):=rp.append (hdp Hs);have hn:sem (P5++P1)≠none:=λz=>by rw[z] at hp;exact hp
 refine⟨?_,Hs,P5++P1,sr.gr.sub,r2,hp⟩;rw[<- r2.length,TM];exact hl P5 hn
def eF(ok:Addr->Bool)(f:Str)(g:af->M PV):af->M PV:=λenv=>(g env).bind λp=>match p with
 | .obj C fs=>cM (ok C=true) (eZ (fs.lookup f))
 | _=>none
theorem Hi{ok:Addr->Bool}{fl:Str}(he:PE X e (tE E g))(bB:∀ C,ok C=true->ma X.K C/\bX X.K C fl)(hb:attributeBase e fl X.env (eval e X.env)=eval e X.env):PE X (.Attribute e fl pos) (tE E (eF ok fl g)):=by
 refine(G0 he hb).imp fun σ H Q q=>cu (K:=kB Q) kB.g q λB H₀ Hs H1 env p v sr rp hp=>?_;cases rp with
 | obj ha hx =>
  obtain⟨hc,hp⟩:=az.cM hp;obtain⟨x,ex,hp⟩:=az.opt hp;obtain⟨u,h1,h2⟩:=hx.look ex;exact⟨_,_,_,_,u,rfl,sr.gr.sub _ _ ha,(bB _ hc).1,(bB _ hc).2,h1,eD.flat hp sr.gr.sub h2⟩
 | _=>exact hp.elim
def bo(C:Addr)(m:Str)(sem:List PV->M PV)(g:af->M PV)(fs:af->M (List PV)):af->M PV:=λenv=>(g env).bind λp=>match p with
 | .obj C' fl=>cM (C'=C/\fl.lookup m=none) ((fs env).bind λps=>sem (.obj C' fl::ps))
 | _=>none
theorem Fe(he:PE X o (tE E g))(c:ma X.K C)(hm:Meth X.K C m f)(F:aY X.prog X.w X.K X.mg X.base (bW X.prog X.w) k f fd ps (dW n sem))(hr:cA k X.A)(hb:Binds X.K fd ps [])(O:fc X E)(hl:∀ ps,sem ps≠none->ps.length=n)(ha:PA X (e::es) (tL E fs))
  (Oz:autoParam (starEach (e::es) X.env=(false,eval e X.env)::starEach es X.env) aR._auto_1) (OH:autoParam ((backTo pos (starEach es X.env)).any (·.1)=false) aR._auto_1)
  (ht:autoParam (eval (.Call (.Attribute o m apos) (e::es) [] pos) X.env=(do
   let ov <- eval o X.env
   standAt apos.atName
   let (f,first) <- holding [ov] (getMethod ov m pl)
   callWith pos f first (backTo pos (starEach (e::es) X.env)) (backToKw pos (keywordEach [] X.env)))) aR._auto_1) :
  PE X (.Call (.Attribute o m apos) (e::es) [] pos) (tE E (bo C m sem g fs)):=by
 refine(AV he c hm F hr hb .nil O ha Oz OH ht).imp fun σ H Q q=>cu (K:=kB Q) kB.g q λB H₀ Hs H1 env p v sr rp hp=>?_;cases rp with
 | @obj a C' dx fl fvs ho hx =>
  obtain⟨⟨e1,hn⟩,Fo⟩:=az.cM hp;subst e1;refine⟨a,dx,fvs,rfl,sr.gr.sub _ _ ho,hx.none hn,B,H₀,Hs,env,sr,(az.bind Fo).imp (λP5 Su vs Oa H' g' r=>?_) λe he=>he⟩;have r2:aP Oa (.obj C' fl::P5) (V.ref a::(vs++[])):=by rw[Ul];exact .cons ((Rep.obj ho hx).mono g'.st) r
  have hn:sem (.obj C' fl::P5)≠none:=λz=>by rw[z] at Su;exact Su
  refine⟨by rw[<- r2.length];exact hl _ hn,Oa,_,g'.sub,r2,Su.imp (λz hz w Oj H2 g2 r2=>hz w Oj H2 (g'.trans g2) r2) λe he=>he.grow g'⟩
 | _=>exact hp.elim
theorem AK(he:PE X o (tE E g))(c:ma X.K C)(hm:Meth X.K C m f)(F:aY X.prog X.w X.K X.mg X.base (bW X.prog X.w) k f fd ps (dW n sem))(hr:cA k X.A)(hb:Binds X.K fd ps [])(O:fc X E)(hl:∀ ps,sem ps≠none->ps.length=n)
  (ht:autoParam (eval (.Call (.Attribute o m apos) [] [] pos) X.env=(do
   let ov <- eval o X.env
   standAt apos.atName
   let (f,first) <- holding [ov] (getMethod ov m pl)
   callWith pos f first (backTo pos (starEach [] X.env)) (backToKw pos (keywordEach [] X.env)))) aR._auto_1) :
  PE X (.Call (.Attribute o m apos) [] [] pos) (tE E (bo C m sem g ak)):=by
 refine(Af he c hm F hr hb .nil O ht).imp fun σ H Q q=>cu (K:=kB Q) kB.g q λB H₀ Hs H1 env p v sr rp hp=>?_;cases rp with
 | @obj a C' dx fl fvs ho hx =>
  obtain⟨⟨e1,hn⟩,Fo⟩:=az.cM hp;subst e1;have r2:aP Hs [.obj C' fl] [V.ref a]:=.cons (Rep.obj ho hx) .nil;have Sq:sem [.obj C' fl]≠none:=λz=>by
   have Rk:az (sem [.obj C' fl]) (eD Hs H1 Q) (XW (E σ) Hs H1):=Fo;rw[z] at Rk;exact Rk
  exact⟨a,dx,fvs,rfl,sr.gr.sub _ _ ho,hx.none hn,by rw[show ([]:List V)++[]=[] from rfl];exact r2.length▸hl _ Sq,Hs,_,sr.gr.sub,r2,Fo⟩
 | _=>exact hp.elim
end
inductive Out where
 | nx (env:af) | rt (p:PV) | bk (env:af) | ct (env:af)
def KS(D:Ends)(B H₀:Hp):Out->Prop
 | .nx env=>∀ σ Hs H,SR B H₀ Hs H σ env->D.nx σ H
 | .rt p=>∀ v Hs H,bL B H₀ Hs H->Rep Hs p v->D.rt v H
 | .bk env=>∀ σ Hs H,SR B H₀ Hs H σ env->D.bk σ H
 | .ct env=>∀ σ Hs H,SR B H₀ Hs H σ env->D.ct σ H
def tS(E:XK)(f:af->M Out):TS:=λD σ H=>∃ B H₀ Hs env,SR B H₀ Hs H σ env/\az (f env) (KS D B H₀) (XW E B H₀)
theorem PS.imp{st:Stmt}{t t':TS}(h:PS X st t)(i:∀ D σ H,t' D σ H->t D σ H):PS X st t':=λN5 s σ H D I q=>h N5 s σ H D I (i D σ H q)
theorem kN.imp{st:List Stmt}{t t':TS}(h:kN X st t)(i:∀ D σ H,t' D σ H->t D σ H):kN X st t':=λN5 s σ H D I q=>h N5 s σ H D I (i D σ H q)
def aq:af->M Out:=λenv=>M.ok (.nx env)
def CW(g:af->M Out):Out->M Out
 | .nx env=>g env
 | o=>M.ok o
noncomputable def ao(f g:af->M Out):af->M Out:=λenv=>(f env).bind (CW g)
theorem jU{E:XK}{f:af->M PV}{g:af->PV->M Out}{D:Ends}{R:VK}(h:tS E (λenv=>(f env).bind (g env)) D σ H)
  (k:∀ B H₀ Hs H1 env p v,SR B H₀ Hs H1 σ env->Rep Hs p v->az (g env p) (KS D B H₀) (XW E B H₀)->R v H1):tE (λ_=>E) f σ H R:=by
 obtain⟨B,H₀,Hs,env,sr,h⟩:=h;refine⟨B,H₀,Hs,env,sr,(az.bind h).imp (λp hp v Oa H' g r=>?_) λe he=>he.grow sr.gr⟩;exact k B H₀ Oa H' env p v (sr.grow g) r hp
theorem Cq{E:XK}{f:af->M Bool}{g:af->Bool->M Out}{D:Ends}{R:Bool->Hp->Prop}(h:tS E (λenv=>(f env).bind (g env)) D σ H)
  (k:∀ B H₀ Hs H1 env p,SR B H₀ Hs H1 σ env->az (g env p) (KS D B H₀) (XW E B H₀)->R p H1):tT (λ_=>E) f σ H R:=by
 obtain⟨B,H₀,Hs,env,sr,h⟩:=h;refine⟨B,H₀,Hs,env,sr,(az.bind h).imp (λp hp Oa H' g=>?_) λe he=>he.grow sr.gr⟩;exact k B H₀ Oa H' env p (sr.grow g) hp
theorem oU{E:XK}{f:af->M (List PV)}{g:af->List PV->M Out}{D:Ends}{R:List V->Hp->Prop}(h:tS E (λenv=>(f env).bind (g env)) D σ H)
  (k:∀ B H₀ Hs H1 env p v,SR B H₀ Hs H1 σ env->aP Hs p v->az (g env p) (KS D B H₀) (XW E B H₀)->R v H1):tL (λ_=>E) f σ H R:=by
 obtain⟨B,H₀,Hs,env,sr,h⟩:=h;refine⟨B,H₀,Hs,env,sr,(az.bind h).imp (λp hp v Oa H' g r=>?_) λe he=>he.grow sr.gr⟩;exact k B H₀ Oa H' env p v (sr.grow g) r hp
theorem SR.set{B H₀ Hs H:Hp}{σ:St}{env:af}{p:PV}{v:V}{i:Nat}(r:SR B H₀ Hs H σ env)(h:Rep Hs p v):SR B H₀ Hs H (σ.set i (some v)) (env.set i (some (.sh p))) where
 gr:=r.gr
 len:=by rw[UH,UH];exact r.len
 sh:=λj q e=>by
  rw[S5] at e ⊢
  by_cases z:i=j
  .subst z;rw[if_pos rfl] at e ⊢
   split at e
   .cases e;rw[if_pos (by rw[r.len];assumption)];exact⟨v,rfl,h⟩
   .cases e
  .rw[if_neg z] at e ⊢;exact r.sh j q e
 ow:=λj xs e=>by
  rw[S5] at e ⊢
  by_cases z:i=j
  .subst z;rw[if_pos rfl] at e
   split at e <;> cases e
  .rw[if_neg z] at e ⊢;exact r.ow j xs e
 sep:=λj k xs ys a n e1 e2 e3 e4=>by
  rw[S5] at e1 e2 e3 e4
  by_cases z:i=j
  .subst z;rw[if_pos rfl] at e1
   split at e1 <;> cases e1
  .by_cases z2:i=k
   .subst z2;rw[if_pos rfl] at e2
    split at e2 <;> cases e2
   .rw[if_neg z] at e1 e3;rw[if_neg z2] at e2 e4;exact r.sep j k xs ys a n e1 e2 e3 e4
 bd:=λj a C fs e=>by
  rw[S5] at e ⊢
  by_cases z:i=j
  .subst z;rw[if_pos rfl] at e
   split at e <;> cases e
  .rw[if_neg z] at e ⊢;exact r.bd j a C fs e
 one:=λj k a b C D fs gs e1 e2=>by
  rw[S5] at e1 e2
  by_cases z:i=j
  .subst z;rw[if_pos rfl] at e1
   split at e1 <;> cases e1
  .by_cases z2:i=k
   .subst z2;rw[if_pos rfl] at e2
    split at e2 <;> cases e2
   .rw[if_neg z] at e1;rw[if_neg z2] at e2;exact r.one j k _ _ C D fs gs e1 e2
theorem SR.own{B:Hp}{env:af}{p:Addr}(r:SR B H₀ Hs H σ env)(h:aP Hs xs vs)(n:H p=none):SR B H₀ Hs (upd H p (.lst vs)) (σ.set i (some (.ref p))) (env.set i (some (.ow xs))):=by
 have ne:∀ c u,H c=some u->c≠p:=λc u e z=>by rw[z,n] at e;cases e
 have hs:Hs p=none:=by
  cases q:Hs p with
  | none=>rfl
  | some o=>have:=r.gr.sub _ _ q;rw[n] at this;cases this
 have h0:H₀ p=none:=by
  cases q:H₀ p with
  | none=>rfl
  | some o=>have:=r.gr.al _ _ q;rw[n] at this;cases this
 refine⟨⟨r.gr.st,λc u e=>by rw[au (ne c u (r.gr.al c u e))];exact r.gr.al c u e,λc u e=>by rw[au (ne c u (r.gr.sub c u e))];exact r.gr.sub c u e,r.gr.nw⟩,by rw[UH,UH];exact r.len,λj q e=>?_,λj ys e=>?_,λj k ys zs a nj e1 e2 e3 e4=>?_,λj ba C fs e=>?_,λj k _ _ C D fs gs e1 e2=>?_⟩
 .rw[S5] at e ⊢
  by_cases z:i=j
  .subst z;rw[if_pos rfl] at e
   split at e <;> cases e
  .rw[if_neg z] at e ⊢;exact r.sh j q e
 .rw[S5] at e ⊢
  by_cases z:i=j
  .subst z;rw[if_pos rfl] at e ⊢
   split at e
   .cases e;rw[if_pos (by rw[r.len];assumption)];exact⟨p,vs,rfl,aE,hs,h0,h⟩
   .cases e
  .rw[if_neg z] at e ⊢;obtain⟨a,us,h1,h2,h3,h4,h5⟩:=r.ow j ys e;exact⟨a,us,h1,by rw[au (ne a _ h2)];exact h2,h3,h4,h5⟩
 .rw[S5] at e1 e2 e3 e4
  by_cases z:i=j
  .subst z;rw[if_pos rfl] at e3
   split at e3
   .cases e3;rw[if_neg nj] at e2 e4;obtain⟨a',us,h1,h2,_⟩:=r.ow k zs e2;rw[e4] at h1;cases h1;rw[n] at h2;cases h2
   .cases e3
  .rw[if_neg z] at e1 e3
   by_cases z2:i=k
   .subst z2;rw[if_pos rfl] at e4
    split at e4
    .cases e4;obtain⟨a',us,h1,h2,_⟩:=r.ow j ys e1;rw[e3] at h1;cases h1;rw[n] at h2;cases h2
    .cases e4
   .rw[if_neg z2] at e2 e4;exact r.sep j k ys zs a nj e1 e2 e3 e4
 .rw[S5] at e ⊢
  by_cases z:i=j
  .subst z;rw[if_pos rfl] at e
   split at e <;> cases e
  .rw[if_neg z] at e ⊢;obtain⟨dx,us,h1,h2,h3,h4,h5⟩:=r.bd j ba C fs e;exact⟨dx,us,h1,by rw[au (ne ba _ h2)];exact h2,h3,h4,h5⟩
 .rw[S5] at e1 e2
  by_cases z:i=j
  .subst z;rw[if_pos rfl] at e1
   split at e1 <;> cases e1
  .by_cases z2:i=k
   .subst z2;rw[if_pos rfl] at e2
    split at e2 <;> cases e2
   .rw[if_neg z] at e1;rw[if_neg z2] at e2;exact r.one j k _ _ C D fs gs e1 e2
def mQ(i:Nat)(env:af):af:=match env[i]? with
 | some (some (.ow xs))=>env.set i (some (.sh (.lst xs)))
 | _=>env
theorem SR.qL{B:Hp}{env:af}(i:Nat)(r:SR B H₀ Hs H σ env):∃ Oa,SR B H₀ Oa H σ (mQ i env)/\bw Hs Oa:=by
 unfold mQ
 split
 .rename_i xs e;obtain⟨a,vs,h1,h2,h3,h4,h5⟩:=r.ow i xs e;have ne:∀ c u,Hs c=some u->c≠a:=λc u q z=>by rw[z,h3] at q;cases q
  have Oz:bw Hs (upd Hs a (.lst vs)):=λc u q=>by rw[au (ne c u q)];exact q
  refine⟨upd Hs a (.lst vs),⟨⟨λc u q=>Oz c u (r.gr.st c u q),r.gr.al,λc u q=>?_,λc u q1 q2=>?_⟩,by rw[UH];exact r.len,λj q ej=>?_,λj ys ej=>?_,λj k ys zs b nj e1 e2 e3 e4=>?_,λj ba C fs ej=>?_,λj k _ _ C D fs gs e1 e2=>?_⟩,Oz⟩
  .by_cases z:c=a
   .subst z;rw[aE] at q;cases q;exact h2
   .rw[au z] at q;exact r.gr.sub c u q
  .have z:c≠a:=λz=>by rw[z,h4] at q2;cases q2
   rw[au z];exact r.gr.nw c u q1 q2
  .rw[S5] at ej
   by_cases z:i=j
   .subst z;rw[if_pos rfl] at ej
    split at ej
    .cases ej;exact⟨.ref a,h1,.lst aE (h5.mono Oz)⟩
    .cases ej
   .rw[if_neg z] at ej;obtain⟨v,q1,q2⟩:=r.sh j q ej;exact⟨v,q1,q2.mono Oz⟩
  .rw[S5] at ej
   by_cases z:i=j
   .subst z;rw[if_pos rfl] at ej
    split at ej <;> cases ej
   .rw[if_neg z] at ej;obtain⟨b,us,q1,q2,q3,q4,q5⟩:=r.ow j ys ej;have nb:b≠a:=λw=>by subst w;exact r.sep i j xs ys b z e ej h1 q1
    exact⟨b,us,q1,q2,by rw[au nb];exact q3,q4,q5.mono Oz⟩
  .rw[S5] at e1 e2
   by_cases z:i=j
   .subst z;rw[if_pos rfl] at e1
    split at e1 <;> cases e1
   .by_cases z2:i=k
    .subst z2;rw[if_pos rfl] at e2
     split at e2 <;> cases e2
    .rw[if_neg z] at e1;rw[if_neg z2] at e2;exact r.sep j k ys zs b nj e1 e2 e3 e4
  .rw[S5] at ej
   by_cases z:i=j
   .subst z;rw[if_pos rfl] at ej
    split at ej <;> cases ej
   .rw[if_neg z] at ej;obtain⟨dx,us,q1,q2,q3,q4,q5⟩:=r.bd j ba C fs ej;have nb:ba≠a:=λw=>by subst w;rw[h2] at q2;cases q2
    exact⟨dx,us,q1,q2,by rw[au nb];exact q3,q4,q5.mono Oz⟩
  .rw[S5] at e1 e2
   by_cases z:i=j
   .subst z;rw[if_pos rfl] at e1
    split at e1 <;> cases e1
   .by_cases z2:i=k
    .subst z2;rw[if_pos rfl] at e2
     split at e2 <;> cases e2
    .rw[if_neg z] at e1;rw[if_neg z2] at e2;exact r.one j k _ _ C D fs gs e1 e2
 .exact⟨Hs,r,λ_ _ q=>q⟩
def qG(is:List Nat)(f:af->M Out):af->M Out:=λenv=>f (is.foldl (λe i=>mQ i e) env)
theorem SR.kS{B H₀ H:Hp}{σ:St}:∀ {is:List Nat} {Hs:Hp} {env:af},SR B H₀ Hs H σ env->∃ Oa,SR B H₀ Oa H σ (is.foldl (λe i=>mQ i e) env)/\bw Hs Oa
 | [],Hs,_,r=>⟨Hs,r,λ_ _ q=>q⟩
 | i::is,_,_,r=>by
  obtain⟨Om,r1,s1⟩:=r.qL i;obtain⟨Oj,r2,s2⟩:=SR.kS (is:=is) r1;exact⟨Oj,r2,λc u q=>s2 c u (s1 c u q)⟩
section
variable{E:XK}{pos:Pos}{f:af->M PV}{st:Stmt}{sts rest:List Stmt}{u:af->M Bool}{g h:af->M Out}
theorem JB(is:List Nat)(hs:PS X st (tS E g)):PS X st (tS E (qG is g)):=hs.imp λD σ H q=>by
 obtain⟨B,H₀,Hs,env,sr,q⟩:=q;obtain⟨Oa,r,_⟩:=sr.kS (is:=is);exact⟨B,H₀,Oa,_,r,q⟩
theorem Ew:kN X [] (tS E aq):=yx.imp λD σ H q=>by
 obtain⟨B,H₀,Hs,env,sr,q⟩:=q;exact q σ Hs H sr
theorem DF(h1:PS X st (tS E g))(h2:kN X rest (tS E h)):kN X (st::rest) (tS E (ao g h)):=by
 refine(vb h1 h2).imp λD σ H q=>?_;obtain⟨B,H₀,Hs,env,sr,q⟩:=q;refine⟨B,H₀,Hs,env,sr,(az.bind q).imp (λo ho=>?_) λe he=>he⟩;cases o with
 | nx N_=>exact fun σ' Oa H' PL=>⟨B,H₀,Oa,N_,PL,ho⟩
 | rt p=>exact ho
 | bk N_=>exact ho
 | ct N_=>exact ho
def bj(i:Nat)(f:af->M PV):af->M Out:=λenv=>(f env).bind λp=>M.ok (.nx (env.set i (some (.sh p))))
theorem Ig(hN:X.N.Nodup)(hi:X.N[i]?=some x)(hx:Loc X.env.scope x)(he:PE X e (tE (λ_=>E) f))(hs:autoParam (swapsWith e (some (.Name x pos')) pos.line X.env=pure false) aR._auto_1)(hf:autoParam (X.fn x=true\/X.env.scope.names.lookup x=some .local) aF._auto_1) :
  PS X (.Assign [.Name x pos'] e pos) (tS E (bj i f)) :=
 (wV hN hi hx he hs hf).imp λD σ H q=>jU q λB H₀ Hs H1 env p v sr rp hp=>hp _ Hs H1 (sr.set rp)
def retS(f:af->M PV):af->M Out:=λenv=>(f env).bind λp=>M.ok (.rt p)
theorem Ik(he:PE X e (tE (λ_=>E) f)):PS X (.Return (some e) pos) (tS E (retS f)) :=
 (HZ he).imp λD σ H q=>jU q λB H₀ Hs H1 env p v sr rp hp=>hp v Hs H1 sr.gr rp
def lG(f:af->M PV):af->M Out:=λenv=>(f env).bind λ_=>M.ok (.nx env)
theorem E1(he:PE X e (tE (λ_=>E) f))(hs:autoParam (swapsWith e none pos.line X.env=pure false) aR._auto_1):PS X (.Expr e pos) (tS E (lG f)) :=
 (tH he hs).imp λD σ H q=>jU q λB H₀ Hs H1 env p v sr rp hp=>hp σ Hs H1 sr
def kJ(u:af->M Bool)(g h:af->M Out):af->M Out:=λenv=>(u env).bind λb=>if b=true then g env else h env
theorem J8{a b:List Stmt}(hc:PT X c (tT (λ_=>E) u))(ha:kN X a (tS E g))(hb:kN X b (tS E h)):PS X (.If c a b pos) (tS E (kJ u g h)):=by
 refine(Lz hc ha hb).imp λD σ H q=>Cq q λB H₀ Hs H1 env p sr hp=>?_;cases p with
 | true=>exact⟨B,H₀,Hs,env,sr,hp⟩
 | false=>exact⟨B,H₀,Hs,env,sr,hp⟩
end
def ov(Hs H₀:Hp):Hp:=λa=>match Hs a with
 | some o=>some o
 | none=>H₀ a
theorem oj{a:Addr}{o:HO}(h:Hs a=some o):ov Hs H₀ a=some o:=by unfold ov;rw[h]
theorem ji{a:Addr}(h:Hs a=none):ov Hs H₀ a=H₀ a:=by unfold ov;rw[h]
theorem DX(s:bw Hs H)(t:bw H₀ H):bw (ov Hs H₀) H:=λa o e=>by
 cases q:Hs a with
 | some o'=>rw[oj q] at e;cases e;exact s _ _ q
 | none=>rw[ji q] at e;exact t _ _ e
theorem SR.rebase{B:Hp}{env:af}(r:SR B H₀ Hs H σ env):SR Hs (ov Hs H₀) Hs H σ env where
 gr:=⟨λ_ _ e=>e,DX r.gr.sub r.gr.al,r.gr.sub,λ_ _ e _=>e⟩
 len:=r.len
 sh:=r.sh
 ow:=λi xs e=>let ⟨a,vs,h1,h2,h3,h4,h5⟩:=r.ow i xs e;⟨a,vs,h1,h2,h3,by rw[ji h3];exact h4,h5⟩
 sep:=r.sep
 bd:=λi a C fs e=>let ⟨dx,vs,h1,h2,h3,h4,h5⟩:=r.bd i a C fs e;⟨dx,vs,h1,h2,h3,by rw[ji h3];exact h4,h5⟩
 one:=r.one
theorem bL.k9{B Oj H2:Hp}(g:bL B H₀ Hs H)(g2:bL Hs (ov Hs H₀) Oj H2):bL B H₀ Oj H2 where
 st:=λa o e=>g2.st a o (g.st a o e)
 al:=λa o e=>by
  cases q:Hs a with
  | some o' =>
   have h1:=g.sub a o' q;have h2:=g.al a o e;rw[h1] at h2;cases h2;exact g2.al a _ (oj q)
  | none=>exact g2.al a o (by rw[ji q];exact e)
 sub:=g2.sub
 nw:=λa o e q=>by
  have h1:=g.nw a o e q;exact g2.nw a o h1 (by rw[ji h1];exact q)
theorem SR.k9{B H₀ Hs H Oj H2:Hp}{σ:St}{env:af}(g:bL B H₀ Hs H)(r:SR Hs (ov Hs H₀) Oj H2 σ env):SR B H₀ Oj H2 σ env where
 gr:=g.k9 r.gr
 len:=r.len
 sh:=r.sh
 ow:=λi xs e=>by
  obtain⟨a,vs,h1,h2,h3,h4,h5⟩:=r.ow i xs e;refine⟨a,vs,h1,h2,h3,?_,h5⟩;cases q:Hs a with
  | some o=>rw[oj q] at h4;cases h4
  | none=>rw[ji q] at h4;exact h4
 sep:=r.sep
 bd:=λi a C fs e=>by
  obtain⟨dx,vs,h1,h2,h3,h4,h5⟩:=r.bd i a C fs e;refine⟨dx,vs,h1,h2,h3,?_,h5⟩;cases q:Hs a with
  | some o=>rw[oj q] at h4;cases h4
  | none=>rw[ji q] at h4;exact h4
 one:=r.one
theorem XW.rebase{E:XK}{B:Hp}(g:bL B H₀ Hs H){x:EX}(h:XW E B H₀ x):XW E Hs (ov Hs H₀) x:=λea Oj H2 r q=>h ea Oj H2 (g.k9 r) q
def KQ(k:af->M Out):Out->M Out
 | .nx env=>k env
 | .ct env=>k env
 | .bk env=>M.ok (.nx env)
 | .rt p=>M.ok (.rt p)
def jR(set:PV->af->M af)(body:af->M Out):List PV->af->M Out
 | [],env=>M.ok (.nx env)
 | x::xs,env=>(set x env).bind λN_=>(body N_).bind (KQ (jR set body xs))
def A9(E:XK)(g:TG)(set:PV->af->M af):Prop:=∀ (B H₀ Hs H:Hp) (σ:St) (env:af) (p:PV) (v:V) (Q:St->Hp->Prop) (Z:EX->Prop),SR B H₀ Hs H σ env->Rep Hs p v->az (set p env) (λN_=>∀ σ',SR B H₀ Hs H σ' N_->Q σ' H) Z->g v σ H Q
def bJ(i:Nat)(p:PV)(env:af):M af:=M.ok (env.set i (some (.sh p)))
theorem bp{E:XK}:A9 E (aJ i) (bJ i):=λB H₀ Hs H σ env p v Q Z sr r h=>h _ (sr.set r)
def cn(i j:Nat):PV->af->M af
 | .tup [p,q],env=>M.ok ((env.set i (some (.sh p))).set j (some (.sh q)))
 | _,_=>none
theorem cV{E:XK}{K:PySem.W.Frag}:A9 E (iF K 2 (br (aJ i) (br (aJ j) iM))) (cn i j):=by
 intro B H₀ Hs H σ env p v Q Z sr r h;cases r with
 | @tup a xs vs ha hx =>
  match xs,hx with
  | [p,q],hx =>
   obtain⟨v,u,rfl,rp,rq⟩:=hx.two;exact⟨a,[v,u],rfl,gi.of (sr.gr.sub _ _ ha),rfl,v,[u],rfl,u,[],rfl,rfl,h _ ((sr.set rp).set rq)⟩
  | [],_=>exact h.elim
  | [_],_=>exact h.elim
  | _::_::_::_,_=>exact h.elim
 | _=>exact h.elim
section
variable{E:XK}{g:TG}{set:PV->af->M af}{body:af->M Out}{D:Ends}{B:Hp}
def Jv(E:XK)(set:PV->af->M af)(body:af->M Out)(D:Ends)(B H₀ Om:Hp)(xs:List PV)(i:Nat)(σ:St)(H:Hp):Prop:=∃ Hs env,SR B H₀ Hs H σ env/\bw Om Hs/\az (jR set body (xs.drop i) env) (KS D B H₀) (XW E B H₀)
theorem Jv.done(j:Jv E set body D B H₀ Om xs n σ H)(hn:xs.length<=n):D.nx σ H:=by
 obtain⟨Hs,env,sr,_,h⟩:=j;rw[Vy hn] at h;exact h σ Hs H sr
theorem Jv.turn{H1 Hx:Hp}{x:PV}(tg:A9 E g set)(hx:xs[i]?=some x){env:af}(sr:SR B H₀ Hs H σ env)(s1:bw Om Hs)(h:az (jR set body (xs.drop i) env) (KS D B H₀) (XW E B H₀)){Oj H2:Hp}(gr:bL Hs H Oj H2)(rv:Rep Oj x v) :
  g v σ H2 fun σ2 H3=>tS E body { D with nx:=Jv E set body D B H₀ Om xs (i+1),ct:=Jv E set body D B H₀ Om xs (i+1),bk:=D.nx } σ2 H3:=by
 have ON:i<xs.length:=(Ut.mp hx).1;have hd:xs.drop i=x::xs.drop (i+1):=by
  rw[VQ ON];rw[SW ON] at hx;rw[Ti hx]
 rw[hd] at h;have OM:=sr.grow gr;refine tg B H₀ Oj H2 σ env x v _ _ OM rv ((az.bind h).imp (λN_ h' σ' PL=>?_) λ_ z=>z);refine⟨Oj,ov Oj H₀,Oj,N_,PL.rebase,(az.bind h').imp (λo ho=>?_) λe he=>he.rebase PL.gr⟩;cases o with
 | nx e2=>exact fun σ3 P7 H3 r=>⟨P7,e2,r.k9 PL.gr,λa o z=>r.gr.st a o (gr.st a o (s1 a o z)),ho⟩
 | ct e2=>exact fun σ3 P7 H3 r=>⟨P7,e2,r.k9 PL.gr,λa o z=>r.gr.st a o (gr.st a o (s1 a o z)),ho⟩
 | bk e2=>exact fun σ3 P7 H3 r=>ho σ3 P7 H3 (r.k9 PL.gr)
 | rt p=>exact λv3 P7 H3 r q=>ho v3 P7 H3 (PL.gr.k9 r) q
end
def gz(it:af->M (List PV))(set:PV->af->M af)(body:af->M Out):af->M Out:=λenv=>(it env).bind λxs=>jR set body xs env
def itemsOf(f:af->M PV):af->M (List PV):=λenv=>(f env).bind λp=>match bO p with | some xs=>M.ok xs | none=>none
theorem kr{K:PySem.W.Frag}(s:bw Hs H)(r:Rep Hs p v)(e:bO p=some xs):∃ b a vs,v=.ref a/\(∀ Oa H',bw Hs Oa->bw Oa H'->kF K H' b a vs)/\aP Hs xs vs:=by
 cases r with
 | tup h r=>cases e;exact⟨false,_,_,rfl,λOa H' s1 s2=>gi.of (s2 _ _ (s1 _ _ h)),r⟩
 | lst h r=>cases e;exact⟨true,_,_,rfl,λOa H' s1 s2=>iB.of (s2 _ _ (s1 _ _ h)),r⟩
 | jV h r=>cases e;exact⟨true,_,_,rfl,λOa H' s1 s2=>.inl (.inr ⟨_,s2 _ _ (s1 _ _ h)⟩),r⟩
 | _=>cases e
section
variable{E:XK}{pos p:Pos}{f f2:af->M PV}{g:TG}{set:PV->af->M af}{body:af->M Out}{bd:List Stmt}
end
def M3:PV->M (List PV)
 | .int n=>cM (-(2^62)<=n/\n<2^62) (M.ok ((Tg n.toNat).map λ(i:Nat)=>.int (0+(i:Int))))
 | _=>none
def Nj:PV->PV->M (List PV)
 | .int a,.int b=>cM (-(2^62)<=a/\a<2^62/\-(2^62)<=b/\b<2^62) (M.ok ((Tg (b-a).toNat).map λ(i:Nat)=>.int (a+(i:Int))))
 | _,_=>none
def nJ:List PV->M (List PV)
 | [p]=>M3 p
 | _=>none
def zp:List PV->M (List PV)
 | [p,q]=>Nj p q
 | _=>none
variable{Z:EX->Prop}
theorem yJ{ps:List PV}{k:List PV->M α}{Q:α->Prop}(h:az ((nJ ps).bind k) Q Z):∃ n:Int,ps=[.int n]/\-(2^62)<=n/\n<2^62/\az (k ((Tg n.toNat).map λ(i:Nat)=>.int (0+(i:Int)))) Q Z:=by
 match ps with
 | []=>exact h.elim
 | _::_::_=>exact h.elim
 | [p] =>
  cases p with
  | int n =>
   obtain⟨hc,h⟩:=az.cM (az.bind h);exact⟨n,rfl,hc.1,hc.2,h⟩
  | _=>exact h.elim
theorem zY{ps:List PV}{k:List PV->M α}{Q:α->Prop}(h:az ((zp ps).bind k) Q Z):∃ a b:Int,ps=[.int a,.int b]/\(-(2^62)<=a/\a<2^62/\-(2^62)<=b/\b<2^62)/\az (k ((Tg (b-a).toNat).map λ(i:Nat)=>.int (a+(i:Int)))) Q Z:=by
 match ps with
 | []=>exact h.elim
 | [_]=>exact h.elim
 | _::_::_::_=>exact h.elim
 | [p,q] =>
  cases p with
  | int a=>cases q with
   | int b =>
    obtain⟨hc,h⟩:=az.cM (az.bind h);exact⟨a,b,rfl,hc,h⟩
   | _=>exact h.elim
  | _=>exact h.elim
def zip2:List PV->M (List PV)
 | [p,q]=>match bO p,bO q with
  | some xs,some ys=>M.ok (Yv (λa b=>.tup [a,b]) xs ys)
  | _,_=>none
 | _=>none
theorem Aa{ps:List PV}{k:List PV->M α}{Q:α->Prop}(h:az ((zip2 ps).bind k) Q Z):∃ p q xs ys,ps=[p,q]/\bO p=some xs/\bO q=some ys/\az (k (Yv (λa b=>.tup [a,b]) xs ys)) Q Z:=by
 match ps with
 | []=>exact h.elim
 | [_]=>exact h.elim
 | _::_::_::_=>exact h.elim
 | [p,q] =>
  unfold zip2 at h;dsimp only at h;cases e1:bO p with
  | none=>rw[e1] at h;exact h.elim
  | some xs =>
   cases e2:bO q with
   | none=>rw[e1,e2] at h;exact h.elim
   | some ys=>rw[e1,e2] at h;exact⟨p,q,xs,ys,rfl,e1,e2,h⟩
theorem zj{f:Nat->PV}(h:i<n):((Tg n).map f)[i]?=some (f i):=by
 rw[Tr,U_ h];rfl
section
variable{E:XK}{a b l l1 l2:Expr}{pos p tp:Pos}{fs:af->M (List PV)}{g:TG}{set:PV->af->M af}{body:af->M Out}{bd:List Stmt}
end
def KO(Q:VK):Hp->Hp->List PV->Prop:=λHs H ps=>∀ vs p Oa H',bL Hs H Oa H'->aP Oa ps vs->H' p=none->Q (.ref p) (upd H' p (.lst vs))
def tO(E:St->XK)(f:af->M (List PV)):TE:=fun σ H Q=>tG E f (KO Q) σ H
variable{px:Pos}
section
variable{E:XK}{pos:Pos}{fs:af->M (List PV)}{f:af->M PV}
def mL(i:Nat)(f:af->M (List PV)):af->M Out:=λenv=>(f env).bind λps=>M.ok (.nx (env.set i (some (.ow ps))))
theorem DQ(hN:X.N.Nodup)(hi:X.N[i]?=some x)(hx:Loc X.env.scope x)(he:PE X e (tO (λ_=>E) fs))(hs:autoParam (swapsWith e (some (.Name x pos')) pos.line X.env=pure false) aR._auto_1)(hf:autoParam (X.fn x=true\/X.env.scope.names.lookup x=some .local) aF._auto_1) :
  PS X (.Assign [.Name x pos'] e pos) (tS E (mL i fs)):=by
 refine(wV hN hi hx he hs hf).imp λD σ H q=>?_;obtain⟨B,H₀,Hs,env,sr,q⟩:=q;refine⟨B,H₀,Hs,env,sr,(az.bind q).imp (λps hp vs p Oa H' g r n=>?_) λe he=>he.grow sr.gr⟩;exact hp _ Oa _ ((sr.grow g).own r n)
def lx(fs:af->M (List PV)):af->M (List PV):=λenv=>(fs env).bind λps=>if ps.length<=sizeLine then M.ok ps else none
theorem IV{E:St->XK}(hr:PA X es (tL E fs)):PE X (.List es pos) (tO E (lx fs)):=by
 refine(C_ hr).imp fun σ H Q q=>?_;obtain⟨B,H₀,Hs,env,sr,q⟩:=q;refine⟨B,H₀,Hs,env,sr,(az.bind q).imp (λps hp vs Oa H' g r=>?_) λe he=>he⟩
 by_cases hz:ps.length<=sizeLine
 .rw[if_pos hz] at hp;exact⟨by rw[<- r.length];exact hz,λp n=>hp vs p Oa H' g r n⟩
 .rw[if_neg hz] at hp;exact hp.elim
def yi(f:af->M PV):af->M (List PV):=itemsOf f
def pR(i:Nat)(f:af->M PV):af->M Out:=λenv=>match env[i]? with
 | some (some (.ow xs))=>(f env).bind λp=>if xs.length<sizeLine then M.ok (.nx (env.set i (some (.ow (xs++[p]))))) else none
 | _=>none
theorem SR.put{B:Hp}{env:af}{a:Addr}{ys:List PV}{us:List V}(r:SR B H₀ Hs H σ env)(e:env[i]?=some (some (.ow xs)))(hi:σ[i]?=some (some (.ref a)))(h:aP Hs ys us):SR B H₀ Hs (upd H a (.lst us)) σ (env.set i (some (.ow ys))):=by
 obtain⟨a',vs,h1,h2,h3,h4,h5⟩:=r.ow i xs e;rw[hi] at h1;cases h1;have nS:∀ c u,Hs c=some u->c≠a:=λc u q z=>by rw[z,h3] at q;cases q
 have n0:∀ c u,H₀ c=some u->c≠a:=λc u q z=>by rw[z,h4] at q;cases q
 refine⟨⟨r.gr.st,λc u q=>by rw[au (n0 c u q)];exact r.gr.al c u q,λc u q=>by rw[au (nS c u q)];exact r.gr.sub c u q,r.gr.nw⟩,by rw[UH];exact r.len,λj q ej=>?_,λj zs ej=>?_,λj k y1 y2 b nj e1 e2 e3 e4=>?_,λj ba C fs ej=>?_,λj k _ _ C D fs gs e1 e2=>?_⟩
 .rw[S5] at ej
  by_cases z:i=j
  .subst z;rw[if_pos rfl] at ej
   split at ej <;> cases ej
  .rw[if_neg z] at ej;exact r.sh j q ej
 .rw[S5] at ej
  by_cases z:i=j
  .subst z;rw[if_pos rfl] at ej
   split at ej
   .cases ej;exact⟨a,us,hi,aE,h3,h4,h⟩
   .cases ej
  .rw[if_neg z] at ej;obtain⟨b,ws,q1,q2,q3,q4,q5⟩:=r.ow j zs ej;have nb:b≠a:=λw=>by subst w;exact r.sep i j xs zs b z e ej hi q1
   exact⟨b,ws,q1,by rw[au nb];exact q2,q3,q4,q5⟩
 .have o1:∃ w,env[j]?=some (some (.ow w)):=by
   rw[S5] at e1
   by_cases z:i=j
   .subst z;exact⟨xs,e⟩
   .rw[if_neg z] at e1;exact⟨_,e1⟩
  have o2:∃ w,env[k]?=some (some (.ow w)):=by
   rw[S5] at e2
   by_cases z:i=k
   .subst z;exact⟨xs,e⟩
   .rw[if_neg z] at e2;exact⟨_,e2⟩
  obtain⟨w1,o1⟩:=o1;obtain⟨w2,o2⟩:=o2;exact r.sep j k w1 w2 b nj o1 o2 e3 e4
 .rw[S5] at ej
  by_cases z:i=j
  .subst z;rw[if_pos rfl] at ej
   split at ej <;> cases ej
  .rw[if_neg z] at ej;obtain⟨dx,ws,q1,q2,q3,q4,q5⟩:=r.bd j ba C fs ej;have nb:ba≠a:=λw=>by subst w;rw[h2] at q2;cases q2
   exact⟨dx,ws,q1,by rw[au nb];exact q2,q3,q4,q5⟩
 .rw[S5] at e1 e2
  by_cases z:i=j
  .subst z;rw[if_pos rfl] at e1
   split at e1 <;> cases e1
  .by_cases z2:i=k
   .subst z2;rw[if_pos rfl] at e2
    split at e2 <;> cases e2
   .rw[if_neg z] at e1;rw[if_neg z2] at e2;exact r.one j k _ _ C D fs gs e1 e2
theorem zX(hi:X.N[i]?=some x)(hv:BQ X.env.scope x)(he:PE X e (tE (λ_=>E) f))(hd:autoParam ((x==("__debug__" : Str))=false) aD._auto_1)(Pc:autoParam ((x==("__classdict__" : Str))=false) aD._auto_1)
  (Qf:autoParam (attributeBase (.Name x px) "append" X.env (eval (.Name x px) X.env)=eval (.Name x px) X.env) aR._auto_1)
  (QX:autoParam (((backTo Oo (starEach [e] X.env)).all (λx=>!x.1)&&(backToKw Oo (keywordEach [] X.env)).all (λx=>x.1.isSome)
   && decide (([e]:List Expr).length+([]:List Keyword).length+(if ([]:List Keyword).isEmpty then 0 else 1)<30))=true) aR._auto_1)
  (Qg:autoParam ((apos.endLine==Oo.line)=true) aR._auto_1) (Oz:autoParam (starEach [e] X.env=(false,eval e X.env)::starEach [] X.env) aR._auto_1) (PM:autoParam ((backTo Oo (starEach [] X.env)).any (·.1)=false) aR._auto_1)
  (hs:autoParam (swapsWith (.Call (.Attribute (.Name x px) "append" apos) [e] [] Oo) none pos.line X.env=pure false) aR._auto_1) :
  PS X (.Expr (.Call (.Attribute (.Name x px) "append" apos) [e] [] Oo) pos) (tS E (pR i f)):=by
 refine(tH (FT PySem.F.plainAttrs_list PySem.F.slot_list_append PySem.F.type_list_append rD (kZ hi hv hd Pc) (fI he kW Oz) Qf QX Qg Oz PM) hs).imp λD σ H q=>?_;obtain⟨B,H₀,Hs,env,sr,q⟩:=q;unfold pR at q
 split at q
 .rename_i xs ex;obtain⟨a,vs,h1,h2,h3,h4,h5⟩:=sr.ow i xs ex;refine⟨.ref a,h1,.inl ⟨rfl,vs,iB.of h2⟩,B,H₀,Hs,env,sr,(az.bind q).imp (λp hp v Oa H' g r=>?_) λe he=>he.grow sr.gr⟩
  by_cases hz:xs.length<sizeLine
  .rw[if_pos hz] at hp;have PL:=sr.grow g;have r5:aP Oa (xs++[p]) (vs++[v]):=(h5.mono g.st).snoc r;exact⟨a,vs,v,rfl,rfl,g.al _ _ h2,by rw[<- h5.length];exact hz,hp σ Oa _ (PL.put ex h1 r5)⟩
  .rw[if_neg hz] at hp;exact hp.elim
 .exact q.elim
end
def Ie:Out->M PV
 | .rt p=>M.ok p
 | .nx _=>M.ok .cJ
 | _=>none
def kP(m:Nat)(ps:List PV):af:=ps.map (λp=>some (.sh p))++SS (m-ps.length) none
def aB(m:Nat)(g:af->M Out)(ps:List PV):M PV:=(g (kP m ps)).bind Ie
theorem SR.start{Hs H:Hp}{N:List Str}{ps:List PV}{vs:List V}(s:bw Hs H)(r:aP Hs ps vs):SR Hs H Hs H (start N vs) (kP N.length ps) where
 gr:=.refl s
 len:=by unfold L2.start kP;simp[r.length]
 sh:=λi p e=>by
  unfold kP at e;unfold L2.start
  by_cases hi:i<ps.length
  .rw[TH (by simpa using hi),Tr,SW hi] at e;cases e;obtain⟨v,h1,h2⟩:=r.get (SW hi);exact⟨v,by rw[TH (by simpa using (r.length▸hi)),Tr,h1];rfl,h2⟩
  .rw[Tj (by simpa using hi),UK] at e
   split at e <;> cases e
 ow:=λi xs e=>by
  unfold kP at e
  by_cases hi:i<ps.length
  .rw[TH (by simpa using hi),Tr,SW hi] at e;cases e
  .rw[Tj (by simpa using hi),UK] at e
   split at e <;> cases e
 sep:=λi j xs ys a _ e=>by
  unfold kP at e
  by_cases hi:i<ps.length
  .rw[TH (by simpa using hi),Tr,SW hi] at e;cases e
  .rw[Tj (by simpa using hi),UK] at e
   split at e <;> cases e
 bd:=λi a C fs e=>by
  unfold kP at e
  by_cases hi:i<ps.length
  .rw[TH (by simpa using hi),Tr,SW hi] at e;cases e
  .rw[Tj (by simpa using hi),UK] at e
   split at e <;> cases e
 one:=λi j a b C D fs gs e=>by
  unfold kP at e
  by_cases hi:i<ps.length
  .rw[TH (by simpa using hi),Tr,SW hi] at e;cases e
  .rw[Tj (by simpa using hi),UK] at e
   split at e <;> cases e
theorem JG{K:PySem.W.Frag}{dV kV doc pm Ox ct oc:Value}{an:Option Addr}{g:af->M Out}(lk:K.lookup f=some ⟨oc,od,.func (PySem.W.fnOf name qual params body scope dV kV doc pm an Ox ct),Rf⟩)(Pc:PySem.W.codeIn K Ox qual=true)(S:cH N ps scope)
  (hb:∀ (A:Around) (outer:List Env) (s:Shared) (H:Hp) (E:XK),cA k (A.deeper (envOfC qual scope s.heap.objs.size f Ox))->kN ((lF (bW P w) P w K mg base N qual scope f Ox A outer s H E).out λ_=>E) body (tS E g)) :
  aY P w K mg base (bW P w) (k+1) f (PySem.W.fnOf name qual params body scope dV kV doc pm an Ox ct) ps (dW ps.length (aB N.length g)):=by
 refine xv lk Pc S (λvs H Q E h=>h.1) λA outer s H vs Q E hr hs=>⟨_,hb A outer s H E hr,?_⟩
 obtain⟨_,Hs,P5,sm,r,h⟩:=hs;refine⟨Hs,H,Hs,_,SR.start sm r,(az.bind h).imp (λo ho=>?_) λe he=>he⟩;cases o with
 | rt p=>exact λv Oa H' gr rv=>ho v Oa H' gr rv
 | nx env=>exact fun σ Oa H' sr=>ho .cJ Oa H' sr.gr .cJ
 | bk env=>exact ho.elim
 | ct env=>exact ho.elim
section
variable{E:XK}{pos p:Pos}{fs:af->M (List PV)}
def j6(C:Addr)(fs:af->M (List PV)):af->M Out:=λenv=>(fs env).bind λps=>cM (ps.length<=sizeLine) (some (.error (C,none)))
theorem Ag(O:fc X λ_=>E)(Of:X.calm=true)(hc:PySem.W.excIn X.K C fE "ValueError.__new__" = true)(c:jy X.K C)(ht:PySem.W.typeIn X.K (.ref C)=some (.type "type"))(kp:PySem.W.keepIn X.K (.ref C)=true)(hg:Gl X x)(hm:X.mg x=some (.ref C))(ha:PA X (e::es) (tL (λ_=>E) fs))
  (Pa:autoParam ((x==("__debug__" : Str))=false) aD._auto_1) (he:autoParam (starEach (e::es) X.env=(false,eval e X.env)::starEach es X.env) aR._auto_1) (OH:autoParam ((backTo Oo (starEach es X.env)).any (·.1)=false) aR._auto_1) :
  PS X (.Raise (some (.Call (.Name x p) (e::es) [] Oo)) none pos) (tS E (j6 C fs)):=by
 refine(vH O Of (ED hc kp hg hm ha Pa he OH)).imp λD σ H q=>oU q λB H₀ Hs H1 env P5 v sr rp hp=>?_;obtain⟨hz,hp⟩:=az.cM hp;refine⟨by rw[<- rp.length];exact hz,λa n=>⟨a,C,none,rfl,aE,c,ht,?_⟩⟩;rw[yE];exact hp a (upd Hs a (hX C none a)) _ (sr.gr.trans (bL.new sr.gr.sub n)) (.xq aE)
def z6(K:PySem.W.Frag)(C:Addr)(fl:Str):Sp:=λvs H Q _=>∃ a y,vs=[.ref a,y]/\H a=some (kD C none a)/\∀ d,H d=none->d≠a->Q .cJ (upd (upd H d (.xd [(fl,y)])) a (kD C (some d) a))
def jA(C:Addr)(fl:Str)(fs:af->M (List PV)):af->M Out:=λenv=>(fs env).bind λps=>match ps with
 | [p]=>some (.error (C,some [(fl,p)]))
 | _=>none
theorem zN{fl:Str}(O:fc X λ_=>E)(Of:X.calm=true)(hc:oV X.K C "ValueError.__new__" f=true)(hf:PySem.W.isFn X.K (.ref f)=true)(c:jy X.K C)(ht:PySem.W.typeIn X.K (.ref C)=some (.type "type"))(kp:PySem.W.keepIn X.K (.ref C)=true)(F:aY X.prog X.w X.K X.mg X.base (bW X.prog X.w) k f fd ps (z6 X.K C fl))(hr:cA (k+1) X.A)(hb:Binds X.K fd ps [])
  (hg:Gl X x) (hm:X.mg x=some (.ref C)) (ha:PA X [e] (tL (λ_=>E) fs))
  (Pa:autoParam ((x==("__debug__" : Str))=false) aD._auto_1) (he:autoParam (starEach [e] X.env=(false,eval e X.env)::starEach [] X.env) aR._auto_1) (OH:autoParam ((backTo Oo (starEach [] X.env)).any (·.1)=false) aR._auto_1) :
  PS X (.Raise (some (.Call (.Name x p) [e] [] Oo)) none pos) (tS E (jA C fl fs)):=by
 refine(vH O Of (Cj hc hf kp F hr hb hg hm ha Pa he OH)).imp λD σ H q=>oU q λB H₀ Hs H1 env P5 v sr rp hp=>?_
 match P5,rp,hp with
 | [],_,hp=>exact hp.elim
 | _::_::_,_,hp=>exact hp.elim
 | [y],rp,hp =>
  obtain⟨v,rfl,ry⟩:=rp.one;refine⟨by show 1<=sizeLine;decide,λa n=>⟨a,v,rfl,aE,λd hd hda=>⟨rfl,a,C,some d,rfl,aE,c,ht,?_⟩⟩⟩;rw[yE];have hd1:H1 d=none:=by rw[au hda] at hd;exact hd
  have g1:=bL.new (o:=.xd [(fl,v)]) sr.gr.sub hd1;have QO:upd H1 d (.xd [(fl,v)]) a=none:=by rw[au (Vb hda)];exact n
  have g2:=bL.new (o:=hX C (some d) a) g1.sub QO;have hH:upd (upd (upd H1 a (kD C none a)) d (.xd [(fl,v)])) a (hX C (some d) a)=upd (upd H1 d (.xd [(fl,v)])) a (hX C (some d) a):=by
   funext b
   by_cases z:b=a
   .subst z;rw[aE,aE]
   .rw[au z,au z]
    by_cases z2:b=d
    .subst z2;rw[aE,aE]
    .rw[au z2,au z2,au z]
  rw[hH];refine hp a (upd (upd Hs d (.xd [(fl,v)])) a (hX C (some d) a)) _ ((sr.gr.trans g1).trans g2) ?_;exact .wN aE (by rw[au hda];exact aE) (.cons ((ry.mono g1.st).mono g2.st) .nil)
theorem qt{K:PySem.W.Frag}{dV kV doc pm Ox ct oc:Value}{an:Option Addr}{n0 n1 fl:Str}{p0 p1 p2 p3:Pos}(lk:K.lookup f=some ⟨oc,od,.func (PySem.W.fnOf name qual params [.Assign [.Attribute (.Name n0 p0) fl p1] (.Name n1 p2) p3] scope dV kV doc pm an Ox ct),Rf⟩)(Pc:PySem.W.codeIn K Ox qual=true)(S:cH [n0,n1] [n0,n1] scope)
  (c:jy K C) (ho:((PySem.W.clsIn K C).any λcd=>gG cd.mro)=true) (na:bX K C fl) (v0:BQ scope n0) (v1:BQ scope n1) (d0:(n0==("__debug__" : Str))=false) (d1:(n1==("__debug__" : Str))=false) (c0:(n0==("__classdict__" : Str))=false) (c1:(n1==("__classdict__" : Str))=false)
  (hs:∀ env,swapsWith (.Name n1 p2) (some (.Attribute (.Name n0 p0) fl p1)) p3.line env=pure false) :
  aY P w K mg base (bW P w) 1 f (PySem.W.fnOf name qual params [.Assign [.Attribute (.Name n0 p0) fl p1] (.Name n1 p2) p3] scope dV kV doc pm an Ox ct) [n0,n1] (z6 K C fl):=by
 refine xv (k:=0) lk Pc S (λvs H Q E h=>by obtain⟨a,y,rfl,_⟩:=h;rfl) λA outer s H vs Q E hr h=>?_;obtain⟨a,y,rfl,ha,hq⟩:=h;refine⟨_,DP (BA (kZ (i:=0) rfl v0 d0 c0) (kZ (i:=1) rfl v1 d1 c1) (hs _)),?_⟩;exact⟨y,rfl,.ref a,rfl,a,C,rfl,ha,c,ho,na,hq⟩
end
structure j5 (J:It) (Om:Hp) (xs:List PV):Prop where
 stop:∀ (i:Nat) (Hs H:Hp),bw Om Hs->bw Hs H->xs.length<=i->J.stop i H
 go:∀ (i:Nat) (Hs H:Hp),bw Om Hs->bw Hs H->i<xs.length->J.go i H
 wg:∀ (i:Nat) (Hs H:Hp) (x:V) (H2:Hp),bw Om Hs->bw Hs H->i<xs.length->J.wg i H x H2->∃ p Oj,xs[i]?=some p/\bL Hs H Oj H2/\Rep Oj p x
def KI(R:It->Hp->Prop):Hp->Hp->List PV->Prop:=λHs H xs=>∀ J Oa H',bL Hs H Oa H'->j5 J Oa xs->R J H'
def yr(E:St->XK)(wi:TI)(it:af->M (List PV)):Prop:=∀ (σ:St) (H:Hp) (R:It->Hp->Prop),tG E it (KI R) σ H->wi σ H R
theorem KI.g{R:It->Hp->Prop}:KG (KI R):=λHs H Oa H' b k g J Oj H2 g2 o=>k J Oj H2 (g.trans g2) o
section
variable{K:PySem.W.Frag}{f:af->M PV}{fs:af->M (List PV)}
theorem Bz{a:Addr}(hq:∀ Oa H',bw Om Oa->bw Oa H'->kF K H' b a vs)(hr:aP Om xs vs):j5 (Mb K b a) Om xs where
 stop:=λi Hs H s1 s2 hi=>by
  have q:=hq Hs H s1 s2;cases b with
  | true=>exact⟨vs,q,by rw[<- hr.length];exact hi⟩
  | false=>exact⟨vs,q,by rw[<- hr.length];exact hi⟩
 go:=λi Hs H s1 s2 hi=>by
  have q:=hq Hs H s1 s2;obtain⟨v,e,_⟩:=hr.get (SW hi);cases b with
  | true=>exact⟨vs,v,q,e⟩
  | false=>exact⟨vs,v,q,e⟩
 wg:=λi Hs H x H2 s1 s2 hi y=>by
  have q:=hq Hs H s1 s2;obtain⟨v,e,r⟩:=hr.get (SW hi);have z:H2=H/\vs[i]?=some x:=by
   cases b with
   | true=>exact⟨y.1,y.2 vs q⟩
   | false=>exact⟨y.1,y.2 vs q⟩
  obtain⟨rfl,z⟩:=z;rw[e] at z;cases z;exact⟨xs[i],Hs,SW hi,.refl s2,r.mono s1⟩
theorem cz:yr E (J0 K (tE E f)) (itemsOf f):=by
 intro σ H R q;refine cu (K:=KI R) KI.g q λB H₀ Hs H1 env p v sr rp hp=>?_;cases e:bO p with
 | none=>rw[e] at hp;exact hp.elim
 | some xs =>
  rw[e] at hp;obtain⟨b,a,vs,rfl,hq,hr⟩:=kr (K:=K) sr.gr.sub rp e;exact⟨b,a,rfl,⟨vs,hq Hs H1 (λ_ _ z=>z) sr.gr.sub⟩,hp (Mb K b a) Hs H1 (.refl sr.gr.sub) (Bz hq hr)⟩
def jL(o:List PV->M (List PV))(fs:af->M (List PV)):af->M (List PV):=λenv=>(fs env).bind o
theorem uV{lo:Int}:j5 (KA lo n) Om ((Tg n).map λ(i:Nat)=>PV.int (lo+(i:Int))) where
 stop:=λi Hs H s1 s2 hi=>show n<=i by simpa using hi
 go:=λi Hs H s1 s2 hi=>show i<n by simpa using hi
 wg:=λi Hs H x H2 s1 s2 hi y=>by
  obtain⟨rfl,rfl⟩:=y;exact⟨_,Hs,zj (by simpa using hi),.refl s2,.int _⟩
theorem aM(x:M α):x.bind M.ok=x:=by
 cases x with
 | none=>rfl
 | some x=>cases x <;> rfl
theorem fV:yr E (Gw (tL E fs)) (jL nJ fs):=by
 intro σ H R q;refine du (K:=KI R) KI.g q λB H₀ Hs H1 env ps v sr rp hp=>?_;rw[<- aM (nJ ps)] at hp;obtain⟨n,rfl,h1,h2,hp⟩:=yJ hp;obtain⟨w,rfl,PX⟩:=rp.one;cases PX;exact⟨n,rfl,h1,h2,hp _ Hs H1 (.refl sr.gr.sub) uV⟩
theorem Ds:yr E (FQ (tL E fs)) (jL zp fs):=by
 intro σ H R q;refine du (K:=KI R) KI.g q λB H₀ Hs H1 env ps v sr rp hp=>?_;rw[<- aM (zp ps)] at hp;obtain⟨n,m,rfl,h1,hp⟩:=zY hp;obtain⟨w,u,rfl,PX,ru⟩:=rp.two;cases PX;cases ru;exact⟨n,m,rfl,h1,hp _ Hs H1 (.refl sr.gr.sub) uV⟩
theorem Cm{ys:List PV}(h1:i<xs.length)(h2:i<ys.length):(Yv (λa b=>PV.tup [a,b]) xs ys)[i]?=some (.tup [xs[i],ys[i]]):=by
 rw[List.getElem?_zipWith,SW h1,SW h2]
theorem DE{b1 b2:Bool}{a1 a2:Addr}{ys:List PV}{us:List V}(OT:∀ Oa H',bw Om Oa->bw Oa H'->kF K H' b1 a1 vs)(Q4:aP Om xs vs)(OO:∀ Oa H',bw Om Oa->bw Oa H'->kF K H' b2 a2 us)(Q5:aP Om ys us) :
  j5 (Mi K b1 b2 a1 a2) Om (Yv (λa b=>PV.tup [a,b]) xs ys) where
 stop:=λi Hs H s1 s2 hi=>by
  rw[Xq,Q4.length,Q5.length] at hi;exact⟨vs,us,OT Hs H s1 s2,OO Hs H s1 s2,by lia⟩
 go:=λi Hs H s1 s2 hi=>by
  rw[Xq] at hi;obtain⟨v,e,_⟩:=Q4.get (SW (show i<xs.length by lia));obtain⟨u,e',_⟩:=Q5.get (SW (show i<ys.length by lia));exact⟨vs,us,v,u,OT Hs H s1 s2,OO Hs H s1 s2,e,e'⟩
 wg:=λi Hs H x H2 s1 s2 hi y=>by
  rw[Xq] at hi;have l1:i<xs.length:=by lia
  have l2:i<ys.length:=by lia
  obtain⟨v,e,r⟩:=Q4.get (SW l1);obtain⟨u,e',r'⟩:=Q5.get (SW l2);obtain⟨pa,v',u',hn,rfl,rfl,y1,y2⟩:=y;have z1:=y1 vs (OT Hs H s1 s2);have z2:=y2 us (OO Hs H s1 s2);rw[e] at z1;cases z1;rw[e'] at z2;cases z2;have gr:=bL.new (o:=.tup [v,u]) s2 hn;exact⟨_,_,Cm l1 l2,gr,.tup aE (.cons ((r.mono s1).mono gr.st) (.cons ((r'.mono s1).mono gr.st) .nil))⟩
theorem ik:yr E (Ks K (tL E fs)) (jL zip2 fs):=by
 intro σ H R q;refine du (K:=KI R) KI.g q λB H₀ Hs H1 env ps v sr rp hp=>?_;rw[<- aM (zip2 ps)] at hp;obtain⟨p,q,xs,ys,rfl,e1,e2,hp⟩:=Aa hp;obtain⟨w,u,rfl,PX,ru⟩:=rp.two;obtain⟨b1,a1,vs,rfl,OT,Q4⟩:=kr (K:=K) sr.gr.sub PX e1;obtain⟨b2,a2,us,rfl,OO,Q5⟩:=kr (K:=K) sr.gr.sub ru e2;exact⟨b1,b2,a1,a2,rfl,⟨vs,OT Hs H1 (λ_ _ z=>z) sr.gr.sub⟩,⟨us,OO Hs H1 (λ_ _ z=>z) sr.gr.sub⟩,hp _ Hs H1 (.refl sr.gr.sub) (DE OT Q4 OO Q5)⟩
end
theorem bF{E:XK}{pos:Pos}{g:TG}{set:PV->af->M af}{body:af->M Out}{bd:List Stmt}{wi:TI}{it:af->M (List PV)}(O:fc X λ_=>E)(hc:X.calm=true)(hi:PI X tg iter wi)(hv:yr (λ_=>E) wi it)(hg:PG X tg g)(QL:A9 E g set)(hb:kN X bd (tS E body))(hs:autoParam (∀ x,foldedSetIterable iter X.env x=pure x) aI._auto_1) :
  PS X (.For tg iter bd [] pos) (tS E (gz it set body)):=by
 refine(Hg O.own hc hi hg hb hs).imp λD σ H q=>hv σ H _ ?_;obtain⟨B,H₀,Hs,env,sr,q⟩:=q;refine⟨B,H₀,Hs,env,sr,(az.bind q).imp (λxs hp J Oa H' gr ok=>?_) λe he=>he.grow sr.gr⟩;have PL:=sr.grow gr;refine⟨λi m σ H=>m=xs.length-i/\i<=xs.length/\Jv E set body D B H₀ Oa xs i σ H,⟨xs.length,by simp,S9 _,Oa,env,PL,λ_ _ z=>z,hp⟩,?_⟩;rintro i m σ' H2 ⟨rfl,hi,Oj,env2,OM,s2,h2⟩
 by_cases ON:i<xs.length
 .refine .inr ⟨ok.go i Oj H2 s2 OM.gr.sub ON,Jv E set body D B H₀ Oa xs (i+1),fun σ3 H3 j=>⟨xs.length-(i+1),by lia,rfl,ON,j⟩,λx H3 y=>?_⟩;obtain⟨p,P7,ep,g3,r3⟩:=ok.wg i Oj H2 x H3 s2 OM.gr.sub ON y;exact Jv.turn (Hx:=H2) (H1:=H2) QL ep OM s2 h2 g3 r3
 .have e:i=xs.length:=by lia
  refine .inl ⟨ok.stop i Oj H2 s2 OM.gr.sub (by lia),?_⟩;exact Jv.done (E:=E) (set:=set) (body:=body) (xs:=xs) (B:=B) (H₀:=H₀) (Om:=Oa) (n:=i) ⟨Oj,env2,OM,s2,h2⟩ (by lia)
abbrev EF:St->XK:=λ_ _ _ _=>False
def nF(env:af):Prop:=∀ (i:Nat) (x:SV),env[i]?=some (some x)->∃ p,x=.sh p
theorem nF.ow{env:af}(n:nF env){i:Nat}{xs:List PV}(e:env[i]?=some (some (.ow xs))):False:=by obtain⟨p,z⟩:=n i _ e;cases z
theorem nF.bd{env:af}(n:nF env){i:Nat}{a C:Addr}{fs:List (Str×PV)}(e:env[i]?=some (some (.bd a C fs))):False:=by obtain⟨p,z⟩:=n i _ e;cases z
def Ap:M α->M α
 | some (.ok a)=>some (.ok a)
 | _=>none
theorem az.Ap{α:Type}{x:M α}{Q:α->Prop}{E:EX->Prop}(h:az (L2.Ap x) Q E):az x Q (λ_=>False):=by
 cases x with
 | none=>exact h
 | some x=>cases x with
  | ok a=>exact h
  | error e=>exact h
def lj(n:Nat)(js:List Nat)(env:af):af:=SS n none++js.map λj=>match env[j]? with
 | some (some (.sh p))=>some (.sh p)
 | _=>none
theorem rL{env:af}{x:SV}(h:(lj n js env)[i]?=some (some x)):∃ j p,n<=i/\js[i-n]?=some j/\env[j]?=some (some (.sh p))/\x=.sh p:=by
 unfold lj at h
 by_cases hi:i<n
 .rw[TH (by simpa using hi),UK] at h
  split at h <;> cases h
 .rw[Tj (by simpa using hi),Tr,W3] at h;cases hj:js[i-n]? with
  | none=>rw[hj] at h;cases h
  | some j =>
   rw[hj] at h;have h':(match env[j]? with | some (some (.sh p))=>some (SV.sh p) | _=>none)=some x:=Ti h
   split at h'
   .rename_i p e;cases h';exact⟨j,p,by lia,rfl,e,rfl⟩
   .cases h'
theorem fm{env:af}:nF (lj n js env):=λi xs e=>by
 obtain⟨_,p,_,_,_,z⟩:=rL e;exact⟨p,z⟩
variable{D:Addr}
theorem SR.block{B:Hp}{env:af}(r:SR B H₀ Hs H σ env)(hD:H D=none):SR Hs H Hs (upd H D (.lst [])) (fP ts js σ) (lj ts.length js env) where
 gr:=by
  have ne:∀ c u,H c=some u->c≠D:=λc u q z=>by rw[z,hD] at q;cases q
  exact⟨λ_ _ e=>e,λc u e=>by rw[au (ne c u e)];exact e,λc u e=>by rw[au (ne c u (r.gr.sub c u e))];exact r.gr.sub c u e,λ_ _ e _=>e⟩
 len:=by unfold fP lj;simp
 sh:=λi p e=>by
  obtain⟨j,q,hn,hj,he,z⟩:=rL e;cases z;obtain⟨v,h1,h2⟩:=r.sh j p he;refine⟨v,?_,h2⟩;unfold fP;rw[Tj (by simpa using hn),Tr,S0,hj];show some (σ[j]?).join=_;rw[h1];rfl
 ow:=λi xs e=>(fm.ow e).elim
 sep:=λi j xs ys a _ e=>(fm.ow e).elim
 bd:=λi a C fs e=>(fm.bd e).elim
 one:=λi j a b C D fs gs e=>(fm.bd e).elim
theorem SR.JJ{B:Hp}{env:af}{o:HO}(r:SR B H₀ Hs H σ env)(n:nF env)(h1:Hs D=none)(h2:H₀ D=none):SR B H₀ Hs (upd H D o) σ env where
 gr:=⟨r.gr.st,λc u q=>by rw[au (λz=>by rw[z,h2] at q;cases q)];exact r.gr.al c u q,λc u q=>by rw[au (λz=>by rw[z,h1] at q;cases q)];exact r.gr.sub c u q,r.gr.nw⟩
 len:=r.len
 sh:=r.sh
 ow:=λi xs e=>(n.ow e).elim
 sep:=λi j xs ys a _ e=>(n.ow e).elim
 bd:=λi a C fs e=>(n.bd e).elim
 one:=λi j a b C D fs gs e=>(n.bd e).elim
def bG(set:PV->af->M af)(t:Option (af->M Bool))(f:af->M PV):List PV->af->M (List PV)
 | [],_=>M.ok []
 | x::xs,env=>(set x env).bind λe=>match t with
  | none=>(f e).bind λy=>(bG set t f xs e).bind λys=>M.ok (y::ys)
  | some t'=>(t' e).bind λb=>if b=true then (f e).bind λy=>(bG set t f xs e).bind λys=>M.ok (y::ys) else bG set t f xs e
def bZ(it:af->M (List PV))(set:PV->af->M af)(t:Option (af->M Bool))(f:af->M PV)(n:Nat)(js:List Nat):af->M (List PV):=λenv=>(it env).bind λxs=>cM (xs.length<=sizeLine) (Ap (bG set t f xs (lj n js env)))
def lR(set:PV->af->M af):Prop:=∀ p env e,set p env=some (.ok e)->nF env->nF e
theorem ko{env:af}(n:nF env):nF (env.set i (some (.sh p))):=λj xs e=>by
 rw[S5] at e
 by_cases z:i=j
 .rw[if_pos z] at e
  split at e
  .cases e;exact⟨p,rfl⟩
  .cases e
 .rw[if_neg z] at e;exact n j xs e
theorem bK:lR (bJ i):=λp env e h n=>by
 cases h;exact ko n
theorem c7:lR (cn i j):=λp env e h n=>by
 unfold cn at h
 split at h
 .cases h;exact ko (ko n)
 .cases h
section
variable{set:PV->af->M af}{t:Option (af->M Bool)}{f:af->M PV}{Q:VK}{H1:Hp}
def Jc(set:PV->af->M af)(t:Option (af->M Bool))(f:af->M PV)(Q:VK)(Om H1:Hp)(D:Addr)(xs:List PV)(i:Nat)(σ:St)(H:Hp):Prop:=∃ Hs env ys vs,SR Om H1 Hs H σ env/\nF env/\H D=some (.lst vs)/\Hs D=none/\aP Hs ys vs/\ys.length<=i ∧
 az (bG set t f (xs.drop i) env) (λzs=>KO Q Om H1 (ys++zs)) (λ_=>False)
def rem(H:Hp)(D:Addr):Hp:=λa=>if a=D then none else H a
theorem BI:rem H D D=none:=by unfold rem;rw[if_pos rfl]
theorem xn{a:Addr}(n:a≠D):rem H D a=H a:=by unfold rem;rw[if_neg n]
theorem E6{o:HO}(h:H D=some o):upd (rem H D) D o=H:=by
 funext a
 by_cases z:a=D
 .subst z;rw[aE,h]
 .rw[au z,xn z]
theorem Jc.done(hD:H1 D=none)(j:Jc set t f Q Om H1 D xs i σ H)(hi:xs.length<=i):Q (.ref D) H:=by
 obtain⟨Hs,env,ys,vs,sr,n,h1,h2,r,_,h⟩:=j;rw[Vy hi] at h;have h':KO Q Om H1 (ys++[]):=h;rw[Ul] at h';have gr:bL Om H1 Hs (rem H D):=by
  refine⟨sr.gr.st,λc u q=>?_,λc u q=>?_,sr.gr.nw⟩
  .rw[xn (λz=>by rw[z,hD] at q;cases q)];exact sr.gr.al c u q
  .rw[xn (λz=>by rw[z,h2] at q;cases q)];exact sr.gr.sub c u q
 have:=h' vs D Hs (rem H D) gr r BI;rw[E6 h1] at this;exact this
theorem Jc.put{env:af}{ys:List PV}{y:PV}(hD:H1 D=none)(sr:SR Om H1 Hs H σ env)(n:nF env)(h1:H D=some (.lst vs))(h2:Hs D=none)(r:aP Hs ys vs)(hy:ys.length<=i)(hi:i<sizeLine)(rv:Rep Hs y v)
  (h:az ((bG set t f (xs.drop (i+1)) env).bind λzs=>M.ok (y::zs)) (λzs=>KO Q Om H1 (ys++zs)) (λ_=>False)) :
  ∃ us,H D=some (.lst us)/\us.length<sizeLine/\Jc set t f Q Om H1 D xs (i+1) σ (upd H D (.lst (us++[v]))):=by
 refine⟨vs,h1,by rw[<- r.length];lia,Hs,env,ys++[y],vs++[v],sr.JJ n h2 hD,n,aE,h2,r.snoc rv,by rw[TM];show ys.length+1<=i+1;lia,(az.bind h).imp (λzs hz=>?_) λ_ z=>z⟩;have QJ:KO Q Om H1 (ys++(y::zs)):=hz;rw[UJ];exact QJ
end
section
variable{cl:List (Str×Addr)}{pos:Pos}{wi:TI}{it:af->M (List PV)}{g:TG}{set:PV->af->M af}{f:af->M PV}{u:af->M Bool}{fs:List Str}
theorem xW{s₀:Shared}{ex:List Addr}:fc (nZ X scope cl N C s₀ H₀ ex N5) EF where
 pass:=λ_ _ _ _ _ _ _ h=>by
  obtain⟨_,_,_,_,_,_,_,_,_,_,_,_,_,z⟩:=h;exact z.elim
 new:=λ_ _ _ _ _ _ _ _ _ z=>z.elim
 own:=PassesOwn.never
theorem oI{Q:VK}(hv:yr E wi it)(QL:∀ E,A9 E g set)(so:lR set)(q:tO E (bZ it set none f ts.length js) σ H Q):wQ wi g (tE EF f) ts js σ H Q:=by
 refine hv σ H _ ?_;obtain⟨B,H₀,Hs,env,sr,q⟩:=q;refine⟨B,H₀,Hs,env,sr,(az.bind q).imp (λxs hp J Om H1 gr ok D hD=>?_) λe he=>he⟩;obtain⟨hz,hp⟩:=az.cM hp;have hp:=az.Ap hp;have RV:=sr.grow gr;refine⟨λi m σ H=>m=xs.length-i/\i<=xs.length/\Jc set none f Q Om H1 D xs i σ H,⟨xs.length,by simp,S9 _,Om,_,[],[],RV.block hD,fm,aE,?_,.nil,SX _,hp.imp (λzs hz vs p Oj H2 g2 r n=>hz vs p Oj H2 (gr.trans g2) r n) λ_ z=>z⟩,?_⟩
 .cases z:Om D with
  | none=>rfl
  | some o=>have:=gr.sub _ _ z;rw[hD] at this;cases this
 rintro i m σ' H2 ⟨rfl,hi,Oj,env2,ys,vs,OM,n2,d1,d2,r2,l2,h2⟩
 by_cases ON:i<xs.length
 .refine .inr ⟨ok.go i Oj H2 OM.gr.st OM.gr.sub ON,Jc set none f Q Om H1 D xs (i+1),fun σ3 H3 j=>⟨xs.length-(i+1),by lia,rfl,ON,j⟩,λx H3 y=>?_⟩;obtain⟨p,P7,ep,g3,r3⟩:=ok.wg i Oj H2 x H3 OM.gr.st OM.gr.sub ON y;have hd:xs.drop i=p::xs.drop (i+1):=by
   rw[VQ ON];rw[SW ON] at ep;rw[Ti ep]
  rw[hd] at h2;have h3:=az.bind h2;have Qu:=OM.grow g3;refine QL (λ_ _ _=>False) Om H1 P7 H3 σ' env2 p x _ (λ_=>False) Qu r3 ?_;cases hset:set p env2 with
  | none=>rw[hset] at h3;exact h3
  | some z=>cases z with
   | error e=>rw[hset] at h3;exact h3
   | ok e3 =>
    rw[hset] at h3;intro σ4 sr4;have n4:=so p env2 e3 hset n2;refine⟨Om,H1,P7,e3,sr4,(az.bind h3).imp (λy hy v R1 H5 g5 r5=>?_) λ_ z=>z.elim⟩;exact Jc.put (set:=set) (t:=none) (f:=f) hD (sr4.grow g5) n4 (g5.al _ _ (g3.al _ _ d1)) (g5.nw _ _ (g3.nw _ _ d2 d1) (g3.al _ _ d1)) ((r2.mono g3.st).mono g5.st) l2 (by lia) r5 hy
 .refine .inl ⟨ok.stop i Oj H2 OM.gr.st OM.gr.sub (by lia),?_⟩;exact Jc.done (set:=set) (t:=none) (f:=f) (xs:=xs) (Om:=Om) (H1:=H1) (i:=i) hD ⟨Oj,env2,ys,vs,OM,n2,d1,d2,r2,l2,h2⟩ (by lia)
theorem B5{Q:VK}(hv:yr E wi it)(QL:∀ E,A9 E g set)(so:lR set)(q:tO E (bZ it set (some u) f ts.length js) σ H Q):Bu wi g (tT EF u) (tE EF f) ts js σ H Q:=by
 refine hv σ H _ ?_;obtain⟨B,H₀,Hs,env,sr,q⟩:=q;refine⟨B,H₀,Hs,env,sr,(az.bind q).imp (λxs hp J Om H1 gr ok D hD=>?_) λe he=>he⟩;obtain⟨hz,hp⟩:=az.cM hp;have hp:=az.Ap hp;have RV:=sr.grow gr;refine⟨λi m σ H=>m=xs.length-i/\i<=xs.length/\Jc set (some u) f Q Om H1 D xs i σ H,⟨xs.length,by simp,S9 _,Om,_,[],[],RV.block hD,fm,aE,?_,.nil,SX _,hp.imp (λzs hz vs p Oj H2 g2 r n=>hz vs p Oj H2 (gr.trans g2) r n) λ_ z=>z⟩,?_⟩
 .cases z:Om D with
  | none=>rfl
  | some o=>have:=gr.sub _ _ z;rw[hD] at this;cases this
 rintro i m σ' H2 ⟨rfl,hi,Oj,env2,ys,vs,OM,n2,d1,d2,r2,l2,h2⟩
 by_cases ON:i<xs.length
 .refine .inr ⟨ok.go i Oj H2 OM.gr.st OM.gr.sub ON,Jc set (some u) f Q Om H1 D xs (i+1),fun σ3 H3 j=>⟨xs.length-(i+1),by lia,rfl,ON,j⟩,λx H3 y=>?_⟩;obtain⟨p,P7,ep,g3,r3⟩:=ok.wg i Oj H2 x H3 OM.gr.st OM.gr.sub ON y;have hd:xs.drop i=p::xs.drop (i+1):=by
   rw[VQ ON];rw[SW ON] at ep;rw[Ti ep]
  rw[hd] at h2;have h3:=az.bind h2;have Qu:=OM.grow g3;refine QL (λ_ _ _=>False) Om H1 P7 H3 σ' env2 p x _ (λ_=>False) Qu r3 ?_;cases hset:set p env2 with
  | none=>rw[hset] at h3;exact h3
  | some z=>cases z with
   | error e=>rw[hset] at h3;exact h3
   | ok e3 =>
    rw[hset] at h3;intro σ4 sr4;have n4:=so p env2 e3 hset n2;refine⟨Om,H1,P7,e3,sr4,(az.bind h3).imp (λb hb R1 H5 g5=>?_) λ_ z=>z.elim⟩;have d5:=g5.al _ _ (g3.al _ _ d1);have e5:=g5.nw _ _ (g3.nw _ _ d2 d1) (g3.al _ _ d1);cases b with
    | true =>
     refine⟨Om,H1,R1,e3,sr4.grow g5,(az.bind hb).imp (λy hy v Hs6 H6 g6 r6=>?_) λ_ z=>z.elim⟩;exact Jc.put (set:=set) (t:=some u) (f:=f) hD ((sr4.grow g5).grow g6) n4 (g6.al _ _ d5) (g6.nw _ _ e5 d5) (((r2.mono g3.st).mono g5.st).mono g6.st) l2 (by lia) r6 hy
    | false=>exact⟨R1,e3,ys,vs,sr4.grow g5,n4,d5,e5,(r2.mono g3.st).mono g5.st,by lia,hb⟩
 .refine .inl ⟨ok.stop i Oj H2 OM.gr.st OM.gr.sub (by lia),?_⟩;exact Jc.done (set:=set) (t:=some u) (f:=f) (xs:=xs) (Om:=Om) (H1:=H1) (i:=i) hD ⟨Oj,env2,ys,vs,OM,n2,d1,d2,r2,l2,h2⟩ (by lia)
theorem bH(Of:X.calm=true)
  (OB:closureFor scope X.env=pure cl) (hk:scope.kind=.function) (nc:fv scope.names=true) (lo:gA scope.names=true) (fh:gE cl scope.names=true) (ag:eE X cl) (fr:iC X scope cl fs js)
  (hi:PI X tg iter wi) (hv:yr E wi it) (hg:∀ C s₀ H₀ ex N5,PG (nZ X scope cl (ts++fs) C s₀ H₀ ex N5) tg g) (QL:∀ E,A9 E g set) (so:lR set) (he:∀ C s₀ H₀ ex N5,PE (nZ X scope cl (ts++fs) C s₀ H₀ ex N5) elt (tE EF f))
  (hs:autoParam (∀ x,foldedSetIterable iter X.env x=pure x) aI._auto_1):PE X (.ListComp elt [⟨tg,iter,[],0⟩] scope pos) (tO E (bZ it set none f ts.length js)):=by
 exact(B_ Of OB hk nc lo fh ag fr hi hg he hs).imp fun σ H Q q=>oI hv QL so q
theorem Dg(Of:X.calm=true)
  (OB:closureFor scope X.env=pure cl) (hk:scope.kind=.function) (nc:fv scope.names=true) (lo:gA scope.names=true) (fh:gE cl scope.names=true) (ag:eE X cl) (fr:iC X scope cl fs js)
  (hi:PI X tg iter wi) (hv:yr E wi it) (hg:∀ C s₀ H₀ ex N5,PG (nZ X scope cl (ts++fs) C s₀ H₀ ex N5) tg g) (QL:∀ E,A9 E g set) (so:lR set) (ht:∀ C s₀ H₀ ex N5,PT (nZ X scope cl (ts++fs) C s₀ H₀ ex N5) c (tT EF u)) (he:∀ C s₀ H₀ ex N5,PE (nZ X scope cl (ts++fs) C s₀ H₀ ex N5) elt (tE EF f))
  (hs:autoParam (∀ x,foldedSetIterable iter X.env x=pure x) aI._auto_1):PE X (.ListComp elt [⟨tg,iter,[c],0⟩] scope pos) (tO E (bZ it set (some u) f ts.length js)):=by
 exact(Dl Of OB hk nc lo fh ag fr hi hg ht he hs).imp fun σ H Q q=>B5 hv QL so q
def cT(fo:af->M (List PV)):af->M PV:=λenv=>(fo env).bind λps=>M.ok (.lst ps)
theorem cZ{fo:af->M (List PV)}(he:PE X e (tO E fo)):PE X e (tE E (cT fo)):=he.imp fun σ H Q q=>by
 obtain⟨B,H₀,Hs,env,sr,q⟩:=q;refine⟨B,H₀,Hs,env,sr,(az.bind q).imp (λps hp vs p Oa H' g r n=>?_) λe he=>he⟩;have gn:=bL.new (o:=.lst vs) g.sub n;exact hp _ _ _ (g.trans gn) (.lst aE (r.mono gn.st))
end
def uj(f:Str)(v:PV):List (Str×PV)->List (Str×PV)
 | []=>[(f,v)]
 | (g,x)::r=>if g=f then (g,v)::r else (g,x)::uj f v r
theorem iR.put{H:Hp}{f:Str}{p:PV}{v:V}(h:Rep H p v):∀ {fs:List (Str×PV)} {vs:List (Str×V)},iR H fs vs->iR H (uj f p fs) (jJ f v vs)
 | _,_,.nil=>.cons h .nil
 | (g,x)::r,_,.cons hx hr=>by
  unfold uj jJ
  by_cases z:g=f
  .rw[if_pos z,if_pos z];exact .cons h hr
  .rw[if_neg z,if_neg z];exact .cons hx (hr.put h)
theorem iR.length{H:Hp}:∀ {fs:List (Str×PV)} {vs:List (Str×V)},iR H fs vs->fs.length=vs.length
 | _,_,.nil=>rfl
 | _,_,.cons _ r=>by simp[r.length]
theorem SR.Md{B:Hp}{env:af}{a dx:Addr}{fs gs:List (Str×PV)}{us:List (Str×V)}(r:SR B H₀ Hs H σ env)(e:env[i]?=some (some (.bd a C fs)))(h:iR Hs gs us):SR B H₀ Hs (upd H a (.ins C dx us)) σ (env.set i (some (.bd a C gs))):=by
 obtain⟨dx0,vs,h1,h2,h3,h4,h5⟩:=r.bd i a C fs e;have nS:∀ c u,Hs c=some u->c≠a:=λc u q z=>by rw[z,h3] at q;cases q
 have n0:∀ c u,H₀ c=some u->c≠a:=λc u q z=>by rw[z,h4] at q;cases q
 refine⟨⟨r.gr.st,λc u q=>by rw[au (n0 c u q)];exact r.gr.al c u q,λc u q=>by rw[au (nS c u q)];exact r.gr.sub c u q,r.gr.nw⟩,by rw[UH];exact r.len,λj q ej=>?_,λj zs ej=>?_,λj k y1 y2 b nj e1 e2 e3 e4=>?_,λj ba D Rx ej=>?_,λj k _ _ C' D Rx gs' e1 e2=>?_⟩
 .rw[S5] at ej
  by_cases z:i=j
  .subst z;rw[if_pos rfl] at ej
   split at ej <;> cases ej
  .rw[if_neg z] at ej;exact r.sh j q ej
 .rw[S5] at ej
  by_cases z:i=j
  .subst z;rw[if_pos rfl] at ej
   split at ej <;> cases ej
  .rw[if_neg z] at ej;obtain⟨b,ws,q1,q2,q3,q4,q5⟩:=r.ow j zs ej;have nb:b≠a:=λw=>by subst w;rw[h2] at q2;cases q2
   exact⟨b,ws,q1,by rw[au nb];exact q2,q3,q4,q5⟩
 .rw[S5] at e1 e2
  by_cases z:i=j
  .subst z;rw[if_pos rfl] at e1
   split at e1 <;> cases e1
  .by_cases z2:i=k
   .subst z2;rw[if_pos rfl] at e2
    split at e2 <;> cases e2
   .rw[if_neg z] at e1;rw[if_neg z2] at e2;exact r.sep j k y1 y2 b nj e1 e2 e3 e4
 .rw[S5] at ej
  by_cases z:i=j
  .subst z;rw[if_pos rfl] at ej
   split at ej
   .cases ej;exact⟨dx,us,h1,aE,h3,h4,h⟩
   .cases ej
  .rw[if_neg z] at ej;exact absurd (r.one i j _ _ _ _ _ _ e ej) z
 .have o1:∃ b D w,env[j]?=some (some (.bd b D w)):=by
   rw[S5] at e1
   by_cases z:i=j
   .subst z;exact⟨_,_,_,e⟩
   .rw[if_neg z] at e1;exact⟨_,_,_,e1⟩
  have o2:∃ b D w,env[k]?=some (some (.bd b D w)):=by
   rw[S5] at e2
   by_cases z:i=k
   .subst z;exact⟨_,_,_,e⟩
   .rw[if_neg z] at e2;exact⟨_,_,_,e2⟩
  obtain⟨_,_,w1,o1⟩:=o1;obtain⟨_,_,w2,o2⟩:=o2;exact r.one j k _ _ _ _ _ _ o1 o2
def Dj(i:Nat)(C:Addr)(f:Str)(p:PV)(env:af):M Out:=match env[i]? with
 | some (some (.bd a C' fs))=>cM (C'=C/\fs.length<1000) (M.ok (.nx (env.set i (some (.bd a C (uj f p fs))))))
 | _=>none
def kQ(i:Nat)(C:Addr)(fl:Str)(f:af->M PV):af->M Out:=λenv=>(f env).bind λp=>Dj i C fl p env
section
variable{E:XK}{pos:Pos}{f:af->M PV}{fl:Str}
theorem kY(hi:X.N[i]?=some x)(hv:BQ X.env.scope x)(c:ma X.K C)(na:bX X.K C fl)(he:PE X e (tE (λ_=>E) f))(hd:autoParam ((x==("__debug__" : Str))=false) aD._auto_1)(Pc:autoParam ((x==("__classdict__" : Str))=false) aD._auto_1)
  (hs:autoParam (swapsWith e (some (.Attribute (.Name x px) fl pos')) pos.line X.env=pure false) aR._auto_1):PS X (.Assign [.Attribute (.Name x px) fl pos'] e pos) (tS E (kQ i C fl f)):=by
 refine(JE (kZ hi hv hd Pc) he hs).imp λD σ H q=>jU q λB H₀ Hs H1 env p v sr rp hp=>?_;unfold Dj at hp
 split at hp
 .rename_i a C' fs ex;obtain⟨⟨rfl,hz⟩,hp⟩:=az.cM hp;obtain⟨dx,vs,h1,h2,h3,h4,h5⟩:=sr.bd i a _ fs ex;exact⟨.ref a,h1,a,_,dx,vs,rfl,h2,c,na,by rw[<- h5.length];exact hz,hp σ Hs _ (sr.Md ex (h5.put rp))⟩
 .exact hp.elim
end
def yO(m:Nat)(a C:Addr)(ps:List PV):af:=some (.bd a C [])::kP (m-1) ps
def Dk(a C:Addr)(env:af):M (List (Str×PV)):=match (env[0]?:Option (Option SV)) with
 | some (some (.bd b D fs))=>cM (b=a/\D=C) (M.ok fs)
 | _=>none
def outI(a C:Addr):Out->M (List (Str×PV))
 | .nx env=>Dk a C env
 | _=>none
def yS(m:Nat)(g:af->M Out)(C a:Addr)(ps:List PV):M (List (Str×PV)):=(g (yO m a C ps)).bind (outI a C)
def GV(s:Addr->M α):M α:=open Classical in if h:∃ r,∀ a,s a=r then h.choose else none
theorem Cb{s:Addr->M α}{r:M α}(h:∀ a,s a=r):GV s=r:=by
 have hx:∃ r,∀ a,s a=r:=⟨r,h⟩
 unfold GV;rw[dif_pos hx,<- hx.choose_spec 0,h 0]
theorem az.GV{α:Type}{s:Addr->M α}{Q:α->Prop}{E:EX->Prop}(h:az (L2.GV s) Q E)(a:Addr):az (s a) Q E:=by
 unfold L2.GV at h
 split at h
 .rename_i hx;rw[hx.choose_spec a];exact h
 .exact h.elim
def FU(n:Nat)(C:Addr)(sem:Addr->List PV->M (List (Str×PV))):Sp:=λvs H Q E=>vs.length=n/\∃ a dx us Hs H1 ps,vs=.ref a::us/\H1 a=none/\H1 dx=none/\dx≠a/\H=upd (upd H1 dx (.own a)) a (.ins C dx [])/\bw Hs H1/\aP Hs ps us ∧
 az (sem a ps) (λfs=>∀ RW ws Oa H',bL Hs H1 Oa H'->H' a=some (.ins C RW ws)->Oa a=none->iR Oa fs ws->Q .cJ H') (XW E Hs H1)
theorem SR.HL{a dx:Addr}{ps:List PV}(s:bw Hs H₀)(hN:0<N.length)(ha:H₀ a=none)(r:aP Hs ps vs)(hH:H=upd H₀ a (.ins C dx [])):SR Hs H₀ Hs H (L2.start N (.ref a::vs)) (yO N.length a C ps):=by
 have hs:Hs a=none:=by
  cases q:Hs a with
  | none=>rfl
  | some o=>have:=s _ _ q;rw[ha] at this;cases this
 have ne:∀ c u,H₀ c=some u->c≠a:=λc u e z=>by rw[z,ha] at e;cases e
 have s0:=SR.start (N:=N.tail) s r;have e1:L2.start N (.ref a::vs)=some (.ref a)::L2.start N.tail vs:=by
  unfold L2.start;simp only[Tw,List.cons_append,T5,ZT];rw[Nat.sub_sub,Yt]
 have e2:yO N.length a C ps=some (.bd a C [])::kP N.tail.length ps:=by unfold yO;rw[ZT]
 have al:bw H₀ H:=λc u q=>by rw[hH,au (ne c u q)];exact q
 rw[e1,e2];refine⟨⟨λ_ _ e=>e,al,λc u q=>al c u (s c u q),λc u q _=>q⟩,by simp[s0.len],λj q ej=>?_,λj zs ej=>?_,λj k y1 y2 b nj e1 e2 e3 e4=>?_,λj ba D Rx ej=>?_,λj k a1 a2 C' D Rx gs' e1 e2=>?_⟩
 .cases j with
  | zero=>cases ej
  | succ j=>exact s0.sh j q (by simpa using ej)
 .cases j with
  | zero=>cases ej
  | succ j=>exact absurd (s0.ow j zs (by simpa using ej)) (λ⟨b,ws,q1,q2,q3,q4,q5⟩=>by rw[q4] at q2;cases q2)
 .cases j with
  | zero=>cases e1
  | succ j=>exact absurd (s0.ow j y1 (by simpa using e1)) (λ⟨b,ws,q1,q2,q3,q4,q5⟩=>by rw[q4] at q2;cases q2)
 .cases j with
  | zero=>cases ej;exact⟨dx,[],rfl,by rw[hH];exact aE,hs,ha,.nil⟩
  | succ j=>exact absurd (s0.bd j ba D Rx (by simpa using ej)) (λ⟨b,ws,q1,q2,q3,q4,q5⟩=>by rw[q4] at q2;cases q2)
 .cases j with
  | zero=>cases k with
   | zero=>rfl
   | succ k=>exact absurd (s0.bd k a2 D gs' (by simpa using e2)) (λ⟨b,ws,q1,q2,q3,q4,q5⟩=>by rw[q4] at q2;cases q2)
  | succ j=>exact absurd (s0.bd j a1 C' Rx (by simpa using e1)) (λ⟨b,ws,q1,q2,q3,q4,q5⟩=>by rw[q4] at q2;cases q2)
theorem Fn{K:PySem.W.Frag}{dV kV doc pm Ox ct oc:Value}{an:Option Addr}{g:af->M Out}(lk:K.lookup f=some ⟨oc,od,.func (PySem.W.fnOf name qual params body scope dV kV doc pm an Ox ct),Rf⟩)(Pc:PySem.W.codeIn K Ox qual=true)(S:cH N ps scope)(hN:0<N.length)
  (hb:∀ (A:Around) (outer:List Env) (s:Shared) (H:Hp) (E:XK),cA k (A.deeper (envOfC qual scope s.heap.objs.size f Ox))->kN ((lF (bW P w) P w K mg base N qual scope f Ox A outer s H E).out λ_=>E) body (tS E g)) :
  aY P w K mg base (bW P w) (k+1) f (PySem.W.fnOf name qual params body scope dV kV doc pm an Ox ct) ps (FU ps.length C (yS N.length g C)):=by
 refine xv lk Pc S (λvs H Q E h=>h.1) λA outer s H vs Q E hr hs=>⟨_,hb A outer s H E hr,?_⟩
 obtain⟨_,a,dx,us,Hs,H1,P5,rfl,ha,hdx,QC,hH,sm,r,h⟩:=hs;have ne:∀ c u,H1 c=some u->c≠dx:=λc u e z=>by rw[z,hdx] at e;cases e
 have s0:bw H1 (upd H1 dx (.own a)):=λc u q=>by rw[au (ne c u q)];exact q
 have g0:bL Hs H1 Hs (upd H1 dx (.own a)):=⟨λ_ _ e=>e,s0,λc u q=>s0 c u (sm c u q),λ_ _ e _=>e⟩
 refine⟨Hs,_,Hs,_,SR.HL (dx:=dx) g0.sub hN (by rw[au (Vb QC)];exact ha) r hH,(az.bind h).imp (λo ho=>?_) λe he=>he.grow g0⟩;cases o with
 | rt p=>exact ho.elim
 | bk env=>exact ho.elim
 | ct env=>exact ho.elim
 | nx env =>
  intro σ Oa H' sr;have Ql:az (Dk a C env) _ _:=ho;unfold Dk at Ql
  split at Ql
  .rename_i b D fs ex;obtain⟨⟨rfl,rfl⟩,hp⟩:=az.cM Ql;obtain⟨RW,ws,h1,h2,h3,h4,h5⟩:=sr.bd 0 _ _ fs ex;exact hp RW ws Oa H' (g0.trans sr.gr) h2 h3 h5
  .exact Ql.elim
def f6(C:Addr)(sem:Addr->List PV->M (List (Str×PV)))(P1:List PV)(ps:List PV):M PV:=(GV λa=>sem a (ps++P1)).bind λfs=>M.ok (.obj C fs)
section
variable{ns:List Str}{sem:Addr->List PV->M (List (Str×PV))}{p pos:Pos}{fs:af->M (List PV)}
theorem EC(Mk:Mk X.K C f)(F:aY X.prog X.w X.K X.mg X.base (bW X.prog X.w) k f fd ns (FU n C sem))(hr:cA (k+1) X.A)(hg:Gl X x)(hm:X.mg x=some (.ref C))(hb:Binds X.K fd ns ds)(hd:Vals OZ ds)(hdp:∀ H,aP H P1 OZ)(O:fc X E)
  (hl:∀ a ps,sem a (ps++P1)≠none->ps.length+P1.length+1=n)
  (ha:PA X (e::es) (tL E fs)) (Pa:autoParam ((x==("__debug__" : Str))=false) aD._auto_1) (he:autoParam (starEach (e::es) X.env=(false,eval e X.env)::starEach es X.env) aR._auto_1) (OH:autoParam ((backTo pos (starEach es X.env)).any (·.1)=false) aR._auto_1) :
  PE X (.Call (.Name x p) (e::es) [] pos) (tE E (ai (f6 C sem P1) fs)):=by
 refine(A0 Mk F hr hg hm hb hd O ha Pa he OH).imp fun σ H Q q=>du (K:=kB Q) kB.g q λB H₀ Hs H1 env P5 v sr rp hp=>?_;intro a dx ha hdx QC;have r2:aP Hs (P5++P1) (v++OZ):=rp.append (hdp Hs);have Rk:=(az.bind hp).GV a;have hn:sem a (P5++P1)≠none:=λz=>by
  rw[z] at Rk;exact Rk
 refine⟨?_,a,dx,v++OZ,Hs,H1,P5++P1,rfl,ha,hdx,QC,rfl,sr.gr.sub,r2,Rk.imp (λfl hfl RW ws Oa H' g hw RP PX=>⟨rfl,?_⟩) λe he=>he⟩
 .show (v++OZ).length+1=n;rw[<- r2.length,TM];exact hl a P5 hn
 .have ne:∀ c u,Oa c=some u->c≠a:=λc u q z=>by rw[z,RP] at q;cases q
  have Oz:bw Oa (upd Oa a (.ins C RW ws)):=λc u q=>by rw[au (ne c u q)];exact q
  refine hfl (.ref a) (upd Oa a (.ins C RW ws)) H' ⟨λc u q=>Oz c u (g.st c u q),g.al,λc u q=>?_,λc u q1 q2=>?_⟩ (.obj aE (PX.mono Oz))
  .by_cases z:c=a
   .subst z;rw[aE] at q;cases q;exact hw
   .rw[au z] at q;exact g.sub c u q
  .have z:c≠a:=λz=>by rw[z,ha] at q2;cases q2
   rw[au z];exact g.nw c u q1 q2
end
section
variable{a b:Expr}{pos:Pos}{f g h:af->M PV}
theorem mZ{m:Nat}(h:n.log2<m):n<2^m:=by
 by_cases z:n=0
 .subst z;exact Vx m
 .exact(Z2 z).mp h
theorem aP.rep{H:Hp}{xs:List PV}{vs:List V}(r:aP H xs vs):∀ k:Nat,aP H (SS k xs).flatten (SS k vs).flatten
 | 0=>.nil
 | k+1=>by rw[UI,UI,U9,U9];exact r.append (r.rep k)
def bV:PV->PV->M PV
 | .int i,.int j=>cM (i.natAbs.log2<67108864/\j.natAbs.log2<67108864) (M.ok (.int (i*j)))
 | .tup xs,.int k=>cM (xs.isEmpty=false/\-(2^63)<=k/\k<2^63/\xs.length*k.toNat<=sizeLine) (M.ok (.tup (SS k.toNat xs).flatten))
 | .lst xs,.int k=>cM (-(2^63)<=k/\k<2^63/\xs.length*k.toNat<=sizeLine) (M.ok (.lst (SS k.toNat xs).flatten))
 | _,_=>none
def F8(K:PySem.W.Frag):R2:=λx y H Q=>(rI (λi j=>IntMulOk i j) λi j=>.int (i*j)) x y H Q\/FZ K x y H Q\/J1 x y H Q
theorem Fy:hV X (binaryOp .Mult) (F8 X.K):=hV.or FI (hV.or DO C4)
theorem Il{K:PySem.W.Frag}:mB E (F8 K) bV:=by
 intro σ Hs H p q v u Q s rp rq h;cases rp with
 | int i=>cases rq with
  | int j =>
   obtain⟨hz,h⟩:=az.cM h;exact .inl ⟨i,j,rfl,rfl,Av (mZ hz.1) (mZ hz.2) (SX _),eD.flat h s (.int _)⟩
  | _=>exact h.elim
 | @tup a xs vs ha hx=>cases rq with
  | int k =>
   obtain⟨⟨h0,h1,h2,h3⟩,h⟩:=az.cM h;have n1:vs≠[]:=λz=>by
    have:=hx.length;rw[z] at this;cases xs with
    | nil=>cases h0
    | cons _ _=>cases this
   refine .inr (.inl ⟨a,k,vs,rfl,rfl,gi.of (s _ _ ha),n1,h1,h2,by rw[<- hx.length];exact h3,λz=>?_,λz=>eD.tup h s (hx.rep _)⟩);subst z;rw[show (1:Int).toNat=1 from rfl,UI,List.replicate_zero,U9,List.flatten_nil,Ul] at h;exact eD.flat h s (.tup ha hx)
  | _=>exact h.elim
 | @lst a xs vs ha hx=>cases rq with
  | int k =>
   obtain⟨⟨h1,h2,h3⟩,h⟩:=az.cM h;exact .inr (.inr ⟨a,k,vs,rfl,rfl,s _ _ ha,h1,h2,by rw[<- hx.length];exact h3,eD.lst h s (hx.rep _)⟩)
  | _=>exact h.elim
 | _=>exact h.elim
theorem EN:mB E (rI BK λi j=>.int (i.fdiv j)) (BL (λ_ j=>decide (j≠0/\j.natAbs.log2<9000)) λi j=>i.fdiv j):=BF λi j z=>(of_decide_eq_true z:j≠0/\j.natAbs.log2<9000)
theorem Jg:mB E (rI (λ_ j=>j≠0) λi j=>.int (i.fmod j)) (BL (λ_ j=>decide (j≠0)) λi j=>i.fmod j):=BF λi j z=>of_decide_eq_true z
def KJ:PV->M PV
 | .int i=>M.ok (.int (-i))
 | _=>none
def jH(f:af->M PV):af->M PV:=λenv=>(f env).bind KJ
theorem Ij(ha:PE X a (tE E f)):PE X (.UnaryOp .USub a pos) (tE E (jH f)) :=
 (JW IW ha).imp fun σ H Q q=>Ko q λHs H1 p v s rp h=>by
  cases rp with
  | int i=>exact⟨i,rfl,eD.flat h s (.int _)⟩
  | _=>exact h.elim
def rM:PV->Bool
 | .cJ=>true
 | _=>false
theorem u6(r:Rep H p v):decide (v=.cJ)=rM p:=by
 cases r <;> rfl
def Bh:PV->PV->M PV
 | p,.cJ=>M.ok (.bl (rM p))
 | _,_=>none
def kA:PV->PV->M PV
 | p,.cJ=>M.ok (.bl (!rM p))
 | _,_=>none
theorem Bj:mB E (λx y H Q=>y=.cJ/\Q (.bl (decide (x=.cJ))) H) Bh:=by
 intro σ Hs H p q v u Q s rp rq h;cases rq with
 | cJ =>
  have h':az (M.ok (PV.bl (rM p))) (eD Hs H Q) (XW (E σ) Hs H):=by cases p <;> exact h
  exact⟨rfl,by rw[u6 rp];exact eD.flat h' s (.bl _)⟩
 | _=>cases p <;> exact h.elim
theorem yj:mB E (λx y H Q=>y=.cJ/\Q (.bl (!decide (x=.cJ))) H) kA:=by
 intro σ Hs H p q v u Q s rp rq h;cases rq with
 | cJ =>
  have h':az (M.ok (PV.bl (!rM p))) (eD Hs H Q) (XW (E σ) Hs H):=by cases p <;> exact h
  exact⟨rfl,by rw[u6 rp];exact eD.flat h' s (.bl _)⟩
 | _=>cases p <;> exact h.elim
def lh(o o':PV->PV->M PV)(f g h:af->M PV):af->M PV:=λenv=>(f env).bind λp=>(g env).bind λq=>(o p q).bind λz=>(xw z).bind λk=>if k=true then (h env).bind λr=>o' q r else M.ok (.bl false)
theorem Ci{r r':R2}{o o':PV->PV->M PV}(hv:mB E r o)(Rt:mB E r' o'){Q:VK}(q:tE E (lh o o' f g h) σ H Q):CV r r' (tE E f) (tE E g) (tE E h) σ H Q:=by
 refine cu (K:=kB Q) kB.g q λB H₀ Hs H1 env p v sr rp hp=>?_;refine⟨B,H₀,Hs,env,sr,(az.bind hp).imp (λq hq u Oj H2 g2 ru=>?_) λe he=>he⟩;have OM:=sr.grow g2;refine hv σ Oj H2 p q v u _ OM.gr.sub (rp.mono g2.st) ru ((az.bind hq).imp (λz hz w P7 H3 g3 PX=>?_) λe he=>he.grow g2);obtain⟨k,ek,hk⟩:=az.LQ (az.bind hz);subst ek;cases PX;refine⟨k,rfl,?_⟩;have Qu:=OM.grow g3;cases k with
 | false=>exact hk _ _ _ (g2.trans g3) (.bl _)
 | true =>
  have RC:az ((h env).bind λr=>o' q r) (kB Q Hs H1) (XW (E σ) Hs H1):=hk;refine⟨B,H₀,P7,env,Qu,(az.bind RC).imp (λr hr w Hs4 H4 g4 rw4=>?_) λe he=>he.grow (g2.trans g3)⟩;exact Rt σ Hs4 H4 q r u w Q (Qu.grow g4).gr.sub ((ru.mono g3.st).mono g4.st) rw4 (hr.imp (λz hz w' R1 H5 g5 r5=>hz w' R1 H5 ((g2.trans g3).trans (g4.trans g5)) r5) λe he=>he.grow ((g2.trans g3).trans g4))
theorem vt{RT:CmpOp}{r r':R2}{o o':PV->PV->M PV}(ho:hV X (compareOp op) r)(hv:mB E r o)(Ql:hV X (compareOp RT) r')(Rt:mB E r' o')(ha:PE X a (tE E f))(hb:PE X b (tE E g))(hc:PE X c (tE E h))
  (hm:autoParam (lastMarks [op,RT] [b,c]=false) aU._auto_1):PE X (.Compare a [op,RT] [b,c] pos) (tE E (lh o o' f g h)) :=
 (Ct ho Ql ha hb hc hm).imp fun σ H Q q=>Ci hv Rt q
def cL(u:af->M Bool)(b:af->M Out):Nat->af->M Out
 | 0,_=>none
 | n+1,env=>(u env).bind λt=>if t=true then (b env).bind λo=>match o with
   | .nx N_=>cL u b n N_
   | .ct N_=>cL u b n N_
   | .bk N_=>M.ok (.nx N_)
   | .rt p=>M.ok (.rt p)
  else M.ok (.nx env)
theorem zo{E:XK}{u:af->M Bool}{g:af->M Out}(n:af->Nat)(O:fc X λ_=>E)(hc:PT X c (tT (λ_=>E) u))(hb:kN X body (tS E g)):PS X (.While c body [] pos) (tS E λenv=>cL u g (n env) env):=by
 refine(Dw O.own hc hb).imp λD σ H q=>?_;obtain⟨B,H₀,Hs,env,sr,q⟩:=q;refine⟨λm σ H=>∃ Hs env,SR B H₀ Hs H σ env/\az (cL u g m env) (KS D B H₀) (XW E B H₀),⟨n env,Hs,env,sr,q⟩,?_⟩;rintro m σ1 H1 ⟨Om,env1,RV,q1⟩;cases m with
 | zero=>exact q1.elim
 | succ m =>
  refine⟨B,H₀,Om,env1,RV,(az.bind q1).imp (λt ht Oj H2 g2=>?_) λe he=>he.grow RV.gr⟩;have OM:=RV.grow g2;cases t with
  | false=>exact ht σ1 Oj H2 OM
  | true =>
   refine⟨fun σ' H'=>∃ Oa N_,SR B H₀ Oa H' σ' N_/\az (cL u g m N_) (KS D B H₀) (XW E B H₀),fun σ' H' z=>⟨m,Ve m,z⟩,B,H₀,Oj,env1,OM,(az.bind ht).imp (λo ho=>?_) λe he=>he⟩;cases o with
   | nx N_=>exact fun σ' Oa H' PL=>⟨Oa,N_,PL,ho⟩
   | ct N_=>exact fun σ' Oa H' PL=>⟨Oa,N_,PL,ho⟩
   | bk N_=>exact ho
   | rt p=>exact ho
theorem jg{u:af->M Bool}{g:af->M Out}:∀ (n k:Nat) (env:af),cL u g n env≠none->cL u g (n+k) env=cL u g n env
 | 0,_,_,h=>(h rfl).elim
 | n+1,k,env,h=>by
  rw[show n+1+k=(n+k)+1 by lia];unfold cL at h ⊢;cases hu:u env with
  | none=>rfl
  | some z =>
   cases z with
   | error e=>rfl
   | ok t =>
    rw[hu] at h;cases t with
    | false=>rfl
    | true =>
     show M.bind (g env) _=M.bind (g env) _;have h':M.bind (g env) (λo=>match o with
      | .nx N_=>cL u g n N_
      | .ct N_=>cL u g n N_
      | .bk N_=>M.ok (.nx N_)
      | .rt p=>M.ok (.rt p))≠none:=h
     cases hg:g env with
     | none=>rfl
     | some z =>
      cases z with
      | error e=>rfl
      | ok o =>
       rw[hg] at h';cases o with
       | nx N_=>exact jg n k N_ h'
       | ct N_=>exact jg n k N_ h'
       | bk N_=>rfl
       | rt p=>rfl
def kU(u:af->M Bool)(b:af->M Out)(env:af):M Out:=open Classical in cL u b (if h:∃ n,cL u b n env≠none then h.choose else 0) env
theorem yI{u:af->M Bool}{b:af->M Out}{env:af}(h:cL u b n env≠none):kU u b env=cL u b n env:=by
 have hx:∃ n,cL u b n env≠none:=⟨n,h⟩
 unfold kU;rw[dif_pos hx];have h1:=hx.choose_spec;rw[<- jg _ n env h1,<- jg n hx.choose env h,Yt]
theorem uK{E:XK}{u:af->M Bool}{g:af->M Out}(O:fc X λ_=>E)(hc:PT X c (tT (λ_=>E) u))(hb:kN X body (tS E g)):PS X (.While c body [] pos) (tS E (kU u g)) :=
 zo (λenv=>open Classical in if h:∃ n,cL u g n env≠none then h.choose else 0) O hc hb
end
def Lq:PV->Option String
 | .cJ=>some "NoneType"
 | .bl _=>some "bool"
 | .int _=>some "int"
 | .str _=>some "str"
 | .lst _=>some "list"
 | .jV _=>some "list"
 | .tup _=>some "tuple"
 | .emp=>some "dict"
 | _=>none
def qF(a t:String):Bool:=a==t||(a == "bool" && t == "int")
theorem ny(K:PySem.W.Frag):PySem.W.kitOne K (.type "NoneType") (.type "int")=some false:=by with_unfolding_all kernel_rfl
theorem vv(K:PySem.W.Frag):PySem.W.kitOne K (.type "bool") (.type "int")=some true:=by with_unfolding_all kernel_rfl
def tys:List String:=["int", "bool", "str", "list", "tuple"]
theorem K4(K:PySem.W.Frag){a t:String}(ha:Lq p=some a)(ht:t∈tys):PySem.W.kitOne K (.type a) (.type t)=some (qF a t):=by
 have ht2:t = "int" \/ t = "bool" \/ t = "str" \/ t = "list" \/ t = "tuple" := by simpa [tys] using ht
 cases p <;> cases ha <;> rcases ht2 with rfl | rfl | rfl | rfl | rfl <;> first
  | exact ny K
  | exact kt_NoneType_bool K
  | exact kt_NoneType_str K
  | exact kt_NoneType_list K
  | exact kt_NoneType_tuple K
  | exact vv K
  | exact kt_bool_bool K
  | exact kt_bool_str K
  | exact kt_bool_list K
  | exact kt_bool_tuple K
  | exact kt_int_int K
  | exact kt_int_bool K
  | exact kt_int_str K
  | exact kt_int_list K
  | exact kt_int_tuple K
  | exact kt_str_int K
  | exact kt_str_bool K
  | exact kt_str_str K
  | exact kt_str_list K
  | exact kt_str_tuple K
  | exact kt_list_int K
  | exact kt_list_bool K
  | exact kt_list_str K
  | exact kt_list_list K
  | exact kt_list_tuple K
  | exact kt_tuple_int K
  | exact kt_tuple_bool K
  | exact kt_tuple_str K
  | exact kt_tuple_list K
  | exact kt_tuple_tuple K
  | exact kt_dict_int K
  | exact kt_dict_bool K
  | exact kt_dict_str K
  | exact kt_dict_list K
  | exact kt_dict_tuple K
theorem Ba{K:PySem.W.Frag}{a:String}(s:bw Hs H)(r:Rep Hs p v)(ha:Lq p=some a):jM K H v (.type a):=by
 cases r with
 | cJ=>cases ha;exact .cJ
 | bl b=>cases ha;exact .bl b
 | int i=>cases ha;exact .int i
 | str x=>cases ha;exact .str x
 | tup h _=>cases ha;exact .tup (s _ _ h)
 | lst h _=>cases ha;exact .lst (s _ _ h)
 | jV h _=>cases ha;exact .qL (s _ _ h)
 | emp h=>cases ha;exact .dK (s _ _ h)
 | _=>cases ha
theorem ye(K:PySem.W.Frag){p:PV}{a:String}(ha:Lq p=some a):∀ {Ts:List String},(∀ t∈Ts,t∈tys)->PySem.W.kitAny K (.type a) (Ts.map U7)=some (Ts.any λt=>qF a t)
 | [],_=>rfl
 | t::r,h=>by
  have h1:=K4 K ha (h t Tp);have h2:=ye K ha (Ts:=r) λt q=>h t (Tf _ q);simp only[Tw,PySem.W.kitAny,h1,List.any_cons];cases qF a t with
  | true=>rfl
  | false=>exact h2
structure GS (K:PySem.W.Frag) (C:Addr):Prop where
 cls:ma K C
 ha:PySem.W.findIn K (.ref C) "__class__" = some (some (.builtin "object.__class__"))
 hn:PySem.W.specialIn K (.builtin "object.__class__") "__get__" = some (some (.builtin "getset_descriptor.__get__"))
 JP:PySem.W.takesIn K (.builtin "object.__class__")=some true
 hm:PySem.W.mroIn K C (.type "object")=some true
def B7(b:String->Bool)(ob oe:Addr->Option Bool):PV->M PV
 | .obj C _=>eZ ((ob C).map .bl)
 | .exc C _=>eZ ((oe C).map .bl)
 | p=>eZ ((Lq p).map λa=>.bl (b a))
section
variable{pos p pt:Pos}{f:af->M PV}{T:String}{ob oe:Addr->Option Bool}
theorem HF{fo:Option (List (Str×PV))}(s:bw Hs H)(r:Rep Hs (.exc C fo) v):∃ a fo',v=.ref a/\ExcAt H a C fo':=by
 cases r with
 | @xq a _ h=>exact⟨a,none,rfl,s _ _ h⟩
 | @wN a _ d _ vs h h2 _=>exact⟨a,some vs,rfl,d,s _ _ h,s _ _ h2⟩
def Gj(b:String->Bool)(ob oe:Addr->Option Bool)(f:af->M PV):af->M PV:=λenv=>(f env).bind (B7 b ob oe)
theorem vy{b:String->Bool}{p:PV}{Q:PV->Prop}{F:EX->Prop}(h:az (B7 b ob oe p) Q F):(∃ a,Lq p=some a/\Q (.bl (b a)))\/(∃ C fs k,p=.obj C fs/\ob C=some k/\Q (.bl k))\/∃ C fo k,p=.exc C fo/\oe C=some k/\Q (.bl k):=by
 cases p with
 | obj C fs =>
  obtain⟨z,e,q⟩:=az.opt h;obtain⟨k,e2,rfl⟩:=Tv.mp e;exact .inr (.inl ⟨C,fs,k,rfl,e2,q⟩)
 | exc C fo =>
  obtain⟨z,e,q⟩:=az.opt h;obtain⟨k,e2,rfl⟩:=Tv.mp e;exact .inr (.inr ⟨C,fo,k,rfl,e2,q⟩)
 | cJ=>exact .inl ⟨_,rfl,h⟩
 | bl _=>exact .inl ⟨_,rfl,h⟩
 | int _=>exact .inl ⟨_,rfl,h⟩
 | str _=>exact .inl ⟨_,rfl,h⟩
 | tup _=>exact .inl ⟨_,rfl,h⟩
 | lst _=>exact .inl ⟨_,rfl,h⟩
 | jV _=>exact .inl ⟨_,rfl,h⟩
 | emp=>exact .inl ⟨_,rfl,h⟩
theorem Bg{K:PySem.W.Frag}{fs:List (Str×PV)}(s:bw Hs H)(r:Rep Hs (.obj C fs) v)(c:GS K C):jM K H v (.ref C):=by
 cases r with
 | obj h _=>exact .ins (s _ _ h) c.cls c.ha c.hn c.JP c.hm
theorem xg(hg:Gl X "isinstance")(hm:X.mg "isinstance" = none)(hT:PE X (.Name x pt) (tC (.ty T)))(ht:T∈tys)(Ss:∀ C b,ob C=some b->GS X.K C/\PySem.W.kitOne X.K (.ref C) (.type T)=some b)(PZ:∀ C b,oe C=some b->jy X.K C/\PySem.W.kitOne X.K (.ref C) (.type T)=some b)(he:PE X e (tE E f))
  (h1:autoParam (starEach [e,.Name x pt] X.env=(false,eval e X.env)::starEach [.Name x pt] X.env) aR._auto_1) (h2:autoParam (starEach [.Name x pt] X.env=(false,eval (.Name x pt) X.env)::starEach [] X.env) aR._auto_1) (OH:autoParam ((backTo pos (starEach [.Name x pt] X.env)).any (·.1)=false) aR._auto_1) :
  PE X (.Call (.Name "isinstance" p) [e,.Name x pt] [] pos) (tE E (Gj (λa=>qF a T) ob oe f)):=by
 refine(pO (dw.or AU CQ) hg hm CS (fI he (fI hT kW h2) h1) (by decide) (by decide) h1 OH).imp fun σ H Q q=>cu (K:=kB Q) kB.g q λB H₀ Hs H1 env p v sr rp hp=>?_;rcases vy hp with ⟨a,ha,q⟩ | ⟨C,fs,k,rfl,e,q⟩ | ⟨C,fo,k,rfl,e,q⟩
 .exact .inl ⟨v,T,_,_,rfl,Ba sr.gr.sub rp ha,K4 X.K ha ht,eD.flat q sr.gr.sub (.bl _)⟩
 .exact .inl ⟨v,T,_,_,rfl,Bg sr.gr.sub rp (Ss C k e).1,(Ss C k e).2,eD.flat q sr.gr.sub (.bl _)⟩
 .obtain⟨a,fo',rfl,hx⟩:=HF sr.gr.sub rp;exact .inr ⟨a,C,fo',k,(PZ C k e).1,hx,.inl ⟨T,rfl,(PZ C k e).2⟩,eD.flat q sr.gr.sub (.bl _)⟩
theorem EW{e2:Expr}{t2:TE}{Ts:List String}(hg:Gl X "isinstance")(hm:X.mg "isinstance" = none)(hT:PE X e2 t2)(ht2:∀ σ H R,(∀ p,H p=none->R (.ref p) (upd H p (.tup (Ts.map V.ty))))->t2 σ H R)(ht:∀ t∈Ts,t∈tys)(Ss:∀ C b,ob C=some b->GS X.K C/\PySem.W.kitAny X.K (.ref C) (Ts.map U7)=some b)(he:PE X e (tE E f))
  (h1:autoParam (starEach [e,e2] X.env=(false,eval e X.env)::starEach [e2] X.env) aR._auto_1) (h2:autoParam (starEach [e2] X.env=(false,eval e2 X.env)::starEach [] X.env) aR._auto_1) (OH:autoParam ((backTo pos (starEach [e2] X.env)).any (·.1)=false) aR._auto_1) :
  PE X (.Call (.Name "isinstance" p) [e,e2] [] pos) (tE E (Gj (λa=>Ts.any λt=>qF a t) ob (λ_=>none) f)):=by
 refine(pO yL hg hm CS (fI he (fI hT kW h2) h1) (by decide) (by decide) h1 OH).imp fun σ H Q q=>cu (K:=kB Q) kB.g q λB H₀ Hs H1 env p v sr rp hp=>?_;refine ht2 σ H1 _ λtp hn=>?_;have g:=bL.new (o:=.tup (Ts.map V.ty)) sr.gr.sub hn;rcases vy hp with ⟨a,ha,q⟩ | ⟨C,fs,k,rfl,e,q⟩ | ⟨C,fo,k,rfl,e,q⟩
 .exact⟨v,tp,Ts,_,_,rfl,aE,Ba g.sub (rp.mono g.st) ha,ye X.K ha ht,q _ _ _ g (.bl _)⟩
 .exact⟨v,tp,Ts,_,_,rfl,aE,Bg g.sub (rp.mono g.st) (Ss C k e).1,(Ss C k e).2,q _ _ _ g (.bl _)⟩
 .cases e
end
section
open PySem.SeqAt (shaped noMix noMixAll)
mutual
def dat:PV->Option PyData
 | .cJ=>some .none
 | .bl b=>some (.bool b)
 | .int i=>some (.int i)
 | .str x=>some (.str x)
 | .tup xs=>(my xs).map .tuple
 | .lst xs=>(my xs).map .list
 | .jV xs=>(my xs).map .list
 | .obj _ _=>none
 | .exc _ _=>none
 | .emp=>none
def my:List PV->Option (List PyData)
 | []=>some []
 | p::r=>(dat p).bind λd=>(my r).map (d::·)
end
mutual
theorem Rep.reads{Hs:Hp}(I:Inv X N5 σ H s)(sm:bw Hs H):∀ {p:PV} {v:V} {u:Value} {d:PyData},Rep Hs p v->RelV v u->dat p=some d->∃ as,Reads s.heap u d as
 | _,_,u,d,.cJ,r,e=>by
  cases e;cases (show u=Um from r);exact⟨_,.none⟩
 | _,_,u,d,.bl b,r,e=>by
  cases e;cases (show u=Vv b from r);exact⟨_,.bool b⟩
 | _,_,u,d,.int i,r,e=>by
  cases e;obtain⟨t,rfl⟩:=(show ∃ t,u=XD i t from r);exact⟨_,.int i t⟩
 | _,_,u,d,.str i,r,e=>by
  cases e;obtain⟨t,rfl⟩:=(show ∃ t,u=X_ i t from r);exact⟨_,.str i t⟩
 | _,_,u,d,.tup (a:=a) ha hx,r,e=>by
  obtain⟨ds,e2,rfl⟩:=Tv.mp (show (my _).map PyData.tuple=some d from e);cases (show u=Td a from r);obtain⟨N9,r1,⟨o,ho,hc,n,hd⟩,_⟩:=I.tuple (gi.of (sm _ _ ha));obtain⟨as,ra⟩:=aP.reads I sm hx r1 e2;exact⟨_,.tuple ho hc hd (by simpa using ra)⟩
 | _,_,u,d,.lst (a:=a) ha hx,r,e=>by
  obtain⟨ds,e2,rfl⟩:=Tv.mp (show (my _).map PyData.list=some d from e);cases (show u=Td a from r);obtain⟨N9,r1,⟨o,n,ho,hc,_,hd⟩,_⟩:=I.list (iB.of (sm _ _ ha));obtain⟨as,ra⟩:=aP.reads I sm hx r1 e2;exact⟨_,.list ho hc hd (by simpa using ra)⟩
 | _,_,u,d,.jV (a:=a) (o:=ob) ha hx,r,e=>by
  obtain⟨ds,e2,rfl⟩:=Tv.mp (show (my _).map PyData.list=some d from e);cases (show u=Td a from r);obtain⟨N9,r1,⟨o,n,ho,hc,_,hd⟩,_⟩:=I.list (.inl (.inr ⟨ob,sm _ _ ha⟩));obtain⟨as,ra⟩:=aP.reads I sm hx r1 e2;exact⟨_,.list ho hc hd (by simpa using ra)⟩
 | _,_,u,d,.obj _ _,r,e=>by cases e
 | _,_,u,d,.xq _,r,e=>by cases e
 | _,_,u,d,.wN _ _ _,r,e=>by cases e
 | _,_,u,d,.emp _,r,e=>by cases e
theorem aP.reads{Hs:Hp}(I:Inv X N5 σ H s)(sm:bw Hs H):∀ {p:List PV} {v:List V} {u:List Value} {d:List PyData},aP Hs p v->Vals v u->my p=some d->∃ as,ReadsAll s.heap u d as
 | _,_,_,_,.nil,.nil,e=>by cases e;exact⟨_,.nil⟩
 | _,_,_,d,.cons (p:=p) (ps:=ps) h hr,.cons r rr,e=>by
  obtain⟨d1,e1,e2⟩:=WJ.mp (show (dat p).bind (λd=>(my ps).map (d::·))=some d from e);obtain⟨ds,e3,rfl⟩:=Tv.mp e2;obtain⟨as,ra⟩:=Rep.reads I sm h r e1;obtain⟨bs,rb⟩:=aP.reads I sm hr rr e3;exact⟨_,.cons ra rb⟩
end
def HC(d e:PyData):M Bool:=cM (shaped d=true/\shaped e=true/\noMix d e=true) (M.ok (same d e))
def q_(o:Bool->PV)(p q:PV):M PV:=match dat p,dat q with
 | some d,some e=>(HC d e).bind λb=>M.ok (o b)
 | _,_=>none
def wA:PV->PV->M PV:=q_ λb=>.bl b
def ou:PV->PV->M PV:=q_ λb=>.bl (!b)
def Bo(o:Bool->Bool):R2:=λx y H Q=>∃ Hs p q d e,bw Hs H/\Rep Hs p x/\Rep Hs q y/\dat p=some d/\dat q=some e/\shaped d=true/\shaped e=true/\noMix d e=true/\Q (.bl (o (same d e))) H
theorem CY(hu:X.A.units+64<cLine):hV X (compareOp .Eq) (Bo id):=by
 intro N5 s σ H x y v u Q I rx ry h;obtain⟨Hs,p,q,d,e,sm,rp,rq,hd,he,h1,h2,h3,hq⟩:=h;obtain⟨as,ra⟩:=Rep.reads I sm rp rx hd;obtain⟨bs,rb⟩:=Rep.reads I sm rq ry he;exact eq_dataH_same ra rb h1 h2 hu h3 (t6 I hq rfl)
theorem Cu(hu:X.A.units+64<cLine):hV X (compareOp .NotEq) (Bo not):=by
 intro N5 s σ H x y v u Q I rx ry h;obtain⟨Hs,p,q,d,e,sm,rp,rq,hd,he,h1,h2,h3,hq⟩:=h;obtain⟨as,ra⟩:=Rep.reads I sm rp rx hd;obtain⟨bs,rb⟩:=Rep.reads I sm rq ry he;exact ne_dataH_same ra rb h1 h2 hu h3 (t6 I hq rfl)
theorem AJ{o:Bool->Bool}:mB E (Bo o) (q_ λb=>.bl (o b)):=by
 intro σ Hs H p q v u Q s rp rq h;unfold q_ at h
 split at h
 .rename_i d e hd he;have h':=az.bind h;obtain⟨⟨h1,h2,h3⟩,h⟩:=az.cM h';exact⟨Hs,p,q,d,e,s,rp,rq,hd,he,h1,h2,h3,eD.flat h s (.bl _)⟩
 .exact h.elim
theorem Gr:mB E (Bo id) wA:=AJ
theorem F9:mB E (Bo not) ou:=AJ
def lN(xs:List PV)(lo hi:Option Int):List PV:=(xs.drop (HT.de xs.length 0 lo)).take (HT.de xs.length xs.length hi-HT.de xs.length 0 lo)
theorem aP.cut(r:aP H xs vs)(lo hi:Option Int):aP H (lN xs lo hi) (vk vs lo hi):=by
 unfold lN vk;rw[r.length];exact(r.drop _).take _
abbrev JT(Q:Option Int->Hp->Prop):Hp->Hp->Option Int->Prop:=λHs H k=>∀ Oa H',bL Hs H Oa H'->Q k H'
def LN(E:St->XK)(g:af->M (Option Int)):TO:=fun σ H Q=>tG E g (JT Q) σ H
theorem PO.imp{e:Option Expr}{t t':TO}(h:PO X e t)(i:∀ σ H Q,t' σ H Q->t σ H Q):PO X e t':=λN5 s σ H Q I q=>h N5 s σ H Q I (i σ H Q q)
def Fx:PV->M (Option Int)
 | .int i=>M.ok (some i)
 | _=>none
def EA:af->M (Option Int):=λ_=>M.ok none
def iI(f:af->M PV):af->M (Option Int):=λenv=>(f env).bind Fx
section
variable{lo hi:Option Expr}{pos p2:Pos}{f:af->M PV}{gl gh:af->M (Option Int)}
theorem JT.g{Q:Option Int->Hp->Prop}:KG (JT Q):=λHs H Oa H' b k g Oj H2 g2=>k Oj H2 (g.trans g2)
theorem xS:PO X none (LN E EA):=Eg.imp fun σ H Q q=>by
 obtain⟨B,H₀,Hs,env,sr,q⟩:=q;exact q Hs H (.refl sr.gr.sub)
theorem kd(he:PE X e (tE E f)):PO X (some e) (LN E (iI f)):=(EK he).imp fun σ H Q q=>cu (K:=JT Q) JT.g q λB H₀ Hs H1 env p v sr rp hp=>by
 cases rp with
 | int i=>exact⟨i,rfl,hp Hs H1 (.refl sr.gr.sub)⟩
 | _=>exact hp.elim
end
def ig(xs:List PV):List PV:=xs.mapIdx λi x=>.tup [.int (i:Nat),x]
section
variable{K:PySem.W.Frag}{fs:af->M (List PV)}
theorem rT{a:Addr}(hq:∀ Oa H',bw Om Oa->bw Oa H'->iB K H' a vs)(hr:aP Om xs vs):j5 (Ji K a) Om (ig xs) where
 stop:=λi Hs H s1 s2 hi=>by
  unfold ig at hi;rw[VG,hr.length] at hi;exact⟨vs,hq Hs H s1 s2,hi⟩
 go:=λi Hs H s1 s2 hi=>by
  unfold ig at hi;rw[VG] at hi;obtain⟨v,e,_⟩:=hr.get (SW hi);exact⟨vs,v,hq Hs H s1 s2,e⟩
 wg:=λi Hs H x H2 s1 s2 hi y=>by
  unfold ig at hi;rw[VG] at hi;obtain⟨v,e,r⟩:=hr.get (SW hi);obtain⟨pa,v',hn,rfl,rfl,y1⟩:=y;have z1:=y1 vs (hq Hs H s1 s2);rw[e] at z1;cases z1;have gr:=bL.new (o:=.tup [.int (i:Nat),v]) s2 hn;refine⟨.tup [.int (i:Nat),xs[i]],_,?_,gr,.tup aE (.cons (.int _) (.cons ((r.mono s1).mono gr.st) .nil))⟩;unfold ig;rw[Y0,SW hi];rfl
end
end
def Fv(lo st:Int)(n:Nat):It:=⟨λi _=>i<n,λi H x H'=>H'=H/\x=.int (lo+(i:Nat)*st),λi _=>n<=i⟩
theorem uX{K:PySem.W.Frag}(it:Addr)(lo st:Int)(n:Nat):Turn P w K tg (Fv lo st n) [it] it (λi h=>IsRangeIter h it (lo+(i:Nat)*st) ((n:Int)-(i:Nat)) st) where
 mem:=by simp
 obj:=λi h st b hb=>by
  have e:b=it:=by simpa using hb
  subst e;exact⟨_,st,λv z=>by
   have z':Data.fields _=Data.cell v:=z;cases z'⟩
 keep:=λi h h' st k=>k it (by simp) _ st
 item:=by
  intro X hP hw hK hc i N5 s σ H E I hf N8 hg;subst hP hw hK;obtain⟨f0,f1,f2,f3,f4,f5⟩:=hf it (by simp);have W:=Walks.range (prog:=X.prog) (w:=X.w) (I.ok.hd hc) it lo st n;refine W.item i s _ _ hg N8 λv h' tk hv Qd kk=>?_;obtain⟨t,rfl⟩:=hv;have I1:Inv X N5 σ H { s with heap:=h',toks:=tk }:=I.turned (λb o hb e=>kk b o (by simpa using hb) e) f0 f1 f3 f4 f5;exact⟨_,rfl,ya (s:={ s with heap:=h',toks:=tk }) (n := "range_iterator") Qd rfl rfl (by decide) ⟨.int (lo+(i:Nat)*st),H,I1,⟨t,rfl⟩,⟨rfl,rfl⟩,Qd,λb hb=>(hf b hb).1⟩⟩
 done:=by
  intro X hP hw hK hc i N5 s σ H E I hf N8 hg;subst hP hw hK;obtain⟨f0,f1,f2,f3,f4,f5⟩:=hf it (by simp);exact Yn (I.ok.hd hc) N8 (by have:n<=i:=hg;lia) λh' eb=>⟨rfl,I.turned (t':=s.toks) (λb o hb e=>eb b o hb e) f0 f1 f3 f4 f5⟩
 self:=λ_ _ _ _ _ st h=>Yo st h
theorem tM(a b c:Int):0<=TQ a b c:=by
 unfold TQ
 split
 .split
  .have:=U4 (a:=b-a-1) (b:=c) (by lia) (by lia);lia
  .lia
 .split
  .have:=U4 (a:=a-b-1) (b:=-c) (by lia) (by lia);lia
  .lia
theorem zE{R:It->Hp->Prop}{E:Value->Shared->Prop}{lo hi st:Int}{t u v:Tok}{tk:Nat}(I:Inv X N5 σ H s)(hsm:Xr lo hi st=true)
  (q:R (Fv lo st (TQ lo hi st).toNat) H):wpAny (model X.prog X.w) X.A (pyIter (.ref s.heap.objs.size)) (Nh X N5 σ tg R) E { s with heap:=s.heap.push { cls:=.type "range", data:=.fields #[.int lo t,.int hi u,.int st v] },toks:=tk }:=by
 refine Zl (IsRange.new ..) hsm ?_;have I1:Inv X N5 σ H { s with heap:=s.heap.push { cls:=.type "range", data:=.fields #[.int lo t,.int hi u,.int st v] },toks:=tk }:=I.kept λb o e=>SQ _ e;refine⟨(s.heap.push { cls:=.type "range", data:=.fields #[.int lo t,.int hi u,.int st v] }).objs.size,[(s.heap.push { cls:=.type "range", data:=.fields #[.int lo t,.int hi u,.int st v] }).objs.size],_,_,H,rfl,
  I1.kept (t':=tk) λb o e=>SQ _ e,uX _ lo st (TQ lo hi st).toNat,?_,λb hb=>?_,q⟩
 .have e1:lo+((0:Nat):Int)*st=lo:=by simp
  have e2:(((TQ lo hi st).toNat:Nat):Int)-((0:Nat):Int)=TQ lo hi st:=by have:=tM lo hi st;lia
  show IsRangeIter _ _ (lo+((0:Nat):Int)*st) ((((TQ lo hi st).toNat:Nat):Int)-((0:Nat):Int)) st;rw[e1,e2];exact S2 _ rfl
 .have e:b=(s.heap.push { cls:=.type "range", data:=.fields #[.int lo t,.int hi u,.int st v] }).objs.size:=by simpa using hb
  subst e;exact I1.t5 (SX _) (I1.bB.fresh (SX _))
def C3(i j k:Int):Bool:=decide (k≠0)&&decide (k.natAbs<1073741824)&&Xr i j k
def F3(ta:TA):TI:=fun σ H R=>ta σ H λvs H1=>∃ i j k:Int,vs=[.int i,.int j,.int k]/\C3 i j k=true/\R (Fv i k (TQ i j k).toNat) H1
theorem rF{a b:Expr}{ta:TA}{p pos:Pos}(hg:Gl X "range")(hm:X.mg "range" = none)(ha:PA X [a,b,c] ta)(hs:autoParam (starEach [a,b,c] X.env=[(false,eval a X.env),(false,eval b X.env),(false,eval c X.env)]) aR._auto_1)(PH:autoParam (starEach [b,c] X.env=[(false,eval b X.env),(false,eval c X.env)]) aR._auto_1) :
  PI X tg (.Call (.Name "range" p) [a,b,c] [] pos) (F3 ta):=by
 intro N5 s σ H R I h;refine Call_ (i8 I hg hm boot_range (Ux (cX (ha pos N5 s σ H _ I h) λus s1 ⟨vs,H1,I1,r1,q1⟩=>?_) (by rw[hs,PH]) (by rw[PH];rfl)));obtain⟨i,j,k,e,hc,q⟩:=q1;subst e;cases r1 with
 | cons r rr =>
  cases rr with
  | cons r' rr =>
   cases rr with
   | cons SN rr =>
    cases rr;obtain⟨t,rfl⟩:=r;obtain⟨t',rfl⟩:=r';obtain⟨t'',rfl⟩:=SN;unfold C3 at hc;rw[Ud,Ud] at hc;exact call_range_3 (of_decide_eq_true hc.1.1) (zE I1 hc.2 q) (.inl (PyProof.noPylong_small (of_decide_eq_true hc.1.2)))
def zG:List PV->M (List PV)
 | [.int i,.int j,.int k]=>cM (C3 i j k=true) (M.ok ((Tg (TQ i j k).toNat).map λ(n:Nat)=>.int (i+n*k)))
 | _=>none
section
variable{K:PySem.W.Frag}{fs:af->M (List PV)}
theorem Ad{lo st:Int}:j5 (Fv lo st n) Om ((Tg n).map λ(i:Nat)=>PV.int (lo+(i:Int)*st)) where
 stop:=λi Hs H s1 s2 hi=>show n<=i by simpa using hi
 go:=λi Hs H s1 s2 hi=>show i<n by simpa using hi
 wg:=λi Hs H x H2 s1 s2 hi y=>by
  obtain⟨rfl,rfl⟩:=y;have Rj:i<n:=by simpa using hi
  exact⟨.int (lo+(i:Int)*st),Hs,by simp[Rj],.refl s2,.int _⟩
theorem zu{ps:List PV}{Q:List PV->Prop}{F:EX->Prop}(h:az (zG ps) Q F):∃ i j k,ps=[.int i,.int j,.int k]/\C3 i j k=true/\Q ((Tg (TQ i j k).toNat).map λ(n:Nat)=>.int (i+n*k)):=by
 unfold zG at h
 split at h
 .obtain⟨hc,h⟩:=az.cM h;exact⟨_,_,_,rfl,hc,h⟩
 .exact h.elim
theorem aP.three{q r:PV}(h:aP H [p,q,r] vs):∃ v u w,vs=[v,u,w]/\Rep H p v/\Rep H q u/\Rep H r w:=by
 cases h with
 | cons h r=>obtain⟨u,w,rfl,h2,h3⟩:=r.two;exact⟨_,_,_,rfl,h,h2,h3⟩
theorem vP:yr E (F3 (tL E fs)) (jL zG fs):=by
 intro σ H R q;refine du (K:=KI R) KI.g q λB H₀ Hs H1 env ps v sr rp hp=>?_;obtain⟨i,j,k,rfl,hc,hp⟩:=zu hp;obtain⟨w,u,z,rfl,PX,ru,rz⟩:=rp.three;cases PX;cases ru;cases rz;exact⟨i,j,k,rfl,hc,hp _ Hs H1 (.refl sr.gr.sub) Ad⟩
end
def jF:List PV->List PV->List PV->List PV
 | x::xs,y::ys,z::zs=>.tup [x,y,z]::jF xs ys zs
 | _,_,_=>[]
theorem sv:∀ {xs ys zs:List PV} {i:Nat} (h1:i<xs.length) (h2:i<ys.length) (h3:i<zs.length),(jF xs ys zs)[i]?=some (.tup [xs[i],ys[i],zs[i]])
 | x::xs,y::ys,z::zs,0,_,_,_=>rfl
 | x::xs,y::ys,z::zs,i+1,h1,h2,h3=>by
  show (jF xs ys zs)[i]?=_;exact sv (xs:=xs) (ys:=ys) (zs:=zs) (i:=i) (by simpa using h1) (by simpa using h2) (by simpa using h3)
 | [],_,_,_,h1,_,_=>by simp at h1
 | _::_,[],_,_,_,h2,_=>by simp at h2
 | _::_,_::_,[],_,_,_,h3=>by simp at h3
theorem kq:∀ {xs ys zs:List PV},(jF xs ys zs).length=min xs.length (min ys.length zs.length)
 | x::xs,y::ys,z::zs=>by
  show (jF xs ys zs).length+1=_;rw[kq];simp only[T5];lia
 | [],_,_=>by simp[jF]
 | _::_,[],_=>by simp[jF]
 | _::_,_::_,[]=>by simp[jF]
def rj:List PV->M (List PV)
 | [p,q,r]=>match bO p,bO q,bO r with
  | some xs,some ys,some zs=>M.ok (jF xs ys zs)
  | _,_,_=>none
 | _=>none
section
variable{K:PySem.W.Frag}{fs:af->M (List PV)}
theorem zU{b1 b2 b3:Bool}{a1 a2 a3:Addr}{ys zs:List PV}{us ws:List V}(OT:∀ Oa H',bw Om Oa->bw Oa H'->kF K H' b1 a1 vs)(Q4:aP Om xs vs)(OO:∀ Oa H',bw Om Oa->bw Oa H'->kF K H' b2 a2 us)(Q5:aP Om ys us)
  (Qs:∀ Oa H',bw Om Oa->bw Oa H'->kF K H' b3 a3 ws) (Sv:aP Om zs ws):j5 (MP K b1 b2 b3 a1 a2 a3) Om (jF xs ys zs) where
 stop:=λi Hs H s1 s2 hi=>by
  rw[kq,Q4.length,Q5.length,Sv.length] at hi;exact⟨vs,us,ws,OT Hs H s1 s2,OO Hs H s1 s2,Qs Hs H s1 s2,by lia⟩
 go:=λi Hs H s1 s2 hi=>by
  rw[kq] at hi;obtain⟨v,e,_⟩:=Q4.get (SW (show i<xs.length by lia));obtain⟨u,e',_⟩:=Q5.get (SW (show i<ys.length by lia));obtain⟨w,e'',_⟩:=Sv.get (SW (show i<zs.length by lia));exact⟨vs,us,ws,v,u,w,OT Hs H s1 s2,OO Hs H s1 s2,Qs Hs H s1 s2,e,e',e''⟩
 wg:=λi Hs H x H2 s1 s2 hi y=>by
  rw[kq] at hi;have l1:i<xs.length:=by lia
  have l2:i<ys.length:=by lia
  have l3:i<zs.length:=by lia
  obtain⟨v,e,r⟩:=Q4.get (SW l1);obtain⟨u,e',r'⟩:=Q5.get (SW l2);obtain⟨w,e'',SN⟩:=Sv.get (SW l3);obtain⟨pa,v',u',w',hn,rfl,rfl,y1,y2,y3⟩:=y;have z1:=y1 vs (OT Hs H s1 s2);have z2:=y2 us (OO Hs H s1 s2);have z3:=y3 ws (Qs Hs H s1 s2);rw[e] at z1;cases z1;rw[e'] at z2;cases z2;rw[e''] at z3;cases z3;have gr:=bL.new (o:=.tup [v,u,w]) s2 hn;exact⟨_,_,sv l1 l2 l3,gr,.tup aE (.cons ((r.mono s1).mono gr.st) (.cons ((r'.mono s1).mono gr.st) (.cons ((SN.mono s1).mono gr.st) .nil)))⟩
theorem Ak{ps:List PV}{Q:List PV->Prop}{F:EX->Prop}(h:az (rj ps) Q F):∃ p q r xs ys zs,ps=[p,q,r]/\bO p=some xs/\bO q=some ys/\bO r=some zs/\Q (jF xs ys zs):=by
 unfold rj at h
 split at h
 .split at h
  .exact⟨_,_,_,_,_,_,rfl,by assumption,by assumption,by assumption,h⟩
  .exact h.elim
 .exact h.elim
theorem pG:yr E (F1 K (tL E fs)) (jL rj fs):=by
 intro σ H R q;refine du (K:=KI R) KI.g q λB H₀ Hs H1 env ps v sr rp hp=>?_;obtain⟨p,q,r,xs,ys,zs,rfl,e1,e2,e3,hp⟩:=Ak hp;obtain⟨w,u,z,rfl,PX,ru,rz⟩:=rp.three;obtain⟨b1,a1,vs,rfl,OT,Q4⟩:=kr (K:=K) sr.gr.sub PX e1;obtain⟨b2,a2,us,rfl,OO,Q5⟩:=kr (K:=K) sr.gr.sub ru e2;obtain⟨b3,a3,ws,rfl,Qs,Sv⟩:=kr (K:=K) sr.gr.sub rz e3;exact⟨b1,b2,b3,a1,a2,a3,rfl,⟨vs,OT Hs H1 (λ_ _ z=>z) sr.gr.sub⟩,⟨us,OO Hs H1 (λ_ _ z=>z) sr.gr.sub⟩,⟨ws,Qs Hs H1 (λ_ _ z=>z) sr.gr.sub⟩,hp _ Hs H1 (.refl sr.gr.sub) (zU OT Q4 OO Q5 Qs Sv)⟩
end
def jS(i j k:Nat):PV->af->M af
 | .tup [p,q,r],env=>M.ok (((env.set i (some (.sh p))).set j (some (.sh q))).set k (some (.sh r)))
 | _,_=>none
theorem ug{E:XK}{K:PySem.W.Frag}:A9 E (iF K 3 (br (aJ i) (br (aJ j) (br (aJ k) iM)))) (jS i j k):=by
 intro B H₀ Hs H σ env p v Q Z sr r h;cases r with
 | @tup a xs vs ha hx =>
  match xs,hx with
  | [p,q,r],hx =>
   obtain⟨v,u,w,rfl,rp,rq,rr⟩:=hx.three;exact⟨a,[v,u,w],rfl,gi.of (sr.gr.sub _ _ ha),rfl,v,[u,w],rfl,u,[w],rfl,w,[],rfl,rfl,h _ (((sr.set rp).set rq).set rr)⟩
  | [],_=>exact h.elim
  | [_],_=>exact h.elim
  | [_,_],_=>exact h.elim
  | _::_::_::_::_,_=>exact h.elim
 | _=>exact h.elim
theorem qu:lR (jS i j k):=λp env e h n=>by
 unfold jS at h
 split at h
 .cases h;exact ko (ko (ko n))
 .cases h
section
variable{E:XK}{pos:Pos}{fs:af->M (List PV)}{f h:af->M PV}
def ownAt(i:Nat)(env:af):M (List PV):=match env[i]? with
 | some (some (.ow xs))=>M.ok xs
 | _=>none
theorem az.own{env:af}{Q:List PV->Prop}{F:EX->Prop}(h:az (ownAt i env) Q F):∃ xs,env[i]?=some (some (.ow xs))/\Q xs:=by
 unfold ownAt at h
 split at h
 .exact⟨_,by assumption,h⟩
 .exact h.elim
def Gv(i:Nat)(xs:List PV)(p:PV)(env:af):PV->M Out
 | .int n=>match yR xs.length n with
  | some j=>M.ok (.nx (env.set i (some (.ow (xs.set j p)))))
  | none=>none
 | _=>none
def IQ(i:Nat)(g f:af->M PV):af->M Out:=λenv=>(f env).bind λp=>(ownAt i env).bind λxs=>(g env).bind (Gv i xs p env)
theorem CP{ie:Expr}(hi:X.N[i]?=some x)(hv:BQ X.env.scope x)(hk:PE X ie (tE (λ_=>E) h))(he:PE X e (tE (λ_=>E) f))(hd:autoParam ((x==("__debug__" : Str))=false) aD._auto_1)(Pc:autoParam ((x==("__classdict__" : Str))=false) aD._auto_1)
  (ha:autoParam (∀ v,assign (.Subscript (.Name x px) ie pos') X.env v=(do
   let ov <- holding [v] (eval (.Name x px) X.env)
   let iv <- holding [v,ov] (eval ie X.env)
   standAt pos'
   holding [v,ov,iv] (setItem ov iv v)
   release [v,ov,iv] [])) aI._auto_1)
  (hs:autoParam (swapsWithSole [.Subscript (.Name x px) ie pos'] e pos.line X.env=pure false) aR._auto_1) (hw:autoParam (swappedStores [.Subscript (.Name x px) ie pos'] e X.env=pure none) aR._auto_1)
  (h1:autoParam ((assignEach [.Subscript (.Name x px) ie pos'] X.env).map (·.2)=[assign (.Subscript (.Name x px) ie pos') X.env]) aR._auto_1):PS X (.Assign [.Subscript (.Name x px) ie pos'] e pos) (tS E (IQ i h f)):=by
 refine(JH he (HM (kZ hi hv hd Pc) hk set_list ha) hs hw h1).imp λD σ H q=>jU q λB H₀ Hs H1 env p v sr rp hp=>?_;obtain⟨xs,ex,hp⟩:=az.own (az.bind hp);obtain⟨a,vs,h1,h2,h3,h4,h5⟩:=sr.ow i xs ex;refine⟨.ref a,h1,B,H₀,Hs,env,sr,(az.bind hp).imp (λk hk w Oj H2 g2 rk=>?_) λe he=>he.grow sr.gr⟩;have OM:=sr.grow g2;cases rk with
 | int n =>
  have RC:az (match yR xs.length n with | some j=>M.ok (Out.nx (env.set i (some (.ow (xs.set j p))))) | none=>none) (KS D B H₀) (XW E B H₀):=hk
  split at RC
  .rename_i j ej;exact⟨a,vs,n,j,rfl,rfl,g2.al _ _ h2,by rw[<- h5.length];exact ej,RC σ Oj _ (OM.put ex h1 ((h5.mono g2.st).set (rp.mono g2.st) j))⟩
  .exact RC.elim
 | _=>exact hk.elim
end
theorem KO.gr{Q:VK}:KG (KO Q):=λHs H Oa H' b k g vs p Oj H2 g2 r n=>k vs p Oj H2 (g.trans g2) r n
section
variable{sem:List PV->M (List PV)}{p pos:Pos}{fs:af->M (List PV)}{g:af->M PV}
end
mutual
def pI:PV->Bool
 | .cJ=>true
 | .bl _=>true
 | .int _=>true
 | .str _=>true
 | .tup xs=>jo xs
 | _=>false
def jo:List PV->Bool
 | []=>true
 | p::r=>pI p&&jo r
end
mutual
theorem Rep.away{Hs:Hp}{a:Addr}{ws:List V}(ha:Hs a=some (.lst ws)):∀ {p:PV} {v:V},Rep Hs p v->pI p=true->Rep (rem Hs a) p v
 | _,_,.cJ,_=>.cJ
 | _,_,.bl b,_=>.bl b
 | _,_,.int b,_=>.int b
 | _,_,.str b,_=>.str b
 | _,_,.tup (a:=c) h r,n=>by
  have nc:c≠a:=λz=>by subst z;rw[ha] at h;cases h
  exact .tup (by unfold rem;rw[if_neg nc];exact h) (r.away ha n)
 | _,_,.lst _ _,n=>by cases n
 | _,_,.jV _ _,n=>by cases n
 | _,_,.obj _ _,n=>by cases n
 | _,_,.xq _,n=>by cases n
 | _,_,.wN _ _ _,n=>by cases n
theorem aP.away{Hs:Hp}{a:Addr}{ws:List V}(ha:Hs a=some (.lst ws)):∀ {p:List PV} {v:List V},aP Hs p v->jo p=true->aP (rem Hs a) p v
 | _,_,.nil,_=>.nil
 | _,_,.cons h r,n=>by
  have n':=Xf.mp (show (pI _&&jo _)=true from n);exact .cons (h.away ha n'.1) (r.away ha n'.2)
end
def Co:M PV->M PV
 | some (.ok p)=>cM (pI p=true) (M.ok p)
 | _=>none
theorem az.Co{r:M PV}{Q:PV->Prop}{E:EX->Prop}(h:az (L2.Co r) Q E):az r (λp=>pI p=true/\Q p) (λ_=>False):=by
 cases r with
 | none=>exact h
 | some r=>cases r with
  | error e=>exact h
  | ok p =>
   obtain⟨n,h⟩:=az.cM h;exact⟨n,h⟩
theorem bL.back{Oa H':Hp}{a:Addr}{ws:List V}(h1:Hs a=none)(hH:H a=some (.lst ws))(s:bw Hs H)(g:bL (upd Hs a (.lst ws)) H Oa H'):bL Hs H (rem Oa a) H'/\Oa a=some (.lst ws):=by
 have e:Oa a=some (.lst ws):=g.st _ _ aE;refine⟨⟨λc u q=>?_,g.al,λc u q=>?_,λc u q1 q2=>?_⟩,e⟩
 .have nc:c≠a:=λz=>by subst z;rw[h1] at q;cases q
  unfold rem;rw[if_neg nc];exact g.st c u (by rw[au nc];exact q)
 .unfold rem at q
  split at q
  .cases q
  .exact g.sub c u q
 .unfold rem
  by_cases nc:c=a
  .rw[if_pos nc]
  .rw[if_neg nc];exact g.nw c u (by rw[au nc];exact q1) q2
theorem SR.lend{B:Hp}{env:af}(r:SR B H₀ Hs H σ env)(e:env[i]?=some (some (.ow xs))):∃ a vs,Hs a=none/\H a=some (.lst vs)/\SR B H₀ (upd Hs a (.lst vs)) H σ (mQ i env):=by
 obtain⟨a,vs,h1,h2,h3,h4,h5⟩:=r.ow i xs e;refine⟨a,vs,h3,h2,?_⟩;have ne:∀ c u,Hs c=some u->c≠a:=λc u q z=>by rw[z,h3] at q;cases q
 have Oz:bw Hs (upd Hs a (.lst vs)):=λc u q=>by rw[au (ne c u q)];exact q
 unfold mQ;rw[e];refine⟨⟨λc u q=>Oz c u (r.gr.st c u q),r.gr.al,λc u q=>?_,λc u q1 q2=>?_⟩,by rw[UH];exact r.len,λj q ej=>?_,λj ys ej=>?_,λj k ys zs b nj e1 e2 e3 e4=>?_,λj ba C fs ej=>?_,λj k _ _ C D fs gs e1 e2=>?_⟩
 .by_cases z:c=a
  .subst z;rw[aE] at q;cases q;exact h2
  .rw[au z] at q;exact r.gr.sub c u q
 .have z:c≠a:=λz=>by rw[z,h4] at q2;cases q2
  rw[au z];exact r.gr.nw c u q1 q2
 .rw[S5] at ej
  by_cases z:i=j
  .subst z;rw[if_pos rfl] at ej
   split at ej
   .cases ej;exact⟨.ref a,h1,.lst aE (h5.mono Oz)⟩
   .cases ej
  .rw[if_neg z] at ej;obtain⟨v,q1,q2⟩:=r.sh j q ej;exact⟨v,q1,q2.mono Oz⟩
 .rw[S5] at ej
  by_cases z:i=j
  .subst z;rw[if_pos rfl] at ej
   split at ej <;> cases ej
  .rw[if_neg z] at ej;obtain⟨b,us,q1,q2,q3,q4,q5⟩:=r.ow j ys ej;have nb:b≠a:=λw=>by subst w;exact r.sep i j xs ys b z e ej h1 q1
   exact⟨b,us,q1,q2,by rw[au nb];exact q3,q4,q5.mono Oz⟩
 .rw[S5] at e1 e2
  by_cases z:i=j
  .subst z;rw[if_pos rfl] at e1
   split at e1 <;> cases e1
  .by_cases z2:i=k
   .subst z2;rw[if_pos rfl] at e2
    split at e2 <;> cases e2
   .rw[if_neg z] at e1;rw[if_neg z2] at e2;exact r.sep j k ys zs b nj e1 e2 e3 e4
 .rw[S5] at ej
  by_cases z:i=j
  .subst z;rw[if_pos rfl] at ej
   split at ej <;> cases ej
  .rw[if_neg z] at ej;obtain⟨dx,us,q1,q2,q3,q4,q5⟩:=r.bd j ba C fs ej;have nb:ba≠a:=λw=>by subst w;rw[h2] at q2;cases q2
   exact⟨dx,us,q1,q2,by rw[au nb];exact q3,q4,q5.mono Oz⟩
 .rw[S5] at e1 e2
  by_cases z:i=j
  .subst z;rw[if_pos rfl] at e1
   split at e1 <;> cases e1
  .by_cases z2:i=k
   .subst z2;rw[if_pos rfl] at e2
    split at e2 <;> cases e2
   .rw[if_neg z] at e1;rw[if_neg z2] at e2;exact r.one j k _ _ C D fs gs e1 e2
def o_(i:Nat)(f:af->M PV):af->M PV:=λenv=>(ownAt i env).bind λ_=>Co (f (mQ i env))
section
variable{f:af->M PV}{u:af->M Bool}
theorem uJ(i:Nat)(he:PE X e (tE E f)):PE X e (tE E (o_ i f)):=he.imp fun σ H Q q=>by
 obtain⟨B,H₀,Hs,env,sr,q⟩:=q;obtain⟨xs,ex,q⟩:=az.own (az.bind q);obtain⟨a,vs,h3,h2,OM⟩:=sr.lend ex;refine⟨B,H₀,_,_,OM,(az.Co q).imp (λp hp v Oa H' g r=>?_) λ_ z=>z.elim⟩;obtain⟨g2,ea⟩:=bL.back h3 h2 sr.gr.sub g;exact hp.2 v _ _ g2 (r.away ea hp.1)
def vQ(i:Nat)(f:af->M (List PV)):af->M (List PV):=λenv=>(ownAt i env).bind λ_=>match f (mQ i env) with
 | some (.ok ps)=>cM (jo ps=true) (M.ok ps)
 | _=>none
end
def bD:PV->PV->M PV:=BL (λ_ j=>decide (j≠0/\j.natAbs.log2<9000)) λi j=>i.fdiv j
def cY:PV->PV->M PV:=BL (λ_ j=>decide (j≠0)) λi j=>i.fmod j
def Ei:PV->PV->M PV:=Dq λi j=>decide (i<j)
def Ff:PV->PV->M PV:=Dq λi j=>decide (i<=j)
def Am:PV->PV->M PV:=Dq λi j=>decide (j<i)
def JK:PV->PV->M PV:=Dq λi j=>decide (j<=i)
theorem CT:mB E (rI BK λi j=>.int (i.fdiv j)) bD:=EN
theorem EG:mB E (rI (λ_ j=>j≠0) λi j=>.int (i.fmod j)) cY:=Jg
theorem wU:mB E (yc λi j=>.bl (decide (i<j))) Ei:=ub
theorem qb:mB E (yc λi j=>.bl (decide (i<=j))) Ff:=ub
theorem AY:mB E (yc λi j=>.bl (decide (j<i))) Am:=ub
theorem Bm:mB E (yc λi j=>.bl (decide (j<=i))) JK:=ub
def bu(n:Nat)(s:List PV->M PV):List PV->M PV:=λps=>cM (ps.length=n) (s ps)
theorem pW{s:List PV->M PV}{ps:List PV}(h:bu n s ps≠none):ps.length=n:=by
 unfold bu cM at h
 split at h
 .assumption
 .exact(h rfl).elim
variable{dv:Value}
section
variable{K:PySem.W.Frag}
theorem CN{s:List PV->M PV}(F:aY P w K mg base (bW P w) k f fd ps (dW n s)):aY P w K mg base (bW P w) k f fd ps (dW n (bu n s)) where
 len:=λvs H Q E h=>by
  obtain⟨h0,Hs,qs,sm,r,h⟩:=h;exact F.len vs H Q E ⟨h0,Hs,qs,sm,r,(az.cM h).2⟩
 run:=λA outer s H args us vs Q E hr e hb rv h=>by
  obtain⟨h0,Hs,qs,sm,r,h⟩:=h;exact F.run A outer s H args us vs Q E hr e hb rv ⟨h0,Hs,qs,sm,r,(az.cM h).2⟩
structure dE (P:Program) (w:World) (K:PySem.W.Frag) (mg:Str->Option Value) (base:Heap) (n:Nat) (x:Str) (m:Nat) (sem:List PV->M PV):Prop where
 ex:∃ (f:Addr) (fd:FuncData) (ps:List Str),mg x=some (.ref f)/\PySem.W.keepIn K (.ref f)=true/\ps.length=m/\Binds K fd ps []/\aY P w K mg base (bW P w) n f fd ps (dW m (bu m sem))
theorem bq.NG{st:Stmt}{g:af->M Out}(F:bq K x qual st dv f fd)(S:cH N ps (bg st))
  (hb:∀ (Ox:Value) (A:Around) (outer:List Env) (s:Shared) (H:Hp) (E:XK),cA k (A.deeper (envOfC qual (bg st) s.heap.objs.size f Ox))->fc ((lF (bW P w) P w K mg base N qual (bg st) f Ox A outer s H E).out λ_=>E) (λ_=>E)->kN ((lF (bW P w) P w K mg base N qual (bg st) f Ox A outer s H E).out λ_=>E) (e_ st) (tS E g)) :
  aY P w K mg base (bW P w) (k+1) f fd ps (dW ps.length (bu ps.length (aB N.length g))):=by
 obtain⟨oc,od,kV,doc,pm,an,Ox,ct,Rf,rfl,lk,Pc⟩:=F.ex;exact CN (JG lk Pc S λA outer s H E hr=>hb Ox A outer s H E hr (Aq rfl rfl))
end
section
variable{m:Nat}{sem:List PV->M PV}{fs:af->M (List PV)}{p pos:Pos}
theorem dE.call(F:dE X.prog X.w X.K X.mg X.base n x m sem)(hr:cA k X.A)(hn:n<=k)(hg:Gl X x)(O:fc X E)(ha:PA X (e::es) (tL E fs))(Pa:autoParam ((x==("__debug__" : Str))=false) aD._auto_1)(he:autoParam (starEach (e::es) X.env=(false,eval e X.env)::starEach es X.env) aR._auto_1)(OH:autoParam ((backTo pos (starEach es X.env)).any (·.1)=false) aR._auto_1) :
  PE X (.Call (.Name x p) (e::es) [] pos) (tE E (ai (bu m sem) fs)):=by
 obtain⟨f,fd,ps,h1,h2,h3,h4,h5⟩:=F.ex;have:=FA (p:=p) (P1:=[]) h5 (hr.mono hn) hg h1 h2 h4 .nil (λ_=>.nil) O (λP5 hp=>by rw[Ul] at hp;exact pW hp) ha Pa he OH;refine this.imp fun σ H Q q=>?_;have e:(λps=>bu m sem (ps++[]))=bu m sem:=by funext ps;rw[Ul]
 rw[e];exact q
structure jQ (P:Program) (w:World) (K:PySem.W.Frag) (mg:Str->Option Value) (base:Heap) (C:Addr) (n:Nat) (x:Str) (m:Nat) (sem:List PV->M PV):Prop where
 ex:∃ (f:Addr) (fd:FuncData) (ps:List Str),ma K C/\Meth K C x f/\Binds K fd ps []/\aY P w K mg base (bW P w) n f fd ps (dW m (bu m sem))
theorem jQ.call{g:af->M PV}(F:jQ X.prog X.w X.K X.mg X.base C n x m sem)(hr:cA k X.A)(hn:n<=k)(O:fc X E)(ho:PE X o (tE E g))(ha:PA X (e::es) (tL E fs))
  (Oz:autoParam (starEach (e::es) X.env=(false,eval e X.env)::starEach es X.env) aR._auto_1) (OH:autoParam ((backTo pos (starEach es X.env)).any (·.1)=false) aR._auto_1)
  (ht:autoParam (eval (.Call (.Attribute o x apos) (e::es) [] pos) X.env=(do
   let ov <- eval o X.env
   standAt apos.atName
   let (f,first) <- holding [ov] (getMethod ov x pl)
   callWith pos f first (backTo pos (starEach (e::es) X.env)) (backToKw pos (keywordEach [] X.env)))) aR._auto_1) :
  PE X (.Call (.Attribute o x apos) (e::es) [] pos) (tE E (bo C x (bu m sem) g fs)):=by
 obtain⟨f,fd,ps,h1,h2,h3,h4⟩:=F.ex;exact Fe ho h1 h2 h4 (hr.mono hn) h3 O (λP5 hp=>pW hp) ha Oz OH ht
theorem jQ.KW{g:af->M PV}(F:jQ X.prog X.w X.K X.mg X.base C n x m sem)(hr:cA k X.A)(hn:n<=k)(O:fc X E)(ho:PE X o (tE E g))
  (ht:autoParam (eval (.Call (.Attribute o x apos) [] [] pos) X.env=(do
   let ov <- eval o X.env
   standAt apos.atName
   let (f,first) <- holding [ov] (getMethod ov x pl)
   callWith pos f first (backTo pos (starEach [] X.env)) (backToKw pos (keywordEach [] X.env)))) aR._auto_1) :
  PE X (.Call (.Attribute o x apos) [] [] pos) (tE E (bo C x (bu m sem) g ak)):=by
 obtain⟨f,fd,ps,h1,h2,h3,h4⟩:=F.ex;exact AK ho h1 h2 h4 (hr.mono hn) h3 O (λP5 hp=>pW hp) ht
end
structure Ao (P:Program) (w:World) (K:PySem.W.Frag) (mg:Str->Option Value) (base:Heap) (C:Addr) (n:Nat) (x:Str) (m:Nat) (P1:List PV) (sem:Addr->List PV->M (List (Str×PV))):Prop where
 ex:∃ (f:Addr) (fd:FuncData) (ps:List Str) (ds:List Value) (OZ:List V),mg x=some (.ref C)/\Mk K C f/\Binds K fd ps ds/\Vals OZ ds/\(∀ H,aP H P1 OZ)/\aY P w K mg base (bW P w) n f fd ps (FU m C sem)
def tU(m:Nat)(sem:Addr->List PV->M (List (Str×PV))):Addr->List PV->M (List (Str×PV)):=λa ps=>cM (ps.length+1=m) (sem a ps)
theorem yK{K:PySem.W.Frag}{s:Addr->List PV->M (List (Str×PV))}(F:aY P w K mg base (bW P w) k f fd ps (FU n C s)):aY P w K mg base (bW P w) k f fd ps (FU n C (tU n s)) where
 len:=λvs H Q E h=>by
  obtain⟨h0,a,dx,us,Hs,H1,qs,e1,e2,e3,e4,e5,sm,r,h⟩:=h;exact F.len vs H Q E ⟨h0,a,dx,us,Hs,H1,qs,e1,e2,e3,e4,e5,sm,r,(az.cM h).2⟩
 run:=λA outer s H args us vs Q E hr e hb rv h=>by
  obtain⟨h0,a,dx,us',Hs,H1,qs,e1,e2,e3,e4,e5,sm,r,h⟩:=h;exact F.run A outer s H args us vs Q E hr e hb rv ⟨h0,a,dx,us',Hs,H1,qs,e1,e2,e3,e4,e5,sm,r,(az.cM h).2⟩
theorem bq.NB{K:PySem.W.Frag}{st:Stmt}{g:af->M Out}(F:bq K x qual st dv f fd)(S:cH N ps (bg st))(hN:0<N.length)
  (hb:∀ (Ox:Value) (A:Around) (outer:List Env) (s:Shared) (H:Hp) (E:XK),cA k (A.deeper (envOfC qual (bg st) s.heap.objs.size f Ox))->fc ((lF (bW P w) P w K mg base N qual (bg st) f Ox A outer s H E).out λ_=>E) (λ_=>E)->kN ((lF (bW P w) P w K mg base N qual (bg st) f Ox A outer s H E).out λ_=>E) (e_ st) (tS E g)) :
  aY P w K mg base (bW P w) (k+1) f fd ps (FU ps.length C (tU ps.length (yS N.length g C))):=by
 obtain⟨oc,od,kV,doc,pm,an,Ox,ct,Rf,rfl,lk,Pc⟩:=F.ex;exact yK <| Fn lk Pc S hN λA outer s H E hr=>hb Ox A outer s H E hr (Aq rfl rfl)
section
variable{m:Nat}{fs:af->M (List PV)}{p pos:Pos}
theorem Ao.make{sem:Addr->List PV->M (List (Str×PV))}(F:Ao X.prog X.w X.K X.mg X.base C n x m P1 (tU m sem))(hr:cA k X.A)(hn:n+1<=k)(hg:Gl X x)(O:fc X E)(ha:PA X (e::es) (tL E fs))(Pa:autoParam ((x==("__debug__" : Str))=false) aD._auto_1)(he:autoParam (starEach (e::es) X.env=(false,eval e X.env)::starEach es X.env) aR._auto_1)(OH:autoParam ((backTo pos (starEach es X.env)).any (·.1)=false) aR._auto_1) :
  PE X (.Call (.Name x p) (e::es) [] pos) (tE E (ai (f6 C (tU m sem) P1) fs)):=by
 obtain⟨f,fd,ps,ds,OZ,h1,h2,h4,h5,h6,h7⟩:=F.ex;refine EC (p:=p) h2 h7 (hr.mono hn) hg h1 h4 h5 h6 O (λa P5 hp=>?_) ha Pa he OH;unfold tU cM at hp
 split at hp
 .rename_i h;rwa [TM] at h
 .exact(hp rfl).elim
theorem FD{f:af->M PV}(hg:Gl X "list")(hm:X.mg "list" = none)(he:PE X e (tE E f))(h1:autoParam (starEach [e] X.env=(false,eval e X.env)::starEach [] X.env) aR._auto_1)(OH:autoParam ((backTo pos (starEach [] X.env)).any (·.1)=false) aR._auto_1) :
  PE X (.Call (.Name "list" p) [e] [] pos) (tO E (yi f)):=by
 refine(sy tY hg hm yp (fI he kW h1) (by decide) (by decide) h1 OH).imp fun σ H Q q=>cu (K:=KO Q) KO.gr q λB H₀ Hs H1 env p v sr rp hp=>?_;cases hs:bO p with
 | none=>rw[hs] at hp;exact hp.elim
 | some xs =>
  rw[hs] at hp;obtain⟨a,us,rfl,hq,hx⟩:=CK (K:=X.K) sr.gr.sub rp hs;exact⟨a,us,rfl,hq,λl n=>hp us l Hs H1 (.refl sr.gr.sub) hx n⟩
end
def xf:Addr->Option Bool:=λ_=>none
theorem wR{P:Addr->Bool->Prop}:∀ C b,xf C=some b->P C b:=λ_ _ h=>by cases h
theorem vr{pos:Pos}(i:Nat)(hN:autoParam (X.N[i]?=some x) aR._auto_1)(hv:BQ X.env.scope x:=by first | exact .inl rfl | exact .inr (.inl rfl) | exact .inr (.inr rfl))(hd:autoParam ((x==("__debug__" : Str))=false) aD._auto_1)(Pc:autoParam ((x==("__classdict__" : Str))=false) aD._auto_1):PE X (.Name x pos) (tE E (aa i)):=Hz hN hv hd Pc
theorem Gs{env:Env}(h:(match e with | .Starred ..=>true | _=>false)=false):starEach (e::es) env=(false,eval e env)::starEach es env:=by
 cases e <;> first | rfl | cases h
def kv:List Expr->Option (List Int)
 | []=>some []
 | .Constant (.int i) _ _::r=>(kv r).map (i::·)
 | _=>none
section
variable{pos:Pos}
theorem xZ:∀ {es:List Expr} {ns:List Int},kv es=some ns->PA X es (tL E λ_=>M.ok (ns.map PV.int))
 | [],_,h=>by cases h;exact AD
 | e::r,ns,h=>by
  obtain⟨i,j,p,rfl,h⟩:∃ i j p,e=.Constant (.int i) j p/\(kv r).map (i::·)=some ns:=by
   cases e <;> first
    | (cases h;done)
    | (rename_i c j p;cases c <;> first | (cases h;done) | exact⟨_,_,_,rfl,h⟩)
  obtain⟨ms,h1,rfl⟩:=Tv.mp h;exact xG CU (xZ h1) (Gs rfl)
theorem n_(ns:List Int)(h:autoParam (kv es=some ns) aR._auto_1)(hz:autoParam (ns.length<=1000) aD._auto_1):PE X (.List es pos) (tE E λ_=>M.ok (.lst (ns.map PV.int))):=by
 refine(CI (E:=E) (xZ h)).imp fun σ H Q q=>?_;have e:(sY λ_=>M.ok (ns.map PV.int))=λ_=>M.ok (.lst (ns.map PV.int)):=by
  funext env
  show cM _ _=_;unfold cM;rw[if_pos (by rw[S0];exact TJ hz (by decide))]
 rw[e];exact q
end
def vM:PV->PV->M (List PV)
 | .lst xs,.int k=>cM (-(2^63)<=k/\k<2^63/\xs.length*k.toNat<=sizeLine) (M.ok (SS k.toNat xs).flatten)
 | _,_=>none
def Ce(f g:af->M PV):af->M (List PV):=λenv=>(f env).bind λp=>(g env).bind λq=>vM p q
section
variable{a b:Expr}{pos:Pos}{f g:af->M PV}
theorem Bv(ha:PE X a (tE E f))(hb:PE X b (tE E g)):PE X (.BinOp a .Mult b pos) (tO E (Ce f g)):=by
 refine(Gu C4 ha hb).imp fun σ H Q q=>cu (K:=KO Q) KO.gr q λB H₀ Hs H1 env p v sr rp hp=>?_;refine⟨B,H₀,Hs,env,sr,(az.bind hp).imp (λq hq u Oa H' g' ru=>?_) λe he=>he⟩;have PL:=sr.grow g';have rp':=rp.mono g'.st;cases rp' with
 | @lst l xs vs ha hx=>cases ru with
  | int k =>
   obtain⟨⟨h1,h2,h3⟩,h⟩:=az.cM hq;exact⟨l,k,vs,rfl,rfl,PL.gr.sub _ _ ha,h1,h2,by rw[<- hx.length];exact h3,λp n=>h _ p Oa H' g' (hx.rep _) n⟩
  | _=>exact hq.elim
 | _=>exact hq.elim
end
structure A_ (K:PySem.W.Frag) (mg:Str->Option Value) (C:Addr) (x:Str):Prop where
 hc:PySem.W.excIn K C fE "ValueError.__new__" = true
 c:jy K C
 ht:PySem.W.typeIn K (.ref C)=some (.type "type")
 kp:PySem.W.keepIn K (.ref C)=true
 m:mg x=some (.ref C)
structure qS (P:Program) (w:World) (K:PySem.W.Frag) (mg:Str->Option Value) (base:Heap) (C:Addr) (x fl:Str):Prop where
 ex:∃ (f:Addr) (fd:FuncData) (ps:List Str),oV K C "ValueError.__new__" f=true/\PySem.W.isFn K (.ref f)=true/\aY P w K mg base (bW P w) 1 f fd ps (z6 K C fl)/\Binds K fd ps []
 c:jy K C
 ht:PySem.W.typeIn K (.ref C)=some (.type "type")
 kp:PySem.W.keepIn K (.ref C)=true
 m:mg x=some (.ref C)
section
variable{E:XK}{pos p:Pos}{fl:Str}{fs:af->M (List PV)}
theorem A_.raise(F:A_ X.K X.mg C x)(O:fc X λ_=>E)(Of:X.calm=true)(hg:Gl X x)(ha:PA X (e::es) (tL (λ_=>E) fs))
  (Pa:autoParam ((x==("__debug__" : Str))=false) aD._auto_1) (he:autoParam (starEach (e::es) X.env=(false,eval e X.env)::starEach es X.env) aR._auto_1) (OH:autoParam ((backTo Oo (starEach es X.env)).any (·.1)=false) aR._auto_1) :
  PS X (.Raise (some (.Call (.Name x p) (e::es) [] Oo)) none pos) (tS E (j6 C fs)):=Ag O Of F.hc F.c F.ht F.kp hg F.m ha Pa he OH
theorem qS.raise(F:qS X.prog X.w X.K X.mg X.base C x fl)(hr:cA k X.A)(hn:2<=k)(O:fc X λ_=>E)(Of:X.calm=true)(hg:Gl X x)(ha:PA X [e] (tL (λ_=>E) fs))
  (Pa:autoParam ((x==("__debug__" : Str))=false) aD._auto_1) (he:autoParam (starEach [e] X.env=(false,eval e X.env)::starEach [] X.env) aR._auto_1) (OH:autoParam ((backTo Oo (starEach [] X.env)).any (·.1)=false) aR._auto_1) :
  PS X (.Raise (some (.Call (.Name x p) [e] [] Oo)) none pos) (tS E (jA C fl fs)):=by
 obtain⟨f,fd,ps,h1,h2,h3,h4⟩:=F.ex;exact zN O Of h1 h2 F.c F.ht F.kp h3 (hr.mono hn) h4 hg F.m ha Pa he OH
end
def K9(i j:Nat)(env:af):List PV->M Out
 | [p,q]=>M.ok (.nx ((env.set i (some (.sh p))).set j (some (.sh q))))
 | _=>none
def GW(i j:Nat)(fs:af->M (List PV)):af->M Out:=λenv=>(fs env).bind (K9 i j env)
theorem HY{E:XK}{a b:Expr}{fs:af->M (List PV)}{py pt pos:Pos}{kt:Nat}{RU:Pos}(hc:X.calm=true)(hN:X.N.Nodup)(hi:X.N[i]?=some x)(hj:X.N[j]?=some y)(RB:i≠j)
  (hx:X.env.scope.names.lookup x=some .local) (hy:X.env.scope.names.lookup y=some .local) (ha:PA X [a,b] (tL (λ_=>E) fs))
  (hw:swappedStores [.Tuple [.Name x px,.Name y py] kt pt] (.Tuple [a,b] k2 RU) X.env=pure (some [x,y]))
  (hs:autoParam (swapsWithSole [.Tuple [.Name x px,.Name y py] kt pt] (.Tuple [a,b] k2 RU) pos.line X.env=pure false) aR._auto_1) :
  PS X (.Assign [.Tuple [.Name x px,.Name y py] kt pt] (.Tuple [a,b] k2 RU) pos) (tS E (GW i j fs)):=by
 refine(G6 hc hN hi hj RB hx hy ha hw hs).imp λD σ H q=>oU q λB H₀ Hs H1 env ps v sr rp hp=>?_
 match ps,rp,hp with
 | [],_,hp=>exact hp.elim
 | [_],_,hp=>exact hp.elim
 | _::_::_::_,_,hp=>exact hp.elim
 | [p,q],rp,hp =>
  obtain⟨v,u,rfl,r1,r2⟩:=rp.two;exact⟨v,u,rfl,hp _ Hs H1 ((sr.set r1).set r2)⟩
section
variable{pos:Pos}
end
section
variable{cl:List (Str×Addr)}{pos:Pos}{wi:TI}{it:af->M (List PV)}{g:TG}{set:PV->af->M af}{f:af->M PV}{fs:List Str}
variable{E:XK}{py Qj:Pos}
theorem n9(Of:X.calm=true)
  (OB:closureFor scope X.env=pure cl) (hk:scope.kind=.function) (nc:fv scope.names=true) (lo:gA scope.names=true) (fh:gE cl scope.names=true) (ag:eE X cl) (fr:iC X scope cl fs js)
  (hi:PI X tg iter wi) (hv:yr (λ_=>E) wi it) (hg:∀ C s₀ H₀ ex N5,PG (nZ X scope cl (ts++fs) C s₀ H₀ ex N5) tg g) (QL:∀ E,A9 E g set) (so:lR set) (he:∀ C s₀ H₀ ex N5,PE (nZ X scope cl (ts++fs) C s₀ H₀ ex N5) elt (tE EF f))
  (hN:X.N.Nodup) (Sk:X.N[i]?=some y) (hy:Loc X.env.scope y)
  (hs:autoParam (∀ x,foldedSetIterable iter X.env x=pure x) aI._auto_1) (RP:autoParam (swapsWith (.ListComp elt [⟨tg,iter,[],0⟩] scope pos) (some (.Name y py)) Qj.line X.env=pure true) aR._auto_1)
  (hf:autoParam (X.fn y=true\/X.env.scope.names.lookup y=some .local) aF._auto_1) :
  PS X (.Assign [.Name y py] (.ListComp elt [⟨tg,iter,[],0⟩] scope pos) Qj) (tS E (bj i (cT (bZ it set none f ts.length js)))):=by
 refine(yf hN Sk hy Of OB hk nc lo fh ag fr hi hg he hs RP hf).imp λD σ H q=>?_;refine oI hv QL so ?_;obtain⟨B,H₀,Hs,env,sr,q⟩:=q;refine⟨B,H₀,Hs,env,sr,(az.bind (az.bind q)).imp (λps hp vs p Oa H' g r n=>?_) λe he=>he.grow sr.gr⟩;have gn:=bL.new (o:=.lst vs) g.sub n;exact hp _ _ _ ((sr.grow (g.trans gn)).set (.lst aE (r.mono gn.st)))
end
section
variable{a:Expr}{ta:TA}{p pos:Pos}
end
section
variable{fs:af->M (List PV)}{a:Expr}{p p2 pos pos2:Pos}
end
section
open AutoSeq1 (wpAny_loadPart')
theorem Ac(l:Addr)(items:Array Value)(n:Nat)(dct:Option Addr)(sl:Array (Option Value)) :
  Meets (Builtin.«enumerate.__new__» ⟨[.type "enumerate", .ref l],[]⟩) (λ_ R s=>s.heap.get? l=some { cls:=.type "tuple", dict:=dct,data:=.seq items n,slots:=sl } ∧
   R (.ok (.ret (.ref (s.heap.push { cls:=.type "tuple_iterator", data:=.fields #[.ref l,.int 0 0] }).objs.size)))
    { s with heap:=(s.heap.push { cls:=.type "tuple_iterator", data:=.fields #[.ref l,.int 0 0] }).push { cls:=.type "enumerate", data:=.fields #[.none,.bool false,.ref s.heap.objs.size,rawInt 0,.none,.none] } }) :=
 .of_wp λprog w A R s h=>by
  obtain⟨hp,g,d,tk,os⟩:=s;obtain⟨hl,h⟩:=h;have Sx:=sub_enumerate;have hL:Heap.IsTuple (Xe ⟨hp,g,d,tk,os⟩) l items:=⟨_,hl,rfl,n,rfl⟩
  wp_walk using V9 hl
  refine wpAny_stack_any λst=>SY ?_
  split
  .rename_i c _ _ _ _ _;cases (c==U7 "enumerate")
   .wp_walk using V9 hl,V7 hL
    exact⟨_,rfl,h⟩
   .wp_walk using V9 hl,V7 hL
    exact⟨_,rfl,h⟩
  .wp_walk using V9 hl,V7 hL
   exact⟨_,rfl,h⟩
section
variable{E:Value->Shared->Prop}
theorem xD(hL:s.heap.IsTuple l items)
  (h:∀ h',IsEnum h' (s.heap.objs.size+1) s.heap.objs.size 0 .none->h'.IsTupleIter s.heap.objs.size l 0->h'.objs.size=s.heap.objs.size+2 ->
   (∀ b o,s.heap.get? b=some o->h'.get? b=some o)->Q (.ref (s.heap.objs.size+1)) { s with heap:=h' }) :
  wpAny (model prog w) A (call (.type "enumerate") [.ref l]) Q E s:=by
 obtain⟨⟨c,dct,dt,sl⟩,hl,hc,n,hd⟩:=hL
 replace hc:c=.type "tuple" := hc
 replace hd:dt=.seq items n:=hd
 subst hc hd;refine ZH F.called_enumerate (by decide) (F.typeCall_enumerate_1 _) (F.newCall_enumerate_1 _) (λobj=>F.args_object_init_2 obj _) F.entry_enumerate_new
  (Ac l items n dct sl) ⟨hl,?_⟩
 have hz:(s.heap.push { cls:=.type "tuple_iterator", data:=.fields #[.ref l,.int 0 0] }).objs.size=s.heap.objs.size+1:=Ua ..;show _/\_;rw[hz];have he:IsEnum ((s.heap.push { cls:=.type "tuple_iterator", data:=.fields #[.ref l,.int 0 0] }).push
   { cls:=.type "enumerate", data:=.fields #[.none,.bool false,.ref s.heap.objs.size,rawInt 0,.none,.none] }) (s.heap.objs.size+1) s.heap.objs.size 0 .none:=by
  have:=S2 (s.heap.push { cls:=.type "tuple_iterator", data:=.fields #[.ref l,.int 0 0] })
   (o:={ cls:=.type "enumerate", data:=.fields #[.none,.bool false,.ref s.heap.objs.size,rawInt 0,.none,.none] }) rfl
  rw[hz] at this;exact this
 refine⟨⟨_,he,rfl⟩,h _ he ⟨_,SQ _ (S2 _ rfl),rfl,rfl⟩ (by rw[Ua,hz]) λb o x=>SQ _ (SQ _ x)⟩
end
theorem Jh(hh:A.handled=none)(it t:Addr)(items:Array Value) :
  Draws prog w A it [it,t] items.size (λi v=>items[i]?=some v) (λi h=>h.IsTupleIter it t i/\h.IsTuple t items) where
 live:=λ_ _ st=>let ⟨⟨o,ho,_⟩,_⟩:=st;⟨o,ho⟩
 frame:=λ_ _ _ st hk=>by
  obtain⟨⟨o,ho,r⟩,⟨o2,Qn,r2⟩⟩:=st;exact⟨⟨o,hk it (by simp) o ho,r⟩,⟨o2,hk t (by simp) o2 Qn,r2⟩⟩
 item:=λi s Q E hi st hQ=>by
  obtain⟨st,tt⟩:=st;refine ic st tt (x:=items[i]) (by simp[hi]) λh' RJ Qt=>?_;refine hQ _ h' s.toks (by simp[hi]) ⟨RJ,?_⟩ Qt;obtain⟨o,ho,c1,_⟩:=st;obtain⟨o2,Qn,c2,r2⟩:=tt;refine⟨o2,(Qt.2 t λz=>?_).trans Qn,c2,r2⟩;rw[z,ho] at Qn;cases Qn;rw[c1] at c2;exact absurd c2 (by decide)
 done:=λs Q E st hE=>fk hh st.1 st.2 (by simp) hE
def GY (K : PySem.W.Frag) (a : Addr) : It :=
  ⟨λi H => ∃ xs x, gi K H a xs /\ xs[i]? = some x,
   λi H y H' => ∃ p x, H p = none /\ y = .ref p /\ H' = upd H p (.tup [.int i, x]) /\ ∀ xs, gi K H a xs -> xs[i]? = some x,
   λi H => ∃ xs, gi K H a xs /\ xs.length <= i⟩
theorem xC{K:PySem.W.Frag}{tp:Pos}(a e it:Addr)(QC:e≠it):Turn P w K (.Tuple elts x1 tp) (GY K a) [e,it] e (λi h=>(∃ old,IsEnum h e it i old)/\h.IsTupleIter it a i) where
 mem:=by simp
 obj:=λi h st b hb=>by
  obtain⟨⟨old,he⟩,⟨o,e1,c,d⟩⟩:=st;rcases Tt.mp hb with z | z
  .subst z;exact⟨_,he,λv z=>by cases z⟩
  .have z':b=it:=by simpa using z
   subst z';exact⟨o,e1,λv z=>by rw[d] at z;cases z⟩
 keep:=λi h h' st k=>by
  obtain⟨⟨old,he⟩,⟨o,ho,r⟩⟩:=st;exact⟨⟨old,k e (by simp) _ he⟩,⟨o,k it (by simp) o ho,r⟩⟩
 item:=by
  intro X hP hw hK hc i N5 s σ H E I hf st hg;subst hP hw hK;obtain⟨xs,x,hq,hx⟩:=hg;obtain⟨N9,rv,p,hz⟩:=I.tuple hq;obtain⟨u,hu,ru⟩:=rv.get hx;obtain⟨⟨old,he⟩,hit⟩:=st;have QW:e<s.heap.objs.size:=S7 he;have RI:it<s.heap.objs.size:=by obtain⟨_,z,_⟩:=hit;exact S7 z
  have hea:e ∉ [it,a]:=λz=>by
   rcases Tt.mp z with z | z
   .exact QC z
   .obtain⟨o,ho,c,_⟩:=p;rw[<- Ui.mp z,he] at ho;cases ho;exact absurd (show U7 "enumerate" = U7 "tuple" from c) (by decide)
  have Rj:i<N9.toArray.size:=by
   have:=(Ut.mp hu).1;simpa using this
  refine wpAny_pyNext_enum_itemD (Jh (A:=X.A.in1) (I.ok.hd hc) it a N9.toArray) he ⟨hit,p⟩ Rj QC hea λu' h' tk hu' ho Oz hT Pd hk=>⟨_,rfl,?_⟩
  have eu:u'=u:=by
   rw[List.getElem?_toArray,hu] at hu';exact(Ti hu').symm
  subst eu;refine XN (s:={ s with heap:=h',toks:=tk+1 }) ho λh2 he2 PH=>?_;have Q8:∀ b o,b ∉ [e,it]->s.heap.get? b=some o->h2.get? b=some o:=λb o hb q=>by
   have n1:b≠e:=λz=>hb (by simp[z]);have n2:b≠it:=λz=>hb (by simp[z]);exact(PH.2 b n1).trans (hk b o n1 n2 q)
  have Ro:h2.get? s.heap.objs.size=some { cls:=.type "tuple", data:=.seq #[.int i tk,u'] }:=(PH.2 _ (Vk QW)).trans hT;have I2:Inv X N5 σ (upd H s.heap.objs.size (.tup [.int i,x])) { s with heap:=h2,toks:=tk+1 } :=
   I.kh (ch:=[e,it]) Q8 hf (SX _) (λb hb=>by
    rcases Tt.mp hb with z | z
    .subst z;exact⟨_,he⟩
    .have z':b=it:=by simpa using z
     subst z';obtain⟨o,z,_⟩:=hit;exact⟨o,z⟩)
    ⟨by show 2<=sizeLine;decide,[.int i tk,u'],.cons ⟨_,rfl⟩ (.cons ru .nil),⟨_,Ro,rfl,_,rfl⟩⟩
  have PF:H s.heap.objs.size=none:=I.bB.fresh (SX _);obtain⟨oi,hoi,ri⟩:=Oz.1;refine⟨.ref s.heap.objs.size,_,I2,rfl,⟨_,x,PF,rfl,rfl,λys hy=>by rw[I.mO hy hq];exact hx⟩,⟨⟨u',by simpa using he2⟩,⟨oi,(PH.2 it (Vb QC)).trans hoi,ri⟩⟩,λb hb=>?_⟩;have nb:b≠s.heap.objs.size:=by
   rcases Tt.mp hb with z | z
   .rw[z];exact Tu QW
   .have z':b=it:=by simpa using z
    rw[z'];exact Tu RI
  rw[au nb];exact(hf b hb).1
 done:=by
  intro X hP hw hK hc i N5 s σ H E I hf st hg;subst hP hw hK;obtain⟨xs,hq,hx⟩:=hg;obtain⟨N9,rv,p,hz⟩:=I.tuple hq;have hl:=rv.length;obtain⟨⟨old,he⟩,hit⟩:=st;obtain⟨f0,f1,f2,f3,f4,f5⟩:=hf it (by simp);have hT:s.TypeIs (.ref e) "enumerate" := ⟨_,he,rfl⟩
  unfold pyNext;refine RM (VZ (Ur (name:=T9 "__next__") hT F.slot_enumerate_next
   (UQ F.slot_enumerate_next hT F.entry_enumerate_next ?_ (F.args_enumerate_next_1 _))))
  show wpAny _ _ (field (.ref e) 2 >>= _) _ _ _;refine RM (TN he rfl (x:=.ref it) rfl ?_);refine RM (fk (I.ok.hd hc) hit p (by simp;lia) λh' x he' Sy=>?_);obtain⟨o,ho,Rq⟩:=Sy;refine RM (Ye (T := "StopIteration") (b:=true) ⟨o,ho,Rq⟩ YY ?_);exact SY ⟨rfl,I.turned (t':=s.toks) (λb o hb e=>he' b o hb e) f0 f1 f3 f4 f5⟩
 self:=λ_ _ _ _ _ st h=>by
  obtain⟨⟨old,he⟩,_⟩:=st;exact WN he h
def K3(K:PySem.W.Frag)(tl:TA):TI:=fun σ H R=>tl σ H λvs H1=>∃ a,vs=[.ref a]/\(((∃ xs,iB K H1 a xs)/\R (Ji K a) H1)\/((∃ xs,gi K H1 a xs)/\R (GY K a) H1))
theorem kR{tp:Pos}{l:Expr}{p pos:Pos}(hg:Gl X "enumerate")(hm:X.mg "enumerate" = none)(hl:PA X [l] tl)(hs:autoParam (starEach [l] X.env=[(false,eval l X.env)]) aR._auto_1) :
  PI X (.Tuple elts x1 tp) (.Call (.Name "enumerate" p) [l] [] pos) (K3 X.K tl):=by
 intro N5 s σ H R I h;refine Call_ (i8 I hg hm PyProof.Rows.boot_enumerate (Ux (cX (hl pos N5 s σ H _ I h) λus s1 ⟨vs,H1,I1,r1,q1⟩=>?_) hs rfl));obtain⟨a,e,q⟩:=q1;subst e;cases r1 with
 | cons r rr =>
  cases rr;cases (show _=Td a from r);have fp:∀ b∈[s1.heap.objs.size+1,s1.heap.objs.size],lV X N5 H1 b:=λb hb=>by
   rcases Tt.mp hb with z | z
   .subst z;exact I1.t5 (Wh _) (I1.bB.fresh (Wh _))
   .have z':b=s1.heap.objs.size:=by simpa using z
    subst z';exact I1.t5 (SX _) (I1.bB.fresh (SX _))
  rcases q with ⟨⟨xs,hq⟩,q⟩ | ⟨⟨xs,hq⟩,q⟩
  .obtain⟨N9,rv,pl,hz⟩:=I1.list hq;refine call_enumerate_list pl.isList λh' he hit Pd hk=>?_;refine WN (s:={ s1 with heap:=h' }) he ?_;exact⟨s1.heap.objs.size+1,[s1.heap.objs.size+1,s1.heap.objs.size],_,_,H1,rfl,I1.kept (t':=s1.toks) hk,yG a _ _ (ZU _),⟨⟨_,he⟩,hit⟩,fp,q⟩
  .obtain⟨N9,rv,pl,hz⟩:=I1.tuple hq;refine xD pl λh' he hit Pd hk=>?_;refine WN (s:={ s1 with heap:=h' }) he ?_;exact⟨s1.heap.objs.size+1,[s1.heap.objs.size+1,s1.heap.objs.size],_,_,H1,rfl,I1.kept (t':=s1.toks) hk,xC a _ _ (ZU _),⟨⟨_,he⟩,hit⟩,fp,q⟩
def MA(p:PV):M (List PV):=match bO p with
 | some xs=>M.ok (ig xs)
 | none=>none
def BG:List PV->M (List PV)
 | [p]=>MA p
 | _=>none
section
variable{K:PySem.W.Frag}{fs:af->M (List PV)}
theorem CM{a:Addr}(hq:∀ Oa H',bw Om Oa->bw Oa H'->gi K H' a vs)(hr:aP Om xs vs):j5 (GY K a) Om (ig xs) where
 stop:=λi Hs H s1 s2 hi=>by
  unfold ig at hi;rw[VG,hr.length] at hi;exact⟨vs,hq Hs H s1 s2,hi⟩
 go:=λi Hs H s1 s2 hi=>by
  unfold ig at hi;rw[VG] at hi;obtain⟨v,e,_⟩:=hr.get (SW hi);exact⟨vs,v,hq Hs H s1 s2,e⟩
 wg:=λi Hs H x H2 s1 s2 hi y=>by
  unfold ig at hi;rw[VG] at hi;obtain⟨v,e,r⟩:=hr.get (SW hi);obtain⟨pa,v',hn,rfl,rfl,y1⟩:=y;have z1:=y1 vs (hq Hs H s1 s2);rw[e] at z1;cases z1;have gr:=bL.new (o:=.tup [.int (i:Nat),v]) s2 hn;refine⟨.tup [.int (i:Nat),xs[i]],_,?_,gr,.tup aE (.cons (.int _) (.cons ((r.mono s1).mono gr.st) .nil))⟩;unfold ig;rw[Y0,SW hi];rfl
theorem jx:yr E (K3 K (tL E fs)) (jL BG fs):=by
 intro σ H R q;refine du (K:=KI R) KI.g q λB H₀ Hs H1 env ps v sr rp hp=>?_
 match ps,rp,hp with
 | [],_,hp=>exact hp.elim
 | _::_::_,_,hp=>exact hp.elim
 | [p],rp,hp =>
  obtain⟨w,rfl,PX⟩:=rp.one;cases PX with
  | lst ha hx=>exact⟨_,rfl,.inl ⟨⟨_,iB.of (sr.gr.sub _ _ ha)⟩,hp _ Hs H1 (.refl sr.gr.sub) (rT (λOa H' s1 s2=>iB.of (s2 _ _ (s1 _ _ ha))) hx)⟩⟩
  | jV ha hx=>exact⟨_,rfl,.inl ⟨⟨_,.inl (.inr ⟨_,sr.gr.sub _ _ ha⟩)⟩,hp _ Hs H1 (.refl sr.gr.sub) (rT (λOa H' s1 s2=>.inl (.inr ⟨_,s2 _ _ (s1 _ _ ha)⟩)) hx)⟩⟩
  | tup ha hx=>exact⟨_,rfl,.inr ⟨⟨_,gi.of (sr.gr.sub _ _ ha)⟩,hp _ Hs H1 (.refl sr.gr.sub) (CM (λOa H' s1 s2=>gi.of (s2 _ _ (s1 _ _ ha))) hx)⟩⟩
  | _=>exact hp.elim
end
end
def M9(E:St->XK)(f:af->M Out):TS:=λD σ H=>∃ B H₀ Hs env,SR B H₀ Hs H σ env/\az (f env) (KS D B H₀) (XW (E σ) Hs H)
theorem za{f:af->M PV}{g:af->PV->M Out}{D:Ends}{R:VK}(h:M9 E (λenv=>(f env).bind (g env)) D σ H)
  (k:∀ B H₀ Hs H1 env p v,SR B H₀ Hs H1 σ env->Rep Hs p v->az (g env p) (KS D B H₀) (λ_=>True)->R v H1):tE E f σ H R:=by
 obtain⟨B,H₀,Hs,env,sr,h⟩:=h;refine⟨B,H₀,Hs,env,sr,(az.bind h).imp (λp hp v Oa H' g r=>?_) λe he=>he⟩;exact k B H₀ Oa H' env p v (sr.grow g) r (hp.imp (λ_ z=>z) λ_ _=>trivial)
section
variable{pos:Pos}{f:af->M PV}
end
theorem SR.unset{B:Hp}{env:af}(r:SR B H₀ Hs H σ env):SR B H₀ Hs H (σ.set i none) (env.set i none):=by
 have key:∀ (j:Nat) (q:SV),(env.set i none)[j]?=some (some q)->env[j]?=some (some q)/\i≠j:=λj q e=>by
  rw[S5] at e
  by_cases z:i=j
  .rw[if_pos z] at e
   split at e <;> cases e
  .rw[if_neg z] at e;exact⟨e,z⟩
 have old:∀ j,i≠j->(σ.set i none)[j]?=σ[j]?:=λj z=>by rw[S5,if_neg z]
 refine⟨r.gr,by rw[UH,UH];exact r.len,λj q e=>?_,λj xs e=>?_,λj k xs ys a n e1 e2 e3=>?_,λj a C fs e=>?_,λj k a b C D fs gs e1 e2=>?_⟩
 .obtain⟨e,z⟩:=key j _ e;rw[old j z];exact r.sh j q e
 .obtain⟨e,z⟩:=key j _ e;rw[old j z];exact r.ow j xs e
 .obtain⟨e1,z1⟩:=key j _ e1;obtain⟨e2,z2⟩:=key k _ e2;rw[old j z1] at e3;rw[old k z2];exact r.sep j k xs ys a n e1 e2 e3
 .obtain⟨e,z⟩:=key j _ e;rw[old j z];exact r.bd j a C fs e
 .exact r.one j k a b C D fs gs (key j _ e1).1 (key k _ e2).1
section
variable{pos:Pos}{f:af->M PV}
theorem Jn(hN:X.N.Nodup)(hi:X.N[i]?=some x)(hx:Loc X.env.scope x)(he:PE X e (tE E f))(hs:autoParam (swapsWith e (some (.Name x pos')) pos.line X.env=pure false) aR._auto_1)(hf:autoParam (X.fn x=true\/X.env.scope.names.lookup x=some .local) aF._auto_1) :
  kN X [.Assign [.Name x pos'] e pos] (M9 E (bj i f)):=by
 intro N5 s σ H D I q;exact vb (wV hN hi hx he hs hf) yx N5 s σ H D I (za q λB H₀ Hs H1 env p v sr rp hp=>hp _ Hs H1 (sr.set rp))
end
abbrev Cx.qp(X:Cx)(pn:List (Addr×Obj)):Cx:={ X with pn:=pn }
abbrev Cx.hand(X:Cx)(ea:Addr):Cx:={ X with A:=X.A.mark (some (.ref ea)),calm:=false,xe:=λ_ _=>False }
section
variable{Qi:List (Addr×Obj)}{ea:Addr}
theorem Cx.Ok.qp(ok:X.Ok)(pn:List (Addr×Obj)):(X.qp pn).Ok:=⟨ok.mod,ok.kind,ok.glob,ok.blt,ok.above,ok.inj,ok.has,ok.Gf,ok.hd,ok.frames,ok.IY,ok.JM,ok.bs,ok.Dr,ok.tP,ok.vD,ok.kO,ok.DI⟩
theorem Cx.Ok.oX{pn:List (Addr×Obj)}(ok:(X.qp pn).Ok):X.Ok:=⟨ok.mod,ok.kind,ok.glob,ok.blt,ok.above,ok.inj,ok.has,ok.Gf,ok.hd,ok.frames,ok.IY,ok.JM,ok.bs,ok.Dr,ok.tP,ok.vD,ok.kO,ok.DI⟩
theorem Cx.Ok.hand(ok:X.Ok)(ea:Addr):(X.hand ea).Ok:=⟨ok.mod,ok.kind,ok.glob,ok.blt,ok.above,ok.inj,ok.has,ok.Gf,(λz=>nomatch z),ok.frames,ok.IY,ok.JM,ok.bs,ok.Dr,ok.tP,ok.vD,ok.kO,ok.DI⟩
theorem Inv.qp(I:Inv X N5 σ H s):Inv (X.qp (X.pn++N5)) [] σ H s:=⟨I.ok.qp _,I.os,I.bare,I.base,I.loc,I.cell,I.free,I.gq,(λp hp=>I.pin p (by rw[Ul] at hp;exact hp)),I.bB,I.len⟩
theorem Inv.oX(I:Inv (X.qp (X.pn++N5)) Qi σ H s):Inv X N5 σ H s:=⟨I.ok.oX,I.os,I.bare,I.base,I.loc,I.cell,I.free,I.gq,(λp hp=>I.pin p (Xb _ hp)),I.bB,I.len⟩
theorem Inv.hand(I:Inv X N5 σ H s)(ea:Addr):Inv (X.hand ea) N5 σ H s:=⟨I.ok.hand ea,I.os,I.bare,I.base,I.loc,I.cell,I.free,I.gq,I.pin,I.bB,I.len⟩
theorem Inv.iH(I:Inv (X.hand ea) N5 σ H s)(ok:X.Ok):Inv X N5 σ H s:=⟨ok,I.os,I.bare,I.base,I.loc,I.cell,I.free,I.gq,I.pin,I.bB,I.len⟩
theorem Inv.Bk(I:Inv X N5 σ (mI Hc ea T C dd fl) s)(h1:Hc ea=some (hX C dd ea))(h2:Hc T=none)(h3:T≠ea):Inv X N5 σ Hc s:=by
 have no:∀ b,mI Hc ea T C dd fl b=none->Hc b=none:=λb e=>by
  by_cases z:b=ea
  .rw[z,pC] at e;cases e
  .by_cases z2:b=T
   .rw[z2];exact h2
   .rw[jf z z2] at e;exact e
 have so:∀ b o,mI Hc ea T C dd fl b=some o->(∀ φ,o≠.ext φ)->Hc b=some o:=λb o e n=>by
  by_cases z:b=ea
  .rw[z,pC] at e;cases e;exact absurd rfl (n _)
  .by_cases z2:b=T
   .rw[z2,pq h3] at e;cases e;exact absurd rfl (n _)
   .rw[jf z z2] at e;exact e
 refine⟨I.ok,I.os,I.bare,⟨I.base.keep,I.base.slot,λb o e n hx=>no b (I.base.free b o e n hx),I.base.there,λb xs e=>so b _ (I.base.pk b xs e) (λ_ z=>nomatch z),λb o u e=>so b _ (I.base.kS b o u e) (λ_ z=>nomatch z),λb ps e=>?_⟩,I.loc,I.cell,no _ I.free,λx c e=>no _ (I.gq x c e),λp hp=>?_,λb o e=>?_,I.len⟩
 .obtain⟨more,q⟩:=I.base.oP b ps e;exact⟨more,so b _ q λ_ z=>nomatch z⟩
 .obtain⟨e,n,r⟩:=I.pin p hp;exact⟨e,no _ n,r⟩
 .by_cases z:b=ea
  .subst z;rw[h1] at e;cases e;obtain⟨vs,_,_,hx,_⟩:=I.z9 h3;exact Ea hx
  .by_cases z2:b=T
   .rw[z2,h2] at e;cases e
   .refine(I.bB b o (by rw[jf z z2];exact e)).lQ (λ_ _ _ q=>q) (λc q=>so c _ q λ_ z=>nomatch z) λc xs q=>so c _ q λ_ z=>nomatch z
theorem Inv.gone{E:Value->Shared->Prop}{n:Str}{pos:Pos}{Q:Unit->Shared->Prop}(I:Inv X N5 σ H s)(hN:X.N.Nodup)(hi:X.N[i]?=some n)(hx:X.env.scope.names.lookup n=some .local)
  (h:∀ s',Inv X N5 (σ.set i none) H s'->Q () s'):wpAny (model X.prog X.w) A (do bindName X.env n .none;unbindBehindTheSuite X.env n pos) Q E s:=by
 obtain⟨m,hn,hl⟩:=id I.loc;have B0:=I.B0;refine wpAny_nameGoes_keeps hx hn (by rw[I.ok.kind];rfl) λh' v Sq hs=>?_;obtain⟨oL,_,_,hoL,_⟩:=id hn;have tracked:mf X.prog X.w H h':=λb ob e=>by
  refine(I.bB b ob e).lQ (λc w' hc q=>(hs.2 c ?_).trans q) (λ_ q=>q) λ_ _ q=>q;rintro rfl;rcases hc with z | hc
  .rw[<- z,I.free] at e;cases e
  .rw[I.free] at hc;cases hc
 refine h _ ⟨I.ok,I.os,I.bare,⟨λb o e n hb hx=>?_,λb o e n hb hx=>?_,I.base.free,λb o e hx=>?_,I.base.pk,I.base.kS,I.base.oP⟩,⟨_,Sq,λj y v' e1 e2 e3=>?_⟩,λy c e=>?_,I.free,I.gq,λp hp=>?_,tracked,by simpa using I.len⟩
 .exact(hs.2 b (Tu (S_ (S7 e) I.ok.above))).trans (I.base.keep b o e n hb hx)
 .obtain⟨sl,e1⟩:=I.base.slot b o e n hb hx;exact⟨sl,(hs.2 b (Tu (S_ (S7 e) I.ok.above))).trans e1⟩
 .obtain⟨o',e1⟩:=I.base.there b o e hx;exact⟨o',(hs.2 b (Tu (S_ (S7 e) I.ok.above))).trans e1⟩
 .have hj:i≠j:=λz=>by
   subst z;rw[S5,if_pos rfl] at e2
   split at e2 <;> cases e2
  rw[Xc hj] at e2;obtain⟨u',r',q⟩:=hl j y v' e1 e2 e3;refine⟨u',r',?_⟩;rcases q with ⟨k,e⟩ | ⟨k,c,e,z⟩
  .refine .inl ⟨k,?_⟩;have:y≠n:=λe=>hj (pv hN hi (e▸e1));simp[this,e]
  .exact .inr ⟨k,c,e,z.sameBut hs (B0 y c e)⟩
 .obtain⟨w',z⟩:=I.cell y c e;exact⟨w',z.sameBut hs (B0 y c e)⟩
 .obtain⟨e,n,ne,nf,d⟩:=I.pin p hp;exact⟨(hs.2 p.1 ne).trans e,n,ne,nf,d⟩
end
abbrev Hd:=(Addr->Option Bool)×Option Nat×(af->M Out)
def Bt(i:Nat):Out->Out
 | .nx e=>.nx (e.set i none)
 | .bk e=>.bk (e.set i none)
 | .ct e=>.ct (e.set i none)
 | .rt p=>.rt p
def p7(o:Option Nat)(h:af->M Out)(x:EX)(env:af):M Out:=match o with
 | none=>Ap (h env)
 | some i=>(Ap (h (env.set i (some (.sh (.exc x.1 x.2)))))).bind λout=>M.ok (Bt i out)
def uf(b:Option Bool)(x y:M Out):M Out:=match b with
 | some true=>x
 | some false=>y
 | none=>none
def iS:List Hd->EX->af->M Out
 | [],_,_=>none
 | (t,o,h)::r,x,env=>uf (t x.1) (p7 o h x env) (iS r x env)
def tj(r:M Out)(k:EX->M Out):M Out:=match r with
 | some (.error x)=>k x
 | r=>r
def FK(f:af->M Out)(hs:List Hd):af->M Out:=λenv=>tj (f env) λx=>iS hs x env
inductive FP (X:Cx) (E:XK):List ExceptHandler->List Hd->Prop where
 | nil:FP X E [] []
 | Gx {x:Str} {np pos:Pos} {b₀:Stmt} {PY:List Stmt} {rest:List ExceptHandler} {t:Addr->Option Bool} {h:af->M Out} {hs:List Hd} {D:Addr} (hg:Gl X x) (hm:X.mg x=some (.ref D)) (hd:(x==("__debug__" : Str))=false)
   (ht:∀ C b,t C=some b->PySem.W.exmOne X.K (.ref C) (.ref D)=some b) (hb:∀ ea,kN (X.hand ea) (b₀::PY) (tS E h)) (r:FP X E rest hs):FP X E (.ExceptHandler (some (.Name x np)) none (b₀::PY) pos::rest) ((t,none,h)::hs)
 | Kj {x n:Str} {i:Nat} {np pos:Pos} {b₀:Stmt} {PY:List Stmt} {rest:List ExceptHandler} {t:Addr->Option Bool} {h:af->M Out} {hs:List Hd} {D:Addr} (hg:Gl X x) (hm:X.mg x=some (.ref D)) (hd:(x==("__debug__" : Str))=false)
   (hN:X.N.Nodup) (hi:X.N[i]?=some n) (hx:X.env.scope.names.lookup n=some .local)
   (ht:∀ C b,t C=some b->PySem.W.exmOne X.K (.ref C) (.ref D)=some b) (hb:∀ ea,kN (X.hand ea) (b₀::PY) (tS E h)) (r:FP X E rest hs):FP X E (.ExceptHandler (some (.Name x np)) (some n) (b₀::PY) pos::rest) ((t,some i,h)::hs)
variable{hd:List Hd}{hls:List ExceptHandler}
section
variable{B:Hp}{ea:Addr}{E:XK}{env:af}{fo:Option (List (Str×PV))}{D:Ends}{F:Value->Shared->Prop}
theorem SP.iH{D:Ends}{f:Flow}{s':Shared}(h:SP (X.hand ea) N5 D f s')(ok:X.Ok):SP X N5 D f s':=by
 cases f with
 | next=>obtain⟨σ',H',I,q⟩:=h;exact⟨σ',H',I.iH ok,q⟩
 | brk=>obtain⟨σ',H',I,q⟩:=h;exact⟨σ',H',I.iH ok,q⟩
 | cont=>obtain⟨σ',H',I,q⟩:=h;exact⟨σ',H',I.iH ok,q⟩
 | ret u=>obtain⟨v,σ',H',I,r,q⟩:=h;exact⟨v,σ',H',I.iH ok,r,q⟩
theorem az.err{r:M α}{Q:α->Prop}(h:az r Q (λ_=>False)):az r Q E':=h.imp (λ_ z=>z) λ_ z=>z.elim
def Ends.gone(D:Ends)(i:Nat):Ends:=⟨fun σ H=>D.nx (σ.set i none) H,D.rt,fun σ H=>D.bk (σ.set i none) H,fun σ H=>D.ct (σ.set i none) H⟩
theorem KS.gone{i:Nat}{o:Out}(h:KS D B H₀ (Bt i o)):KS (D.gone i) B H₀ o:=by
 cases o with
 | nx e=>exact fun σ Hs H sr=>h _ Hs H sr.unset
 | bk e=>exact fun σ Hs H sr=>h _ Hs H sr.unset
 | ct e=>exact fun σ Hs H sr=>h _ Hs H sr.unset
 | rt p=>exact h
theorem CJ{M:Model}{o:Obj}(hx:s.heap.get? ea=some o):PySem.W.Looks M s.heap (typeOf (.ref ea)) o.cls:=by
 intro A Q E s' k q;exact Aw (k _ _ hx) q
theorem FP.run(hh:FP X E hls hd):∀ {s:Shared},Inv X N5 σ (mI Hc ea T C dd .none) s->Hc ea=some (hX C dd ea)->Hc T=none->T≠ea->SR B H₀ Hs Hc σ env->Rep Hs (.exc C fo) (.ref ea) ->
  az (iS hd (C,fo) env) (KS D B H₀) Z->wpAny (model X.prog X.w) X.A (handleBy (.ref ea) X.env hls) (SP X N5 D) F s:=by
 induction hh with
 | nil=>intro s I h1 h2 h3 sr rp q;exact q.elim
 | @Gx x np pos b₀ PY rest t h hs Dc hg hm hd ht hb r ih =>
  intro s I h1 h2 h3 sr rp q;obtain⟨vs,oT,ts,hx,_⟩:=I.z9 h3;refine Zb (YM (ju (I.hand ea) hg hm ?_ hd)) (λq=>nomatch q);have LT:=CJ (M:=model X.prog X.w) hx;cases e:t C with
  | none=>simp only[iS,e,uf] at q;exact q.elim
  | some b =>
   refine(PySem.W.exm_one I.jK LT (ht C b e)).here ?_;cases b with
   | false =>
    simp only[iS,e,uf] at q;exact ih I h1 h2 h3 sr rp q
   | true =>
    simp only[iS,e,uf,p7] at q;refine codeAny_handlers_suite ((I.hand ea).qa (fr:=none) h3 λh' I2=>?_);refine UU (hb ea N5 _ σ Hc D (I2.Bk h1 h2 h3) ⟨B,H₀,Hs,env,sr,(az.Ap q).err⟩) (λf s' z=>z.iH I.ok) λ_ _ z=>z.elim
 | @Kj x n i np pos b₀ PY rest t h hs Dc hg hm hd hN hi hxn ht hb r ih =>
  intro s I h1 h2 h3 sr rp q;obtain⟨vs,oT,ts,hx,_⟩:=I.z9 h3;refine Zb (YM (ju (I.hand ea) hg hm ?_ hd)) (λq=>nomatch q);have LT:=CJ (M:=model X.prog X.w) hx;cases e:t C with
  | none=>simp only[iS,e,uf] at q;exact q.elim
  | some b =>
   refine(PySem.W.exm_one I.jK LT (ht C b e)).here ?_;cases b with
   | false =>
    simp only[iS,e,uf] at q;exact ih I h1 h2 h3 sr rp q
   | true =>
    simp only[iS,e,uf,p7] at q;refine codeAny_handlers_suite_as ((I.hand ea).qa (fr:=none) h3 λh' I2=>?_);refine jT (X:=X.hand ea) (v:=.ref ea) (i:=i) (I2.Bk h1 h2 h3) hN hi (.inl hxn) rfl (λs3 I3=>?_) (.inr hxn);refine UU (hb ea N5 _ _ Hc (D.gone i) I3 ⟨B,H₀,Hs,_,sr.set rp,(az.Ap (E:=Z) ?_).err⟩) (λf s' z=>?_) λ_ _ z=>z.elim
    .exact(az.bind q).imp (λo z=>KS.gone z) λ_ z=>z
    .cases f with
     | next=>obtain⟨σ',H',I4,d⟩:=z;exact(I4.iH I.ok).gone hN hi hxn λs5 I5=>⟨_,H',I5,d⟩
     | brk=>obtain⟨σ',H',I4,d⟩:=z;exact(I4.iH I.ok).gone hN hi hxn λs5 I5=>⟨_,H',I5,d⟩
     | cont=>obtain⟨σ',H',I4,d⟩:=z;exact(I4.iH I.ok).gone hN hi hxn λs5 I5=>⟨_,H',I5,d⟩
     | ret u=>obtain⟨v,σ',H',I4,rv,d⟩:=z;exact(I4.iH I.ok).gone hN hi hxn λs5 I5=>⟨v,_,H',I5,rv,d⟩
theorem GL{h₀:ExceptHandler}{pos:Pos}{f:af->M Out}(Oz:X.stack=X.env::X.outer)(hf:X.env.frame=some X.env.locals)
  (hb:∀ (pn:List (Addr×Obj)) (E2:St->XK),fc ((X.qp pn).out E2) E2->kN ((X.qp pn).out E2) body (M9 E2 f)) (hh:FP X E (h₀::hls) hd):PS X (.Try body (h₀::hls) [] [] pos) (tS E (FK f hd)):=by
 intro N5 s σ H D I q;obtain⟨B,H₀,Hs,env,sr,q⟩:=q;refine wpAny_Try_except ?_
 let E2:St->XK:=fun σ v _ Hc=>∃ Hs C fo ea,v=.ref ea/\SR B H₀ Hs Hc σ env/\Rep Hs (.exc C fo) (.ref ea)/\az (iS hd (C,fo) env) (KS D B H₀) (XW E B H₀)
 have q1:az (f env) (KS D B H₀) (XW (E2 σ) Hs H):=by
  unfold FK at q;cases e:f env with
  | none=>rw[e] at q;exact q
  | some r =>
   rw[e] at q;cases r with
   | ok o=>exact q
   | error x=>exact λea Oa H' g rp=>⟨Oa,x.1,x.2,ea,rfl,sr.grow g,rp,q⟩
 refine UU (hb (X.pn++N5) E2 (Aq Oz hf) [] s σ H D (I.qp.oO _) ⟨B,H₀,Hs,env,sr,q1⟩) (λfl s1 hq=>?_) (λe s1 z=>?_)
 .cases fl with
  | next=>obtain⟨σ',H',I',d⟩:=hq;exact WE ⟨σ',H',I'.eQ.oX,d⟩
  | brk=>obtain⟨σ',H',I',d⟩:=hq;exact⟨σ',H',I'.eQ.oX,d⟩
  | cont=>obtain⟨σ',H',I',d⟩:=hq;exact⟨σ',H',I'.eQ.oX,d⟩
  | ret u=>obtain⟨v,σ',H',I',r,d⟩:=hq;exact⟨v,σ',H',I'.eQ.oX,r,d⟩
 .refine Zx.note (X:=X.qp (X.pn++N5)) z Oz hf λs' ea C dd Qi σ' Hc T he I2 h1 h2 h3 h4=>?_;subst he;refine I2.qa (fr:=none) h3 λh' I3=>?_;obtain⟨Oa,C',fo,ea',ee,PL,rp,hp⟩:=h4;cases ee;have I4:=I3.Bk h1 h2 h3;have eC:C'=C:=by
   obtain⟨vs,hx⟩:=I4.oJ h1;cases rp with
   | xq hr =>
    obtain⟨vs2,Pz⟩:=I4.oJ (PL.gr.sub _ _ hr);rw[hx] at Pz;injection Pz with Pz;injection Pz with Pz;injection Pz with Pz;exact Pz.symm
   | wN hr _ _ =>
    obtain⟨vs2,Pz⟩:=I4.oJ (PL.gr.sub _ _ hr);rw[hx] at Pz;injection Pz with Pz;injection Pz with Pz;injection Pz with Pz;exact Pz.symm
  subst eC;exact hh.run I3.oX h1 h2 h3 PL rp hp
end
def JO(ys ns:List Addr)(C:Addr):Option Bool:=if ys.contains C=true then some true else if ns.contains C=true then some false else none
variable{ns:List Addr}
theorem CA{ys:List Addr}(h:JO ys ns C=some b):(b=true/\C∈ys)\/(b=false/\C∈ns):=by
 unfold JO at h
 by_cases h1:ys.contains C=true
 .rw[if_pos h1] at h;cases h;exact .inl ⟨rfl,by simpa using h1⟩
 .rw[if_neg h1] at h
  by_cases h2:ns.contains C=true
  .rw[if_pos h2] at h;cases h;exact .inr ⟨rfl,by simpa using h2⟩
  .rw[if_neg h2] at h;cases h
def LP(f:Addr->Option Bool)(ys ns:List Addr):Bool:=ys.all (λC=>f C==some true)&&ns.all λC=>f C==some false
theorem IX{f:Addr->Option Bool}{ys:List Addr}(h:LP f ys ns=true)(e:JO ys ns C=some b):f C=some b:=by
 unfold LP at h;rw[Ud,UB,UB] at h;rcases CA e with ⟨rfl,m⟩ | ⟨rfl,m⟩
 .exact eq_of_beq (h.1 C m)
 .exact eq_of_beq (h.2 C m)
structure M5 (K:PySem.W.Frag) (mg:Str->Option Value) (x:Str) (D:Addr) (ys ns:List Addr):Prop where
 mg:mg x=some (.ref D)
 ok:∀ C b,JO ys ns C=some b->PySem.W.exmOne K (.ref C) (.ref D)=some b
theorem M5.of{K:PySem.W.Frag}{ys:List Addr}(h1:mg x=some (.ref D))(h2:LP (λC=>PySem.W.exmOne K (.ref C) (.ref D)) ys ns=true):M5 K mg x D ys ns:=⟨h1,λ_ _ e=>IX h2 e⟩
section
variable{pos p pt:Pos}{f:af->M PV}{ys yo no:List Addr}
end
section
variable{pos:Pos}{f g:af->M PV}
def F6:List V->Hp->VK->Prop:=λxs H Q=>∃ b,xs=[.bl b]/\Q (.int (if b then 1 else 0)) H
theorem Aj:dw X (.type "int") F6:=by
 intro N5 s σ H xs us Q I r h;obtain⟨b,rfl,q⟩:=h;obtain⟨u,rfl,rx⟩:=vals1 r;cases rx;exact call_int_bool ⟨.int _,H,I.kept (t':=s.toks+1) λ_ _ z=>z,⟨_,rfl⟩,q⟩
def Kw:PV->M PV
 | .bl b=>M.ok (.int (if b then 1 else 0))
 | _=>none
def xT:List PV->M PV
 | [p]=>Kw p
 | _=>none
theorem D4:kM E F6 xT:=by
 intro σ Hs H ps vs Q s rp h
 match ps,rp,h with
 | [],_,h=>exact h.elim
 | _::_::_,_,h=>exact h.elim
 | [p],rp,h =>
  obtain⟨w,rfl,PX⟩:=rp.one;cases PX with
  | bl b=>exact⟨b,rfl,eD.flat h s (.int _)⟩
  | _=>exact h.elim
end
section
open PySem PySem.Spec PyProof.Rows _root_.HT
section
variable{E:Value->Shared->Prop}
theorem lu{t sl:Addr}{vl vu:Value}{lo hi:Option Int}(ht:IsTup s.heap t items)(hs:s.heap.IsSliceOf sl vl vu .none)(pl:IsPart vl lo)(pu:IsPart vu hi)
  (hw:de items.size 0 lo=0/\de items.size items.size hi=items.size) (h:Q (.ref t) s):wpAny (model prog w) A (getItem (.ref t) (.ref sl)) Q E s:=by
 obtain⟨os,RN,hcs,Se⟩:=id hs;have hTs:s.TypeIs (.ref sl) "slice" := ⟨os,RN,hcs⟩
 unfold getItem
 try with_reducible refine U0 ?_
 first | refine RM (SY ?_) | skip
 refine RM (ZD ht.typeIs (by decide) ?_);refine RM (Ur (name:=T9 "__getitem__") ht.typeIs Uy
  (UQ Uy ht.typeIs Y_ ?_ (Zo _ _)))
 show wpAny _ _ (XJ (.ref t) >>= _) _ _ s;refine RM (tupleItemsOf_ ht ?_);refine RM (Yq hTs ?_);rw[if_pos (by decide)];refine RM (i5 hs pl pu ?_);have hyes:(((de items.size 0 lo:Nat):Int)==0&&(1:Int)==1&&(de items.size items.size hi-de items.size 0 lo)==items.size)=true:=by
  rw[hw.1,hw.2];simp
 show wpAny _ _ (if (((de items.size 0 lo:Nat):Int)==0&&(1:Int)==1&&(de items.size items.size hi-de items.size 0 lo)==items.size)=true then _ else _) _ _ s;rw[if_pos hyes];unfold Builtin.Tuple.tupleIsExact;refine RM (RM (Yq ht.typeIs (SY ?_)));rw[if_pos (show ((U7 "tuple" == U7 "tuple")=true) from beq_self_eq_true _)];refine RM (Vd ?_)
 first
  | exact RM (SY (SY ⟨_,rfl,SY h⟩))
  | exact RM (SY ⟨_,rfl,SY h⟩)
  | exact SY ⟨_,rfl,SY h⟩
end
section
variable{lo hi:Option Expr}{pos p2:Pos}{f:af->M PV}{gl gh:af->M (Option Int)}
def My(K:PySem.W.Frag):V->Option Int->Option Int->Hp->VK->Prop:=λx lo hi H Q=>∃ a xs,x=.ref a/\gi K H a xs/\(de xs.length 0 lo=0/\de xs.length xs.length hi=xs.length)/\Q (.ref a) H
theorem Ez:DH X (My X.K):=by
 intro N5 s σ H x v vl vu lo hi sl Q I rx hs pl pu h;obtain⟨a,xs,rfl,hx,hw,q⟩:=h;cases rx;obtain⟨N9,r,ht,hz⟩:=I.tuple hx;have hlen:N9.toArray.size=xs.length:=by rw[Tc];exact r.length.symm
 refine⟨"tuple", _,Uy.lookup,ht.typeIs,?_⟩;exact lu ht hs pl pu (by rw[hlen];exact hw) ⟨.ref a,H,I,rfl,q⟩
def IU(p:PV)(lo hi:Option Int):M PV:=match p with
 | .tup xs=>M.ok (.tup (lN xs lo hi))
 | .lst xs=>M.ok (.lst (lN xs lo hi))
 | .jV xs=>M.ok (.lst (lN xs lo hi))
 | _=>none
def j7(f:af->M PV)(lo hi:af->M (Option Int)):af->M PV:=λenv=>(f env).bind λp=>(lo env).bind λl=>(hi env).bind λh=>IU p l h
theorem j_(he:PE X e (tE E f))(hl:PO X lo (LN E gl))(hh:PO X hi (LN E gh)):PE X (.Subscript e (.Slice lo hi none p2) pos) (tE E (j7 f gl gh)):=by
 refine(C9 (DH.or Hr (DH.or Ez Ef)) he hl hh).imp fun σ H Q q=>cu (K:=kB Q) kB.g q λB H₀ Hs H1 env p v sr rp hp=>?_;refine⟨B,H₀,Hs,env,sr,(az.bind hp).imp (λl hl Oj H2 g2=>?_) λe he=>he⟩;have OM:=sr.grow g2;refine⟨B,H₀,Oj,env,OM,(az.bind hl).imp (λh hh P7 H3 g3=>?_) λe he=>he.grow g2⟩;have Qu:=OM.grow g3;have hz:az (IU p l h) (eD P7 H3 Q) (λ_=>True):=hh.imp (λz hz w Hs4 H4 g4 r=>hz w Hs4 H4 ((g2.trans g3).trans g4) r) λ_ _=>trivial;have rp3:=(rp.mono g2.st).mono g3.st;cases rp3 with
 | @tup a xs vs ha hx =>
  by_cases hn:de xs.length 0 l=0/\de xs.length xs.length h=xs.length
  .refine .inr (.inl ⟨_,_,rfl,gi.of (Qu.gr.sub _ _ ha),by rw[<- hx.length];exact hn,?_⟩);have e:lN xs l h=xs:=by
    unfold lN;rw[hn.1,hn.2,List.drop_zero,Yw,ZV]
   have QJ:eD P7 H3 Q (.tup xs):=by
    have z:eD P7 H3 Q (.tup (lN xs l h)):=hz;rw[e] at z;exact z
   exact eD.flat QJ Qu.gr.sub (.tup ha hx)
  .exact .inl ⟨_,_,rfl,gi.of (Qu.gr.sub _ _ ha),by rw[<- hx.length];exact hn,eD.tup hz Qu.gr.sub (hx.cut l h)⟩
 | lst ha hx=>exact .inr (.inr ⟨_,_,rfl,iB.of (Qu.gr.sub _ _ ha),eD.lst hz Qu.gr.sub (hx.cut l h)⟩)
 | jV ha hx=>exact .inr (.inr ⟨_,_,rfl,.inl (.inr ⟨_,Qu.gr.sub _ _ ha⟩),eD.lst hz Qu.gr.sub (hx.cut l h)⟩)
 | _=>exact hz.elim
end
end
section
variable{pos:Pos}{g:af->M PV}{fs:af->M (List PV)}{L:List (Addr×(List PV->M PV))}{K:PySem.W.Frag}
end
section
open PySem.SeqAt (shaped EqAt RcAt RcNeAt)
section
variable{a b:Addr}
end
end
end L2
namespace HT
open PySem PyProof.Rows
variable{E:Value->Shared->Prop}{A:Around}{w:World}{prog:Program}
section
variable{a b v:Value}{k:Bool}{I S ax:Addr}{t:Shared}{n:Nat}{R:Result->Shared->Prop}
end
section
open PySem.SeqAt
open PySem.AutoSeq1 (wpAny_loadPart')
open PySem.MeetsSeq PySem.MeetsSeq2 PySem.MeetsSeq3
end
section
variable{s:Shared}
end
end HT
namespace L2
open PySem PySem.Spec PyProof.Rows
theorem xE{xs:List PV}:∀ {ns:List Int},l7 xs=some ns->xs=ns.map PV.int:=by
 induction xs with
 | nil=>intro ns h;cases h;rfl
 | cons p r ih =>
  intro ns h;cases p with
  | int i =>
   obtain⟨m,e,rfl⟩:=Tv.mp (show (l7 r).map (i::·)=some ns from h);rw[ih e];rfl
  | _=>cases h
def pd:PV->Option (List Int)
 | .tup xs=>l7 xs
 | _=>none
variable{X:Cx}
section
variable{E:St->XK}
theorem mr{Hs:Hp}{p:PV}{v:V}{ns:List Int}(r:Rep Hs p v)(h:pd p=some ns):∃ a,v=.ref a/\Hs a=some (.tup (ns.map V.int)):=by
 cases r with
 | tup ht hx =>
  have e:=xE (show l7 _=some ns from h);subst e;rw[hx.ints] at ht;exact⟨_,rfl,ht⟩
 | _=>cases h
end
section
variable{tg elt iter c:Expr}{scope:Scope}{cl:List (Str×Addr)}{pos:Pos}{wi:TI}{it:af->M (List PV)}{g:TG}{set:PV->af->M af}{f:af->M PV}{ts fs:List Str}{js:List Nat}
variable{E:XK}{i:Nat}{y:Str}{py Qj:Pos}
theorem yM(l:Nat)(Of:X.calm=true)
  (OB:closureFor scope X.env=pure cl) (hk:scope.kind=.function) (nc:fv scope.names=true) (lo:gA scope.names=true) (fh:gE cl scope.names=true) (ag:eE X cl) (fr:iC X scope cl fs js)
  (hi:PI X tg iter wi) (hv:yr (λ_=>E) wi it) (hg:∀ C s₀ H₀ ex N5,PG (nZ X scope cl (ts++fs) C s₀ H₀ ex N5) tg g) (QL:∀ E,A9 E g set) (so:lR set) (he:∀ C s₀ H₀ ex N5,PE (nZ X scope cl (ts++fs) C s₀ H₀ ex N5) elt (tE EF f))
  (hN:X.N.Nodup) (Sk:X.N[i]?=some y) (hy:Loc X.env.scope y)
  (hs:autoParam (∀ x,foldedSetIterable iter X.env x=pure x) aI._auto_1) (RP:autoParam (swapsWith (.ListComp elt [⟨tg,iter,[],0⟩] scope pos) (some (.Name y py)) Qj.line X.env=pure true) aR._auto_1)
  (hf:autoParam (X.fn y=true\/X.env.scope.names.lookup y=some .local) aF._auto_1) :
  PS X (.Assign [.Name y py] (.ListComp elt [⟨tg,iter,[],0⟩] scope pos) Qj) (tS E (mL i (vQ l (bZ it set none f ts.length js)))):=by
 refine(yf hN Sk hy Of OB hk nc lo fh ag fr hi hg he hs RP hf).imp λD σ H q=>?_;refine oI hv QL so ?_;obtain⟨B,H₀,Hs,env,sr,q⟩:=q;obtain⟨xs,ex,q⟩:=az.own (az.bind (az.bind q));obtain⟨a,vs,h3,h2,OM⟩:=sr.lend ex;refine⟨B,H₀,_,_,OM,?_⟩
 split at q
 .rename_i ps hf;rw[hf];obtain⟨n,q⟩:=az.cM q;intro us p Oa H' g r hn;obtain⟨g2,ea⟩:=bL.back h3 h2 sr.gr.sub g;exact q _ _ _ ((sr.grow g2).own (r.away ea n) hn)
 .exact q.elim
end
end L2
local macro_rules | `(tactic| walk_at "u1")=>`(tactic| unfold $(Lean.mkIdent (Lean.mkPrivateNameCore `PySem.Builtin.List.W1All `PySem.Builtin.gallop)):ident)
namespace Srt
open PySem PyProof.Rows
def ky(κ:KeyKind)(p:Keyed):κ.α:=(κ.keyOf p.1).getD κ.dflt
def kI(κ:KeyKind)(p:Keyed):Prop:=∃ a,κ.keyOf p.1=some a
def le(κ:KeyKind)(p q:Keyed):Prop:=κ.kle (ky κ p) (ky κ q)
structure lp (prog:Program) (w:World) (A:Around) (s:Shared) (κ:KeyKind) (k:SortKind):Prop where
 lt:∀ (E:Value->Shared->Prop) (x y:Value) (a b:κ.α) {Q:Bool->Shared->Prop},κ.keyOf x=some a->κ.keyOf y=some b->Q (κ.blt a b) s->wpAny (model prog w) A (keyLt' k x y) Q E s
def Ky:Bool->Keyed->Array Keyed->Nat->Nat->Nat->StateT SortSt Sem (Option Nat):=sortPriv% PySem.Builtin.gallop
variable{Q:Option Bool->SortSt->Prop}
variable{arr:Array Keyed}
section
variable{prog:Program}{w:World}{A:Around}{E:Value->Shared->Prop}{s:Shared}{κ:KeyKind}{k:SortKind}
theorem vi(hA:lp prog w A s κ k){st:SortSt}{x y:Keyed}(hk:kindOf st=k)(hx:kI κ x)(hy:kI κ y)
  (h:Q (some (κ.blt (ky κ x) (ky κ y))) st):wpS (model prog w) A E s (lt' x y) Q st:=by
 obtain⟨a,ha⟩:=hx;obtain⟨b,hb⟩:=hy;rw[lt'_eq];refine S1 (Xy ?_);rw[hk];refine S1 (Yh (VZ (hA.lt _ _ _ a b ha hb ⟨rfl,?_⟩)));simp only[ky,ha,hb,Vf] at h;exact Te h
theorem bC{st:SortSt}{i:Nat}{p:Keyed}{Q:Keyed->SortSt->Prop}(hi:arr[i]?=some p)(h:Q p st):wpS (model prog w) A E s (elem' arr i) Q st:=by
 rw[elem'_eq,hi];exact Te h
theorem Fz(hA:lp prog w A s κ k){st:SortSt}{i j:Nat}{x y:Keyed}(hk:kindOf st=k)
  (hi:(arrOf st)[i]?=some x) (hj:(arrOf st)[j]?=some y) (hx:kI κ x) (hy:kI κ y)
  (h:Q (some (κ.blt (ky κ x) (ky κ y))) st):wpS (model prog w) A E s (ltAt' i j) Q st:=by
 rw[ltAt'_eq];refine S1 (Xy ?_);refine S1 (bC hi (S1 (bC hj ?_)));exact vi hA hk hx hy h
theorem Jf(hA:lp prog w A s κ k){left:Bool}{key:Keyed}{base n hint:Nat}{st:SortSt}{Q:Option Nat->SortSt->Prop}(hk:kindOf st=k)
  (P4:kI κ key) (hb:base+n<=arr.size) (Qa:∀ p∈arr.toList,kI κ p) (hh:hint<n) (Pu:Nat->Bool)
  (hbey:∀ i p,i<n->arr[base+i]?=some p->Pu i=if left then κ.blt (ky κ p) (ky κ key) else !κ.blt (ky κ key) (ky κ p))
  (mono:∀ i j,i<=j->j<n->Pu j=true->Pu i=true)
  (h:∀ m,m<=n->(∀ i,i<m->Pu i=true)->(∀ i,m<=i->i<n->Pu i=false)->Q (some m) st) :
  wpS (model prog w) A E s (Ky left key arr base n hint) Q st:=by
 have B:∀ i,i<n->∀ {Q':Option Bool->SortSt->Prop},Q' (some (Pu i)) st ->
   wpS (model prog w) A E s (do let x <- elem' arr (base+i);if left=true then lt' x key else do let r <- lt' key x;pure (Option.map (λx=>!x) r)) Q' st:=by
  intro i hi Q' hq;have hs:base+i<arr.size:=by lia
  have e:arr[base+i]?=some arr[base+i]:=getElem?_pos arr _ hs;have hp:kI κ arr[base+i]:=Qa _ (by simp);refine S1 (bC e ?_);have hv:=hbey i _ hi e;cases left
  .simp only[UM,if_false] at hv ⊢;refine S1 (vi hA hk P4 hp (Te ?_));rw[hv] at hq;exact hq
  .simp only[if_true] at hv ⊢;refine vi hA hk hp P4 ?_;rw[hv] at hq;exact hq
 have Q_:∀ i j,i<=j->j<n->Pu i=false->Pu j=false:=by
  intro i j RB hj hi;cases hbj:Pu j
  .rfl
  .rw[mono i j RB hj hbj] at hi;exact hi
 unfold Ky;walk_at "u1";refine S1 (B hint hh ?_);dsimp only;cases hbh:Pu hint
 case' false =>
  rw[if_neg (by simp)];refine S1 (VH (Vm (I:=λx c N8=>N8=st/\∃ l o,c=(none,l,o)/\l<o/\x+1<=o/\l<=hint/\Pu (hint-l)=false)
   (Q:=λc N8=>N8=st/\∃ l o,c=(none,l,o)/\l<o/\l<=hint/\Pu (hint-l)=false/\(o<=hint->Pu (hint-o)=true)) ?s1 ?f1 ⟨rfl,0,1,rfl,by lia,by lia,by lia,hbh⟩) ?p1)
  case f1 =>
   rintro c N8 ⟨rfl,l,o,rfl,h1,h2,h3,h4⟩;exact⟨rfl,l,o,rfl,h1,h3,h4,λh=>absurd h (by lia)⟩
  case s1 =>
   rintro x c N8 _ hx ⟨rfl,l,o,rfl,h1,h2,h3,h4⟩;dsimp only
   split
   .exact Te ⟨rfl,l,o,rfl,h1,h3,h4,λh=>absurd h (by lia)⟩
   .refine S1 (B (hint-o) (by lia) ?_);dsimp only;cases Ri:Pu (hint-o)
    .exact Te ⟨rfl,o,2*o+1,rfl,by lia,by lia,by lia,Ri⟩
    .exact Te ⟨rfl,l,o,rfl,h1,h3,h4,λ_=>Ri⟩
  rintro c N8 ⟨rfl,l,o,rfl,h1,h3,h4,h5⟩;dsimp only;have a1:hint+1-min o (hint+1)<=hint-l:=by lia
  have a2:hint-l<=n:=by lia
  have a3:∀ i,i<hint+1-min o (hint+1)->Pu i=true:=λi hi=>mono i (hint-o) (by lia) (by lia) (h5 (by lia));have a4:∀ i,hint-l<=i->i<n->Pu i=false:=λi hi hn=>Q_ _ _ hi hn h4;generalize hint+1-min o (hint+1)=lo at a1 a3 ⊢;generalize hint-l=hi at a1 a2 a4 ⊢;clear h1 h3 h4 h5
 case' true =>
  rw[if_pos rfl];refine S1 (VH (Vm (I:=λx c N8=>N8=st/\∃ l o,c=(none,l,o)/\l<o/\x+1<=o/\hint+l<n/\Pu (hint+l)=true)
   (Q:=λc N8=>N8=st/\∃ l o,c=(none,l,o)/\l<o/\hint+l<n/\Pu (hint+l)=true/\(hint+o<n->Pu (hint+o)=false)) ?s1 ?f1 ⟨rfl,0,1,rfl,by lia,by lia,by lia,hbh⟩) ?p1)
  case f1 =>
   rintro c N8 ⟨rfl,l,o,rfl,h1,h2,h3,h4⟩;exact⟨rfl,l,o,rfl,h1,h3,h4,λh=>absurd h (by lia)⟩
  case s1 =>
   rintro x c N8 _ hx ⟨rfl,l,o,rfl,h1,h2,h3,h4⟩;dsimp only
   split
   .exact Te ⟨rfl,l,o,rfl,h1,h3,h4,λh=>absurd h (by lia)⟩
   .refine S1 (B (hint+o) (by lia) ?_);dsimp only;cases Ri:Pu (hint+o)
    .exact Te ⟨rfl,l,o,rfl,h1,h3,h4,λ_=>Ri⟩
    .exact Te ⟨rfl,o,2*o+1,rfl,by lia,by lia,by lia,Ri⟩
  rintro c N8 ⟨rfl,l,o,rfl,h1,h3,h4,h5⟩;dsimp only;have a1:hint+l+1<=hint+min o (n-hint):=by lia
  have a2:hint+min o (n-hint)<=n:=by lia
  have a3:∀ i,i<hint+l+1->Pu i=true:=λi hi=>mono i (hint+l) (by lia) (by lia) h4;have a4:∀ i,hint+min o (n-hint)<=i->i<n->Pu i=false:=λi hi hn=>Q_ (hint+o) _ (by lia) hn (h5 (by lia));generalize hint+l+1=lo at a1 a3 ⊢;generalize hint+min o (n-hint)=hi at a1 a2 a4 ⊢;clear h1 h3 h4 h5
 all_goals
  refine S1 (VH (Vm (I:=λx c Qd=>Qd=N8/\∃ a b,c=(none,a,b)/\a<=b/\b<=n/\b-a<=n-x/\(∀ i,i<a->Pu i=true)/\(∀ i,b<=i->i<n->Pu i=false))
   (Q:=λc Qd=>Qd=N8/\∃ b,c=(none,b,b)/\b<=n/\(∀ i,i<b->Pu i=true)/\(∀ i,b<=i->i<n->Pu i=false)) ?s2 ?f2 ⟨rfl,lo,hi,rfl,a1,a2,by lia,a3,a4⟩) ?p2)
  case f2 =>
   rintro c Qd ⟨rfl,a,b,rfl,h1,h2,h3,h4,h5⟩;have:a=b:=by lia
   subst this;exact⟨rfl,a,rfl,h2,h4,h5⟩
  case s2 =>
   rintro x c Qd _ hx ⟨rfl,a,b,rfl,h1,h2,h3,h4,h5⟩;dsimp only
   split
   .have:a=b:=by lia
    subst this;exact Te ⟨rfl,a,rfl,h2,h4,h5⟩
   .refine S1 (B (a+(b-a)/2) (by lia) ?_);dsimp only;cases Ri:Pu (a+(b-a)/2)
    .exact Te ⟨rfl,a,a+(b-a)/2,rfl,by lia,by lia,by lia,h4,λi h1 h2=>Q_ _ _ h1 h2 Ri⟩
    .exact Te ⟨rfl,a+(b-a)/2+1,b,rfl,by lia,by lia,by lia,λi h1=>mono _ (a+(b-a)/2) (by lia) (by lia) Ri,h5⟩
  case p2 =>
   rintro c Qd ⟨rfl,b,rfl,h2,h4,h5⟩;exact Te (h b h2 h4 h5)
end
end Srt
namespace Srt
open PySem PyProof.Rows
theorem le_refl{κ:KeyKind}(x:Keyed):le κ x x:=U5 _
theorem le_trans{κ:KeyKind}{x y z:Keyed}(h:le κ x y)(h':le κ y z):le κ x z:=Wu h h'
def lt(κ:KeyKind)(p q:Keyed):Prop:=κ.blt (ky κ p) (ky κ q)=true
theorem lt.le{κ:KeyKind}{x y:Keyed}(h:lt κ x y):le κ x y:=We h
def SI(κ:KeyKind)(a:Array Keyed)(lo hi:Nat):Prop:=∀ i j x y,lo<=i->i<=j->j<hi->a[i]?=some x->a[j]?=some y->le κ x y
variable{i:Nat}
theorem cN{a:Array Keyed}{j:Nat}{y:Keyed}:y∈(a.extract i j).toList ↔ ∃ m,i<=m/\m<j/\a[m]?=some y:=by
 rw[YN];constructor
 .rintro⟨m,hm⟩;rw[Ug,UE] at hm
  split at hm
  .exact⟨i+m,by lia,by lia,hm⟩
  .exact absurd hm (by simp)
 .rintro⟨m,h1,h2,h3⟩;have hs:m<a.size:=by
   rcases TV m a.size with h | h
   .exact h
   .rw[WQ h] at h3;exact absurd h3 (by simp)
  refine⟨m-i,?_⟩;rw[Ug,UE,if_pos (by lia),show i+(m-i)=m by lia];exact h3
theorem SI.pw{κ:KeyKind}{a:Array Keyed}{lo hi j:Nat}(h:SI κ a lo hi)(Rj:lo<=i)(hj:j<=hi):(a.extract i j).toList.Pairwise (le κ):=by
 rw[Wx];intro m n hm hn hmn;have e1:(a.extract i j).toList[m]?=some (a.extract i j).toList[m]:=getElem?_pos (a.extract i j).toList _ hm;have e2:(a.extract i j).toList[n]?=some (a.extract i j).toList[n]:=getElem?_pos (a.extract i j).toList _ hn;rw[Ug,UE] at e1 e2
 split at e1
 .split at e2
  .exact h (i+m) (i+n) _ _ (by lia) (by lia) (by lia) e1 e2
  .exact absurd e2 (by simp)
 .exact absurd e1 (by simp)
theorem kT(a:Array Keyed){j k:Nat}(h1:i<=j)(h2:j<=k):(a.extract i k).toList=(a.extract i j).toList++(a.extract j k).toList:=by
 rw[<- Ub,Array.extract_append_extract,Nat.min_eq_left h1,ZW h2]
theorem A6{a:Array Keyed}{x:Keyed}(h:a[i]?=some x):(a.extract i (i+1)).toList=[x]:=by
 have hs:i<a.size:=by
  rcases TV i a.size with h' | h'
  .exact h'
  .rw[WQ h'] at h;exact absurd h (by simp)
 apply List.ext_getElem?;intro m;rw[Ug,UE];cases m with
 | zero=>rw[if_pos (by lia)];simpa using h
 | succ m=>rw[if_neg (by lia)];rfl
variable{b:Bool}
theorem nt(h:(!b)=true):b=false:=by simpa using h
theorem nf(h:(!b)=false):b=true:=by simpa using h
theorem tn(h:b=false):(!b)=true:=by simpa using h
structure MI (R:Keyed->Keyed->Prop) (QM A B out:List Keyed):Prop where
 perm:(out++(A++B)).Perm QM
 JV:out.Pairwise R
 low:∀ x∈out,∀ y∈A++B,R x y
variable{R:Keyed->Keyed->Prop}{QM A B A1 A2 out:List Keyed}
theorem MI.sw(h:MI R QM A B out):MI R QM B A out :=
 ⟨(Wd _ VM).trans h.perm,h.JV,λx hx y hy=>h.low x hx y (by rw[UG] at hy ⊢;exact hy.symm)⟩
theorem MI.tp{SO:List Keyed}(h:MI R QM A B out)(p:QM.Perm SO):MI R SO A B out:=⟨h.perm.trans p,h.JV,h.low⟩
theorem MI.a(h:MI R QM A B out)(e:A.Perm (A1++A2))(h1:A1.Pairwise R)(h2:∀ x∈A1,∀ y∈A2,R x y)(h3:∀ x∈A1,∀ y∈B,R x y):MI R QM A2 B (out++A1):=by
 have hm:∀ y,y∈A ↔ y∈A1\/y∈A2:=λy=>by rw[e.mem_iff,UG]
 refine⟨?_,?_,?_⟩
 .refine List.Perm.trans ?_ h.perm;rw[UJ];refine Wd _ ?_;rw[<- UJ];exact WR _ e.symm
 .rw[U6];exact⟨h.JV,h1,λx hx y hy=>h.low x hx y (UG.mpr (.inl ((hm y).mpr (.inl hy))))⟩
 .intro x hx y hy;rw[UG] at hx hy;rcases hx with hx | hx
  .refine h.low x hx y (UG.mpr ?_);rcases hy with hy | hy
   .exact .inl ((hm y).mpr (.inr hy))
   .exact .inr hy
  .rcases hy with hy | hy
   .exact h2 x hx y hy
   .exact h3 x hx y hy
theorem MI.fin(h:MI R QM A B out)(hs:(A++B).Pairwise R):(out++(A++B)).Pairwise R/\(out++(A++B)).Perm QM :=
 ⟨U6.mpr ⟨h.JV,hs,h.low⟩,h.perm⟩
variable{arr:Array Keyed}
variable{Q:Option Nat->SortSt->Prop}{key:Keyed}
section
variable{prog:Program}{w:World}{A:Around}{E:Value->Shared->Prop}{s:Shared}{κ:KeyKind}{k:SortKind}
theorem LD(h:i<arr.size):arr[i]?=some arr[i]!:=by
 rw[getElem!_pos arr i h];exact getElem?_pos arr i h
theorem Dv(hA:lp prog w A s κ k){left:Bool}{base n hint:Nat}{st:SortSt}(hk:kindOf st=k)
  (P4:kI κ key) (hb:base+n<=arr.size) (Qa:∀ p∈arr.toList,kI κ p) (hh:hint<n) (f:Keyed->Bool) (hf:∀ p,f p=if left then κ.blt (ky κ p) (ky κ key) else !κ.blt (ky κ key) (ky κ p))
  (mono:∀ x y,le κ x y->f y=true->f x=true) (hs:SI κ arr base (base+n))
  (h:∀ m,m<=n->(∀ i y,base<=i->i<base+m->arr[i]?=some y->f y=true)->(∀ i y,base+m<=i->i<base+n->arr[i]?=some y->f y=false)->Q (some m) st) :
  wpS (model prog w) A E s (Ky left key arr base n hint) Q st:=by
 have g:∀ i y,base<=i->i<base+n->arr[i]?=some y->f (arr[base+(i-base)]!)=f y:=λi y h1 h2 e=>by
  rw[show base+(i-base)=i by lia,LD (by lia)] at *;cases e;rfl
 refine Jf hA hk P4 hb Qa hh (λi=>f arr[base+i]!) (λi p hi hp=>?_) (λi j RB hj=>mono _ _ (hs (base+i) (base+j) _ _ (by lia) (by lia) (by lia) (LD (by lia)) (LD (by lia)))) λm hm h1 h2=>h m hm (λi y i1 i2 e=>?_) λi y i1 i2 e=>?_
 .rw[LD (by lia)] at hp;cases hp;exact hf _
 .rw[<- g i y i1 (by lia) e];exact h1 _ (by lia)
 .rw[<- g i y (by lia) i2 e];exact h2 _ (by lia) (by lia)
theorem tD(hA:lp prog w A s κ k){base n hint:Nat}{st:SortSt}(hk:kindOf st=k)
  (P4:kI κ key) (hb:base+n<=arr.size) (Qa:∀ p∈arr.toList,kI κ p) (hh:hint<n) (hs:SI κ arr base (base+n))
  (h:∀ m,m<=n->(∀ i y,base<=i->i<base+m->arr[i]?=some y->le κ y key)->(∀ i y,base+m<=i->i<base+n->arr[i]?=some y->lt κ key y)->Q (some m) st) :
  wpS (model prog w) A E s (Ky false key arr base n hint) Q st :=
 Dv hA hk P4 hb Qa hh (λp=>!κ.blt (ky κ key) (ky κ p)) (λ_=>rfl) (λ_ _ h1 h2=>tn (le_trans h1 (nt h2))) hs λm hm h1 h2=>h m hm (λi y a b c=>nt (h1 i y a b c)) λi y a b c=>nf (h2 i y a b c)
theorem sP(hA:lp prog w A s κ k){base n hint:Nat}{st:SortSt}(hk:kindOf st=k)
  (P4:kI κ key) (hb:base+n<=arr.size) (Qa:∀ p∈arr.toList,kI κ p) (hh:hint<n) (hs:SI κ arr base (base+n))
  (h:∀ m,m<=n->(∀ i y,base<=i->i<base+m->arr[i]?=some y->lt κ y key)->(∀ i y,base+m<=i->i<base+n->arr[i]?=some y->le κ key y)->Q (some m) st) :
  wpS (model prog w) A E s (Ky true key arr base n hint) Q st :=
 Dv hA hk P4 hb Qa hh (λp=>κ.blt (ky κ p) (ky κ key)) (λ_=>rfl) (λ_ _ h1 h2=>KeyOrd.klt_of_kle_of_klt h1 h2) hs h
end
end Srt
local macro_rules | `(tactic| walk_at "u2")=>`(tactic| unfold $(Lean.mkIdent (Lean.mkPrivateNameCore `PySem.Builtin.List.W1All `PySem.Builtin.mergeLo)):ident)
namespace Srt
open PySem PyProof.Rows
def Nx:Array Keyed->Array Keyed->StateT SortSt Sem (Array Keyed):=sortPriv% PySem.Builtin.mergeLo
def KY:Nat->StateT SortSt Sem Unit:=sortPriv% PySem.Builtin.setMinGallop
structure lD (st N8:SortSt):Prop where
 kind:kindOf N8=kindOf st
 arr:arrOf N8=arrOf st
 pend:pendingOf N8=pendingOf st
 fail:failedOf N8=failedOf st
theorem lD.rfl{st:SortSt}:lD st st:=⟨.refl _,.refl _,.refl _,.refl _⟩
def Good(κ:KeyKind)(a b r:Array Keyed):Prop:=r.toList.Pairwise (le κ)/\r.toList.Perm (a.toList++b.toList)
def LI(κ:KeyKind)(a b out:Array Keyed)(ia ib:Nat):Prop:=MI (le κ) (a.toList++b.toList) (a.extract ia a.size).toList (b.extract ib b.size).toList out.toList
variable{x:Keyed}{i:Nat}
section
variable{κ:KeyKind}{a b out:Array Keyed}{ia ib m:Nat}
theorem SI.mono{lo hi lo' Rj:Nat}(h:SI κ a lo hi)(h1:lo<=lo')(h2:Rj<=hi):SI κ a lo' Rj:=λi j x y a1 a2 a3=>h i j x y (by lia) a2 (by lia)
theorem fX(h:a[i]?=some x):i<a.size:=by
 rcases TV i a.size with h' | h'
 .exact h'
 .rw[WQ h'] at h;exact absurd h (by simp)
theorem AE(o:Array Keyed)(i:Nat):o++a.extract i i=o:=by
 have:a.extract i i=#[]:=W7 (by rw[UN];lia);rw[this,Zq]
theorem LI.nil:LI κ a b #[] 0 0:=⟨by simp,by simp,by simp⟩
theorem LI.ga(sa:SI κ a 0 a.size)(h:LI κ a b out ia ib)(hk:ia+m<=a.size)
  (h3:∀ i x,ia<=i->i<ia+m->a[i]?=some x->∀ j y,ib<=j->b[j]?=some y->le κ x y):LI κ a b (out++a.extract ia (ia+m)) (ia+m) ib:=by
 have:=MI.a h (A1:=(a.extract ia (ia+m)).toList) (A2:=(a.extract (ia+m) a.size).toList) (by rw[kT a (US ia m) hk]) (sa.pw (by lia) hk)
  (λx hx y hy=>by
   obtain⟨i,i1,i2,i3⟩:=cN.mp hx;obtain⟨j,j1,j2,j3⟩:=cN.mp hy;exact sa i j x y (by lia) (by lia) j2 i3 j3)
  (λx hx y hy=>by
   obtain⟨i,i1,i2,i3⟩:=cN.mp hx;obtain⟨j,j1,j2,j3⟩:=cN.mp hy;exact h3 i x i1 i2 i3 j y j1 j3)
 unfold LI;rw[Ub];exact this
theorem LI.sw(h:LI κ a b out ia ib):LI κ b a out ib ia:=(MI.sw h).tp VM
theorem LI.gb(sb:SI κ b 0 b.size)(h:LI κ a b out ia ib)(hk:ib+m<=b.size)
  (h3:∀ i x,ib<=i->i<ib+m->b[i]?=some x->∀ j y,ia<=j->a[j]?=some y->le κ x y):LI κ a b (out++b.extract ib (ib+m)) ia (ib+m):=(h.sw.ga sb hk h3).sw
theorem EH(e:a[i]?=some x):out.push x=out++a.extract i (i+1):=by
 apply ZX.mp;rw[X6,Ub,A6 e]
theorem LI.pa(sa:SI κ a 0 a.size)(h:LI κ a b out ia ib)(e:a[ia]?=some x)(h3:∀ j y,ib<=j->b[j]?=some y->le κ x y):LI κ a b (out.push x) (ia+1) ib:=by
 rw[EH e];exact h.ga sa (fX e) λi z h1 h2 h4=>by have:i=ia:=(by lia);subst this;rw[e] at h4;cases h4;exact h3
theorem LI.pb(sb:SI κ b 0 b.size)(h:LI κ a b out ia ib)(e:b[ib]?=some x)(h3:∀ j y,ia<=j->a[j]?=some y->le κ x y):LI κ a b (out.push x) ia (ib+1):=(h.sw.pa sb e h3).sw
theorem LI.dn(sa:SI κ a 0 a.size)(h:LI κ a b out ia ib)(e:ib=b.size):Good κ a b (out++a.extract ia a.size++b.extract ib b.size):=by
 have z:(b.extract ib b.size).toList=[]:=by
  rw[W8];intro y hy;obtain⟨j,j1,j2,j3⟩:=cN.mp hy;lia
 have:=MI.fin h (by rw[z,Ul];exact sa.pw (S9 _) (by lia));unfold Good;rw[Ub,Ub,UJ];exact this
theorem LI.la(sa:SI κ a 0 a.size)(sb:SI κ b 0 b.size)(top:∀ (i j:Nat) (x y:Keyed),i+1=a.size->a[i]?=some x->b[j]?=some y->lt κ y x)
  (h:LI κ a b out ia ib) (e:ia+1=a.size):Good κ a b (out++b.extract ib b.size++a.extract ia a.size):=by
 have:=MI.fin (MI.sw h) (U6.mpr ⟨sb.pw (S9 _) (by lia),sa.pw (S9 _) (by lia),λx hx y hy=>by
   obtain⟨i,i1,i2,i3⟩:=cN.mp hx;obtain⟨j,j1,j2,j3⟩:=cN.mp hy;have:j=ia:=by lia
   subst this;exact(top j i y x e j3 i3).le⟩)
 unfold Good;rw[Ub,Ub,UJ];exact this
end
variable{α:Type}{c:Prop}
variable{β:Type}
variable{γ:Type}
section
variable{prog:Program}{w:World}{A:Around}{E:Value->Shared->Prop}{s:Shared}{κ:KeyKind}{k:SortKind}
theorem uH{g:Nat}{st0 st:SortSt}{Q:Unit->SortSt->Prop}(hK:lD st0 st)(h:∀ N8,lD st0 N8->Q () N8):wpS (model prog w) A E s (KY g) Q st:=by
 unfold KY;exact W9 (h _ ⟨hK.kind,hK.arr,hK.pend,hK.fail⟩)
theorem dS[Decidable c]{t e:StateT SortSt Sem α}{Q:α->SortSt->Prop}{st:SortSt}(h1:c->wpS (model prog w) A E s t Q st)(h2:¬ c->wpS (model prog w) A E s e Q st):wpS (model prog w) A E s (if c then t else e) Q st:=by
 split
 .exact h1 ‹_›
 .exact h2 ‹_›
theorem e7{x y:Nat}{t e:StateT SortSt Sem α}{Q:α->SortSt->Prop}{st:SortSt}(h1:x=y->wpS (model prog w) A E s t Q st)(h2:x≠y->wpS (model prog w) A E s e Q st):wpS (model prog w) A E s (if (x==y)=true then t else e) Q st :=
 dS (λh=>h1 (eq_of_beq h)) λh=>h2 λe=>h (beq_iff_eq.mpr e)
theorem FR[Decidable c]{x y:Nat}{jp:Unit->Nat->StateT SortSt Sem α}{Q:α->SortSt->Prop}{st:SortSt}(h:∀ g,wpS (model prog w) A E s (jp () g) Q st):wpS (model prog w) A E s (if c then jp () x else jp () y) Q st :=
 dS (λ_=>h _) λ_=>h _
theorem el{a:Array Keyed}(ha:∀ p∈a.toList,kI κ p)(hi:i<a.size):∃ x,a[i]?=some x/\kI κ x :=
 ⟨a[i],getElem?_pos a i hi,ha _ (by simp)⟩
def Ke(I Q:β->SortSt->Prop):ForInStep β->SortSt->Prop
 | .done b,st=>Q b st
 | .yield b,st=>I b st
theorem mh{n:Nat}{f:Nat->β->StateT SortSt Sem (ForInStep β)}(I:Nat->β->SortSt->Prop){Q:β->SortSt->Prop}{c:β}{st:SortSt}(h:I 0 c st)
  (Sw:∀ i c st,i<n->I i c st->wpS (model prog w) A E s (f i c) (Ke (I (i+1)) Q) st) (Pw:∀ c st,I n c st->Q c st):wpS (model prog w) A E s (forIn [:n] c f) Q st :=
 Vm I (λi c st _ h1 h2=>VH (Sw i c st h1 h2) λr _ h=>by cases r <;> exact h) (λc st h=>Pw c st (by rwa [ZW (S9 _)] at h)) h
def Im(st:SortSt)(J:γ->Prop):Option (Array Keyed)×γ->SortSt->Prop:=λc N8=>lD st N8/\c.1=none/\J c.2
def Qm(st:SortSt)(G:Array Keyed->Prop)(J:γ->Prop):Option (Array Keyed)×γ->SortSt->Prop:=λc N8=>lD st N8/\((∃ r,c.1=some r/\G r)\/c.1=none/\J c.2)
def LJ(κ:KeyKind)(a b:Array Keyed)(x:Nat)(out:Array Keyed)(ia ib:Nat):Prop:=LI κ a b out ia ib/\ib<b.size/\ia+1<a.size/\x<=ia+ib
theorem LJ.mono{κ:KeyKind}{a b out:Array Keyed}{x x' ia ib:Nat}(h:LJ κ a b x out ia ib)(hx:x'<=x):LJ κ a b x' out ia ib:=⟨h.1,h.2.1,h.2.2.1,TJ hx h.2.2.2⟩
set_option maxHeartbeats 2000000 in
theorem Jl(hA:lp prog w A s κ k){a b:Array Keyed}{st:SortSt}{Q:Array Keyed->SortSt->Prop}(hk:kindOf st=k)
  (ha:∀ p∈a.toList,kI κ p) (hb:∀ p∈b.toList,kI κ p) (sa:SI κ a 0 a.size) (sb:SI κ b 0 b.size) (n1:1<=a.size) (n2:1<=b.size)
  (hd:∀ x y,a[0]?=some x->b[0]?=some y->lt κ y x) (top:∀ (i j:Nat) (x y:Keyed),i+1=a.size->a[i]?=some x->b[j]?=some y->lt κ y x)
  (h:∀ r N8,lD st N8->Good κ a b r->Q r N8):wpS (model prog w) A E s (Nx a b) Q st:=by
 unfold Nx;walk_at "u2";refine S1 (Yh (Vd ⟨rfl,?_⟩));obtain⟨y0,ey,hy0⟩:=el hb n2;obtain⟨x0,ex,hx0⟩:=el ha n1;refine S1 (bC ey ?_);have L0:LI κ a b #[y0] 0 1:=LI.pb (out:=#[]) sb LI.nil ey λj y hj e=>le_trans (hd x0 y0 ex ey).le (sa 0 j _ _ (by lia) (by lia) (fX e) ex e);refine e7 (λe=>Te (h _ _ lD.rfl (L0.dn sa e))) λe1=>e7 (λe=>Te (h _ _ lD.rfl (L0.la sa sb top e))) λe2=>S1 (Xy ?_);refine S1 (VH (mh (λx=>Im st λc=>LJ κ a b x c.1 c.2.1 c.2.2.1) (Q:=Qm st (Good κ a b) λ_=>False) ⟨lD.rfl,rfl,(show LJ κ a b 0 #[y0] 0 1 from ⟨L0,by lia,by lia,by lia⟩)⟩ ?_ ?_) ?_)
 .rintro x ⟨c,out,ia,ib,g⟩ N8 hx ⟨hK,rfl,hL⟩;have hL:LJ κ a b x out ia ib:=hL;refine S1 (VH (mh (λy=>Im st λc=>LJ κ a b (x+y) c.1 c.2.1 c.2.2.1) (Q:=Qm st (Good κ a b) λc=>LJ κ a b (x+1) c.1 c.2.1 c.2.2.1) ⟨hK,rfl,hL⟩ ?_ ?_) ?_)
  .rintro y ⟨c,out,ia,ib,ac,bc⟩ N8 hy ⟨hK,rfl,hL⟩;obtain⟨hL,h1,h2,h3⟩:=(show LJ κ a b (x+y) out ia ib from hL)
   obtain⟨xb,eb,RR⟩:=el hb h1;obtain⟨xa,ea,RQ⟩:=el ha (show ia<a.size by lia);refine S1 (bC eb (S1 (bC ea (S1 (vi hA (hK.kind.trans hk) RR RQ ?_)))));refine dS (λhw=>S1 (bC eb ?_)) (λhw=>S1 (bC ea ?_))
   .have L:=hL.pb sb eb λj y hj e=>le_trans (show lt κ xb xa from hw).le (sa ia j _ _ (by lia) hj (fX e) ea e);have hJ:ib+1≠b.size->LJ κ a b (x+y+1) (out.push xb) ia (ib+1):=λe=>⟨L,by lia,h2,by lia⟩
    exact e7 (λe=>Te ⟨hK,.inl ⟨_,rfl,L.dn sa e⟩⟩) λe=>dS (λ_=>Te ⟨hK,.inr ⟨rfl,(hJ e).mono (by lia)⟩⟩) λ_=>Te ⟨hK,rfl,hJ e⟩
   .have L:=hL.pa sa ea λj y hj e=>le_trans (VN hw) (sb ib j _ _ (by lia) hj (fX e) eb e);have hJ:ia+1+1≠a.size->LJ κ a b (x+y+1) (out.push xa) (ia+1) ib:=λe=>⟨L,h1,by lia,by lia⟩
    exact e7 (λe=>Te ⟨hK,.inl ⟨_,rfl,L.la sa sb top e⟩⟩) λe=>dS (λ_=>Te ⟨hK,.inr ⟨rfl,(hJ e).mono (by lia)⟩⟩) λ_=>Te ⟨hK,rfl,hJ e⟩
  .rintro c N8 ⟨hK,hc,hL⟩;exact⟨hK,.inr ⟨hc,hL.mono (by lia)⟩⟩
  .rintro⟨c,out,ia,ib,ac,bc⟩ N8 ⟨hK,⟨r,rfl,hr⟩ | ⟨rfl,hL⟩⟩
   .exact Te ⟨hK,.inl ⟨r,rfl,hr⟩⟩
   refine S1 (Yh (Vd ⟨rfl,?_⟩));refine S1 (VH (mh (λ_=>Im st λc=>LJ κ a b (x+1) c.1 c.2.1 c.2.2.1) (Q:=Qm st (Good κ a b) λc=>LJ κ a b (x+1) c.1 c.2.1 c.2.2.1) ⟨hK,rfl,hL⟩ ?_ λc N8 h=>⟨h.1,.inr h.2⟩) ?_)
   .rintro y ⟨c,out,ia,ib,g,ac,bc⟩ N8 hy ⟨hK,rfl,hL⟩;obtain⟨hL,h1,h2,h3⟩:=(show LJ κ a b (x+1) out ia ib from hL)
    obtain⟨xb,eb,RR⟩:=el hb h1
    extract_lets -underBinder s1 o1 s2 i1 s3 j1 s4 g1 s5 a1 b1 jp
    subst s1 o1 s2 i1 s3 j1 s4 g1 s5 a1 b1;refine FR (jp:=jp) λg'=>S1 (uH hK λN8 hK=>?_);clear jp;refine S1 (bC eb (S1 (tD hA (hK.kind.trans hk) RR (by show ia+(a.size-ia)<=_;lia) ha (by show 0<a.size-ia;lia) (sa.mono (S9 _) (by show ia+(a.size-ia)<=_;lia)) λm hm Qk QB=>?_)));have hm:m<=a.size-ia:=hm;have Qk:∀ i y,ia<=i->i<ia+m->a[i]?=some y->le κ y xb:=Qk;have QB:∀ i y,ia+m<=i->i<ia+(a.size-ia)->a[i]?=some y->lt κ xb y:=QB;have hm':ia+m<a.size:=by
     rcases TV (ia+m) a.size with h' | h'
     .exact h'
     .obtain⟨z,ez,_⟩:=el ha (show a.size-1<a.size by lia);exact absurd (top _ ib z xb (by lia) ez eb) (YO (Qk _ z (by lia) (by lia) ez))
    have L1:=hL.ga sa (VS hm') λi x i1 i2 i3 j y j1 j2=>le_trans (Qk i x i1 i2 i3) (sb ib j _ _ (S9 _) j1 (fX j2) eb j2);have Qb:∀ i y,ia+m<=i->a[i]?=some y->le κ xb y:=λi y i1 i2=>(QB i y i1 (by have:=fX i2;lia) i2).le;dsimp -zeta only
    extract_lets -underBinder c1 jp
    subst c1;have J:∀ o i,LI κ a b o i ib->i+1<a.size->x+1<=i+ib->(∀ j y,i<=j->a[j]?=some y->le κ xb y)->wpS (model prog w) A E s (jp () o i) (Ke (Im st λc=>LJ κ a b (x+1) c.1 c.2.1 c.2.2.1) (Qm st (Good κ a b) λc=>LJ κ a b (x+1) c.1 c.2.1 c.2.2.1)) N8:=by
     intro o i L1 h2 h3 Qb;refine S1 (bC eb ?_);clear jp;have L2:=L1.pb sb eb Qb;refine e7 (λe=>Te ⟨hK,.inl ⟨_,rfl,L2.dn sa e⟩⟩) λe=>?_;have e:ib+1≠b.size:=e;obtain⟨xa,ea,RQ⟩:=el ha (Nat.lt_of_succ_lt h2);refine S1 (bC ea (S1 (sP hA (hK.kind.trans hk) RQ (by show ib+1+(b.size-(ib+1))<=_;lia) hb (by show 0<b.size-(ib+1);lia) (sb.mono (S9 _) (by show ib+1+(b.size-(ib+1))<=_;lia)) λm hm Qk QB=>?_)));have hm:m<=b.size-(ib+1):=hm;have Qk:∀ i y,ib+1<=i->i<ib+1+m->b[i]?=some y->lt κ y xa:=Qk;have QB:∀ i y,ib+1+m<=i->i<ib+1+(b.size-(ib+1))->b[i]?=some y->le κ xa y:=QB;have L3:=L2.gb sb (m:=m) (by lia) λi x i1 i2 i3 j y j1 j2=>le_trans (Qk i x i1 i2 i3).le (sa _ j _ _ (S9 _) j1 (fX j2) ea j2);dsimp -zeta only
     extract_lets -underBinder c1 jp
     subst c1;have J:∀ o j,LI κ a b o i j->j<b.size->x+1<=i+1+j->(∀ l y,j<=l->b[l]?=some y->le κ xa y)->wpS (model prog w) A E s (jp () o j) (Ke (Im st λc=>LJ κ a b (x+1) c.1 c.2.1 c.2.2.1) (Qm st (Good κ a b) λc=>LJ κ a b (x+1) c.1 c.2.1 c.2.2.1)) N8:=by
      intro o j L3 h1 h3 Qb;refine S1 (bC ea ?_);have L4:=L3.pa sa ea Qb;have hJ:i+1+1≠a.size->LJ κ a b (x+1) (o.push xa) (i+1) j:=λe=>⟨L4,h1,by lia,h3⟩
      exact e7 (λe=>Te ⟨hK,.inl ⟨_,rfl,L4.la sa sb top e⟩⟩) λe=>dS (λ_=>Te ⟨hK,.inr ⟨rfl,hJ e⟩⟩) λ_=>Te ⟨hK,rfl,hJ e⟩
     have Qb:∀ l y,ib+1+m<=l->b[l]?=some y->le κ xa y:=λi y i1 i2=>QB i y i1 (by have:=fX i2;lia) i2;refine dS (λQh=>e7 (λe=>Te ⟨hK,.inl ⟨_,rfl,L3.dn sa e⟩⟩) λe=>J _ _ L3 (by have e:ib+1+m≠b.size:=e;show ib+1+m<_;lia) (by show _<=_+(ib+1+m);lia) Qb) λQh=>?_;have Qh:m=0:=Yx Qh;subst Qh;rw[Xz,AE] at L3;exact J _ _ L3 (by show ib+1<_;lia) (by show _<=_+(ib+1);lia) Qb
    clear_value jp
    refine dS (λQh=>e7 (λe=>Te ⟨hK,.inl ⟨_,rfl,L1.la sa sb top e⟩⟩) λe=>e7 (λe=>absurd e (Tu hm')) λ_=>J _ _ L1 (by have e:ia+m+1≠a.size:=e;show ia+m+1<_;lia) (by show _<=ia+m+ib;lia) Qb) λQh=>?_;have Qh:m=0:=Yx Qh;subst Qh;rw[Xz,AE] at L1;exact J _ _ L1 h2 h3 Qb
   .rintro⟨c,out,ia,ib,g,ac,bc⟩ N8 ⟨hK,⟨r,rfl,hr⟩ | ⟨rfl,hL⟩⟩
    .exact Te ⟨hK,.inl ⟨r,rfl,hr⟩⟩
    .exact S1 (uH hK λPb hK=>Te ⟨hK,rfl,hL⟩)
 .rintro c N8 ⟨hK,_,hL,h1,h2,h3⟩;lia
 .rintro⟨c,t⟩ N8 ⟨hK,⟨r,rfl,hr⟩ | ⟨_,h⟩⟩
  .exact Te (h r N8 hK hr)
  .exact h.elim
end
end Srt
local macro_rules | `(tactic| walk_at "u3")=>`(tactic| unfold $(Lean.mkIdent (Lean.mkPrivateNameCore `PySem.Builtin.List.W1All `PySem.Builtin.mergeHi)):ident)
namespace Srt
open PySem PyProof.Rows
def Nv:Array Keyed->Array Keyed->StateT SortSt Sem (Array Keyed):=sortPriv% PySem.Builtin.mergeHi
def HI(κ:KeyKind)(a b out:Array Keyed)(na nb:Nat):Prop:=MI (λx y=>le κ y x) (a.toList++b.toList) (a.extract 0 na).toList (b.extract 0 nb).toList out.toList
variable{x:Keyed}
section
variable{κ:KeyKind}{a b out:Array Keyed}{na nb m:Nat}
theorem HI.nil:HI κ a b #[] a.size b.size:=⟨by simp,by simp,by simp⟩
theorem HI.ga(sa:SI κ a 0 a.size)(h:HI κ a b out na nb)(hm:m<=na)(hn:na<=a.size)
  (h3:∀ i x,m<=i->i<na->a[i]?=some x->∀ j y,j<nb->b[j]?=some y->le κ y x):HI κ a b (out++(a.extract m na).reverse) m nb:=by
 have:=MI.a h (A1:=(a.extract m na).toList.reverse) (A2:=(a.extract 0 m).toList)
  (by rw[kT a (S9 m) hm];exact VM.trans (WR _ (ZJ _).symm))
  (YQ.mpr (sa.pw (S9 _) hn))
  (λx hx y hy=>by
   obtain⟨i,i1,i2,i3⟩:=cN.mp (Yi.mp hx);obtain⟨j,j1,j2,j3⟩:=cN.mp hy;exact sa j i y x (by lia) (by lia) (by lia) j3 i3)
  (λx hx y hy=>by
   obtain⟨i,i1,i2,i3⟩:=cN.mp (Yi.mp hx);obtain⟨j,j1,j2,j3⟩:=cN.mp hy;exact h3 i x i1 i2 i3 j y j2 j3)
 unfold HI;rw[Ub,Wj];exact this
theorem HI.sw(h:HI κ a b out na nb):HI κ b a out nb na:=(MI.sw h).tp VM
theorem HI.gb(sb:SI κ b 0 b.size)(h:HI κ a b out na nb)(hm:m<=nb)(hn:nb<=b.size)
  (h3:∀ i x,m<=i->i<nb->b[i]?=some x->∀ j y,j<na->a[j]?=some y->le κ y x):HI κ a b (out++(b.extract m nb).reverse) na m:=(h.sw.ga sb hm hn h3).sw
theorem Em{i:Nat}(e:a[i]?=some x):out.push x=out++(a.extract i (i+1)).reverse:=by
 apply ZX.mp;rw[X6,Ub,Wj,A6 e];rfl
theorem HI.pa(sa:SI κ a 0 a.size)(h:HI κ a b out na nb)(hn:0<na)(e:a[na-1]?=some x)(h3:∀ j y,j<nb->b[j]?=some y->le κ y x):HI κ a b (out.push x) (na-1) nb:=by
 rw[Em e,show na-1+1=na by lia];have:=fX e;exact h.ga sa (by lia) (by lia) λi z h1 h2 h4=>by have:i=na-1:=(by lia);subst this;rw[e] at h4;cases h4;exact h3
theorem HI.pb(sb:SI κ b 0 b.size)(h:HI κ a b out na nb)(hn:0<nb)(e:b[nb-1]?=some x)(h3:∀ j y,j<na->a[j]?=some y->le κ y x):HI κ a b (out.push x) na (nb-1):=(h.sw.pa sb hn e h3).sw
theorem MI.Lx{R:Keyed->Keyed->Prop}{QM A B out:List Keyed}(h:MI (λx y=>R y x) QM A B out)(hs:(A++B).Pairwise R):(A++B++out.reverse).Pairwise R/\(A++B++out.reverse).Perm QM :=
 ⟨U6.mpr ⟨hs,YQ.mpr h.JV,λx hx y hy=>h.low y (Yi.mp hy) x hx⟩,
  (Wd _ (ZJ _)).trans (VM.trans h.perm)⟩
theorem HI.dn(sb:SI κ b 0 b.size)(h:HI κ a b out na nb)(e:na=0)(hb:nb<=b.size):Good κ a b (a.extract 0 na++b.extract 0 nb++out.reverse):=by
 have z:(a.extract 0 na).toList=[]:=by
  rw[W8];intro y hy;obtain⟨j,j1,j2,j3⟩:=cN.mp hy;lia
 have:=MI.Lx h (by rw[z,YH];exact sb.pw (S9 _) hb);unfold Good;rw[Ub,Ub,Wj];exact this
theorem HI.fb(sa:SI κ a 0 a.size)(bot:∀ (i:Nat) (x y:Keyed),a[i]?=some x->b[0]?=some y->lt κ y x)
  (h:HI κ a b out na nb) (e:nb=1) (hn:na<=a.size):Good κ a b (b.extract 0 nb++a.extract 0 na++out.reverse):=by
 have:=MI.Lx (MI.sw h) (U6.mpr ⟨by
   rw[List.pairwise_iff_forall_sublist];intro x y hxy;have:=hxy.length_le;rw[show (b.extract 0 nb).toList.length=(b.extract 0 nb).size from Us,UN] at this;have:2<=min nb b.size-0:=this;lia,sa.pw (S9 _) hn,λx hx y hy=>by
   obtain⟨i,i1,i2,i3⟩:=cN.mp hx;obtain⟨j,j1,j2,j3⟩:=cN.mp hy;have:i=0:=by lia
   subst this;exact(bot j y x j3 i3).le⟩)
 unfold Good;rw[Ub,Ub,Wj];exact this
theorem Dh(o:Array Keyed)(i:Nat):o++(a.extract i i).reverse=o:=by
 have:a.extract i i=#[]:=W7 (by rw[UN];lia);rw[this,Array.reverse_empty,Zq]
end
def HJ(κ:KeyKind)(a b:Array Keyed)(x na nb:Nat)(out:Array Keyed):Prop:=HI κ a b out na nb/\0<na/\na<=a.size/\1<nb/\nb<=b.size/\x+na+nb<=a.size+b.size
theorem HJ.mono{κ:KeyKind}{a b out:Array Keyed}{x x' na nb:Nat}(h:HJ κ a b x na nb out)(hx:x'<=x):HJ κ a b x' na nb out:=⟨h.1,h.2.1,h.2.2.1,h.2.2.2.1,h.2.2.2.2.1,by have:=h.2.2.2.2.2;lia⟩
section
variable{prog:Program}{w:World}{A:Around}{E:Value->Shared->Prop}{s:Shared}{κ:KeyKind}{k:SortKind}
set_option maxHeartbeats 2000000 in
theorem GR(hA:lp prog w A s κ k){a b:Array Keyed}{st:SortSt}{Q:Array Keyed->SortSt->Prop}(hk:kindOf st=k)
  (ha:∀ p∈a.toList,kI κ p) (hb:∀ p∈b.toList,kI κ p) (sa:SI κ a 0 a.size) (sb:SI κ b 0 b.size) (n1:1<=a.size) (n2:1<=b.size)
  (hd:∀ x y,a[0]?=some x->b[0]?=some y->lt κ y x) (top:∀ (i j:Nat) (x y:Keyed),i+1=a.size->a[i]?=some x->b[j]?=some y->lt κ y x)
  (h:∀ r N8,lD st N8->Good κ a b r->Q r N8):wpS (model prog w) A E s (Nv a b) Q st:=by
 unfold Nv;walk_at "u3";refine S1 (Yh (Vd ⟨rfl,?_⟩));obtain⟨y0,ey,hy0⟩:=el hb n2;obtain⟨x0,ex,hx0⟩:=el ha n1;obtain⟨xl,exl,hxl⟩:=el ha (show a.size-1<a.size by lia);have bot:∀ (i:Nat) (x y:Keyed),a[i]?=some x->b[0]?=some y->lt κ y x:=λi x y e1 e2=>by
  rw[ey] at e2;cases e2;exact X8 (hd x0 y0 ex ey) (sa 0 i _ _ (by lia) (by lia) (fX e1) ex e1)
 refine S1 (bC exl ?_);have L0:HI κ a b #[xl] (a.size-1) b.size:=HI.pa (out:=#[]) sa HI.nil (by lia) exl λj y hj e=>(top _ j _ _ (by lia) exl e).le;refine e7 (λe=>Te (h _ _ lD.rfl (L0.dn sb e (SX _)))) λe1=>e7 (λe=>Te (h _ _ lD.rfl (L0.fb sa bot e (Nat.sub_le _ _)))) λe2=>S1 (Xy ?_);have e1:a.size-1≠0:=e1;refine S1 (VH (mh (λx=>Im st λc=>HJ κ a b x c.1 c.2.1 c.2.2.1) (Q:=Qm st (Good κ a b) λ_=>False) ⟨lD.rfl,rfl,(show HJ κ a b 0 (a.size-1) b.size #[xl] from ⟨L0,by lia,by lia,by lia,by lia,by lia⟩)⟩ ?_ ?_) ?_)
 .rintro x ⟨c,na,nb,out,g⟩ N8 hx ⟨hK,rfl,hL⟩;refine S1 (VH (mh (λy=>Im st λc=>HJ κ a b (x+y) c.1 c.2.1 c.2.2.1) (Q:=Qm st (Good κ a b) λc=>HJ κ a b (x+1) c.1 c.2.1 c.2.2.1) ⟨hK,rfl,hL⟩ ?_ ?_) ?_)
  .rintro y ⟨c,na,nb,out,ac,bc⟩ N8 hy ⟨hK,rfl,hL⟩;obtain⟨hL,h1,R7,h2,R8,h3⟩:=(show HJ κ a b (x+y) na nb out from hL)
   obtain⟨xb,eb,RR⟩:=el hb (show nb-1<b.size by lia);obtain⟨xa,ea,RQ⟩:=el ha (show na-1<a.size by lia);refine S1 (bC eb (S1 (bC ea (S1 (vi hA (hK.kind.trans hk) RR RQ ?_)))));refine dS (λhw=>S1 (bC ea ?_)) (λhw=>S1 (bC eb ?_))
   .have L:=hL.pa sa h1 ea λj y hj e=>le_trans (sb j (nb-1) _ _ (by lia) (by lia) (fX eb) e eb) (show lt κ xb xa from hw).le;have hJ:na-1≠0->HJ κ a b (x+y+1) (na-1) nb (out.push xa):=λe=>⟨L,by lia,by lia,h2,R8,by lia⟩
    exact e7 (λe=>Te ⟨hK,.inl ⟨_,rfl,L.dn sb e R8⟩⟩) λe=>dS (λ_=>Te ⟨hK,.inr ⟨rfl,(hJ e).mono (by lia)⟩⟩) λ_=>Te ⟨hK,rfl,hJ e⟩
   .have L:=hL.pb sb (by lia) eb λj y hj e=>le_trans (sa j (na-1) _ _ (by lia) (by lia) (fX ea) e ea) (VN hw);have hJ:nb-1≠1->HJ κ a b (x+y+1) na (nb-1) (out.push xb):=λe=>⟨L,h1,R7,by lia,by lia,by lia⟩
    exact e7 (λe=>Te ⟨hK,.inl ⟨_,rfl,L.fb sa bot e R7⟩⟩) λe=>dS (λ_=>Te ⟨hK,.inr ⟨rfl,(hJ e).mono (by lia)⟩⟩) λ_=>Te ⟨hK,rfl,hJ e⟩
  .rintro c N8 ⟨hK,hc,hL⟩;exact⟨hK,.inr ⟨hc,hL.mono (by lia)⟩⟩
  .rintro⟨c,na,nb,out,ac,bc⟩ N8 ⟨hK,⟨r,rfl,hr⟩ | ⟨rfl,hL⟩⟩
   .exact Te ⟨hK,.inl ⟨r,rfl,hr⟩⟩
   refine S1 (Yh (Vd ⟨rfl,?_⟩));refine S1 (VH (mh (λ_=>Im st λc=>HJ κ a b (x+1) c.1 c.2.1 c.2.2.1) (Q:=Qm st (Good κ a b) λc=>HJ κ a b (x+1) c.1 c.2.1 c.2.2.1) ⟨hK,rfl,hL⟩ ?_ λc N8 h=>⟨h.1,.inr h.2⟩) ?_)
   .rintro y ⟨c,na,nb,out,g,ac,bc⟩ N8 hy ⟨hK,rfl,hL⟩;obtain⟨hL,h1,R7,h2,R8,h3⟩:=(show HJ κ a b (x+1) na nb out from hL)
    obtain⟨xb,eb,RR⟩:=el hb (show nb-1<b.size by lia)
    extract_lets -underBinder s1 o1 s2 i1 s3 j1 s4 g1 s5 a1 b1 jp
    subst s1 o1 s2 i1 s3 j1 s4 g1 s5 a1 b1;refine FR (jp:=jp) λg'=>S1 (uH hK λN8 hK=>?_);clear jp;refine S1 (bC eb (S1 (tD hA (hK.kind.trans hk) RR (by show 0+na<=_;lia) ha (by show na-1<na;lia) (sa.mono (SX _) (by show 0+na<=_;lia)) λm hm Qk QB=>?_)));have hm:m<=na:=hm;have L1:=hL.ga sa hm R7 λi x i1 i2 i3 j y j1 j2=>le_trans (sb j (nb-1) _ _ (by lia) (by lia) (fX eb) j2 eb) (QB i x (by lia) (by show i<0+na;lia) i3).le;have Qb:∀ i y,i<m->a[i]?=some y->le κ y xb:=λi y i1 i2=>Qk i y (by lia) (by lia) i2;dsimp -zeta only
    extract_lets -underBinder k1 c1 jp
    subst k1 c1;have J:∀ i o,HI κ a b o i nb->0<i->i<=na->(∀ j y,j<i->a[j]?=some y->le κ y xb)->wpS (model prog w) A E s (jp () i o) (Ke (Im st λc=>HJ κ a b (x+1) c.1 c.2.1 c.2.2.1) (Qm st (Good κ a b) λc=>HJ κ a b (x+1) c.1 c.2.1 c.2.2.1)) N8:=by
     intro i o L1 h1 Sj Qb;refine S1 (bC eb ?_);clear jp;have L2:=L1.pb sb (by lia) eb Qb;refine e7 (λe=>Te ⟨hK,.inl ⟨_,rfl,L2.fb sa bot e (by lia)⟩⟩) λe=>?_;have e:nb-1≠1:=e;obtain⟨xa,ea,RQ⟩:=el ha (show i-1<a.size by lia);refine S1 (bC ea (S1 (sP hA (hK.kind.trans hk) RQ (by show 0+(nb-1)<=_;lia) hb (by show nb-1-1<nb-1;lia) (sb.mono (SX _) (by show 0+(nb-1)<=_;lia)) λm hm Qk QB=>?_)));have hm:m<=nb-1:=hm;have L3:=L2.gb sb hm (by lia) λl x i1 i2 i3 j y j1 j2=>le_trans (sa j (i-1) _ _ (by lia) (by lia) (fX ea) j2 ea) (QB l x (by lia) (by show l<0+(nb-1);lia) i3);have hm2:m≠0:=λh0=>by
      subst h0;exact YO (QB 0 y0 (by lia) (by show 0<0+(nb-1);lia) ey) (bot _ _ _ ea ey)
     dsimp -zeta only
     extract_lets -underBinder k1 c1 jp
     subst k1 c1;have J:∀ j o,HI κ a b o i j->1<j->j<=nb-1->(∀ l y,l<j->b[l]?=some y->le κ y xa)->wpS (model prog w) A E s (jp () j o) (Ke (Im st λc=>HJ κ a b (x+1) c.1 c.2.1 c.2.2.1) (Qm st (Good κ a b) λc=>HJ κ a b (x+1) c.1 c.2.1 c.2.2.1)) N8:=by
      intro j o L3 h2 Sn Qb;refine S1 (bC ea ?_);have L4:=L3.pa sa h1 ea Qb;have hJ:i-1≠0->HJ κ a b (x+1) (i-1) j (o.push xa):=λe=>⟨L4,by lia,by lia,h2,by lia,by lia⟩
      exact e7 (λe=>Te ⟨hK,.inl ⟨_,rfl,L4.dn sb e (by lia)⟩⟩) λe=>dS (λ_=>Te ⟨hK,.inr ⟨rfl,hJ e⟩⟩) λ_=>Te ⟨hK,rfl,hJ e⟩
     have Qb:∀ l y,l<m->b[l]?=some y->le κ y xa:=λl y i1 i2=>(Qk l y (by lia) (by lia) i2).le;refine dS (λQh=>e7 (λe=>Te ⟨hK,.inl ⟨_,rfl,L3.fb sa bot e (by lia)⟩⟩) λe=>e7 (λe=>absurd e hm2) λ_=>J _ _ L3 (by lia) hm Qb) λQh=>?_;have Qh:m=nb-1:=by lia
     subst Qh;rw[Dh] at L3;exact J _ _ L3 (by lia) (SX _) Qb
    clear_value jp
    refine dS (λQh=>e7 (λe=>Te ⟨hK,.inl ⟨_,rfl,L1.dn sb e R8⟩⟩) λe=>J _ _ L1 (Nat.pos_of_ne_zero e) hm Qb) λQh=>?_;have Qh:m=na:=by lia
    subst Qh;rw[Dh] at L1;exact J _ _ L1 h1 (SX _) Qb
   .rintro⟨c,na,nb,out,g,ac,bc⟩ N8 ⟨hK,⟨r,rfl,hr⟩ | ⟨rfl,hL⟩⟩
    .exact Te ⟨hK,.inl ⟨r,rfl,hr⟩⟩
    .exact S1 (uH hK λPb hK=>Te ⟨hK,rfl,hL⟩)
 .rintro c N8 ⟨hK,_,hL,h1,R7,h2,R8,h3⟩;lia
 .rintro⟨c,t⟩ N8 ⟨hK,⟨r,rfl,hr⟩ | ⟨_,h⟩⟩
  .exact Te (h r N8 hK hr)
  .exact h.elim
end
end Srt
local macro_rules | `(tactic| walk_at "u4")=>`(tactic| unfold $(Lean.mkIdent (Lean.mkPrivateNameCore `PySem.Builtin.List.W1All `PySem.Builtin.countRun)):ident)
local macro_rules | `(tactic| walk_at "u5")=>`(tactic| unfold $(Lean.mkIdent (Lean.mkPrivateNameCore `PySem.Builtin.List.W1All `PySem.Builtin.binarySort)):ident)
namespace Srt
open PySem PyProof.Rows
def KS(κ:KeyKind)(a:Array Keyed)(lo hi:Nat):Prop:=∀ i j,lo<=i->i<=j->j<hi->κ.kle (KK κ a i) (KK κ a j)
def KD(κ:KeyKind)(a:Array Keyed)(lo hi:Nat):Prop:=∀ i j,lo<=i->i<=j->j<hi->κ.kle (KK κ a j) (KK κ a i)
structure Ch (st N8:SortSt) (lo hi:Nat):Prop where
 kind:kindOf N8=kindOf st
 pend:pendingOf N8=pendingOf st
 fail:failedOf N8=failedOf st
 perm:(arrOf N8).Perm (arrOf st)
 out:∀ i,(i<lo\/hi<=i)->(arrOf N8)[i]?=(arrOf st)[i]?
variable{lo:Nat}
variable{i j:Nat}
section
variable{κ:KeyKind}{st N8 Oq:SortSt}{hi:Nat}
theorem Ch.rfl:Ch st st lo hi:=⟨.refl _,.refl _,.refl _,.refl _,λ_ _=>.refl _⟩
theorem Ch.trans(h:Ch st N8 lo hi)(h':Ch N8 Oq lo hi):Ch st Oq lo hi :=
 ⟨h'.kind.trans h.kind,h'.pend.trans h.pend,h'.fail.trans h.fail,h'.perm.trans h.perm,λi hi=>(h'.out i hi).trans (h.out i hi)⟩
theorem Ch.size(h:Ch st N8 lo hi):(arrOf N8).size=(arrOf st).size:=h.perm.size_eq
theorem Ch.has(h:Ch st N8 lo hi)(ha:∀ p∈(arrOf st).toList,kI κ p):∀ p∈(arrOf N8).toList,kI κ p :=
 λp hp=>ha p ((VI.mp h.perm).mem_iff.mp hp)
theorem Ch.rev(h:Ch st N8 lo hi)(h1:lo<=i)(h2:j<=hi)(h3:j<=(arrOf N8).size):Ch st (setArr N8 (mirror (arrOf N8) i j ((j-i)/2))) lo hi :=
 h.trans ⟨.refl _,.refl _,.refl _,mirror_perm _ _ _ _,λm hm=>by
  show (mirror (arrOf N8) i j ((j-i)/2))[m]?=_;rw[getElem?_mirror_all h3,if_neg (by lia)]⟩
theorem Ch.NZ(h:Ch st N8 lo hi)(h0:i<=j)(h1:lo<=i)(h2:j<hi)(h3:j<(arrOf N8).size):Ch st (setArr N8 (bubble (arrOf N8) j (j-i))) lo hi :=
 h.trans ⟨.refl _,.refl _,.refl _,bubble_perm _ _ _,λm hm=>by
  show (bubble (arrOf N8) j (j-i))[m]?=_;rw[getElem?_bubble h3 _ (by lia),if_neg (by lia),if_neg (by lia)]⟩
theorem x9{a:Array Keyed}{x:Keyed}(e:a[i]?=some x):KK κ a i=ky κ x:=by unfold KK;rw[e];rfl
theorem KS.si{a:Array Keyed}(h:KS κ a lo hi):SI κ a lo hi:=λi j x y h1 h2 h3 e1 e2=>by
 have:=h i j h1 h2 h3;rw[x9 e1,x9 e2] at this;exact this
end
section
variable{prog:Program}{w:World}{A:Around}{E:Value->Shared->Prop}{s:Shared}{κ:KeyKind}{k:SortKind}
theorem wp_at(hA:lp prog w A s κ k){st:SortSt}{Q:Option Bool->SortSt->Prop}(hk:kindOf st=k)(ha:∀ p∈(arrOf st).toList,kI κ p)
  (hi:i<(arrOf st).size) (hj:j<(arrOf st).size) (h:Q (some (κ.blt (KK κ (arrOf st) i) (KK κ (arrOf st) j))) st):wpS (model prog w) A E s (ltAt' i j) Q st:=by
 obtain⟨x,ex,hx⟩:=el ha hi;obtain⟨y,ey,hy⟩:=el ha hj;refine Fz hA hk ex ey hx hy ?_;rw[<- x9 ex,<- x9 ey];exact h
theorem uv{st:SortSt}{Q:Unit->SortSt->Prop}(h:Q () (setArr st (mirror (arrOf st) i j ((j-i)/2)))):wpS (model prog w) A E s (reverseSlice' i j) Q st:=by
 rw[reverseSlice'_eq];exact W9 h
def Ll:Nat->Nat->Nat->StateT SortSt Sem Bool:=sortPriv% PySem.Builtin.binarySort
def cnt:Nat->Nat->StateT SortSt Sem (Option Nat):=sortPriv% PySem.Builtin.countRun
theorem FL(hA:lp prog w A s κ k){st:SortSt}{n ok:Nat}{Q:Bool->SortSt->Prop}(hk:kindOf st=k)(ha:∀ p∈(arrOf st).toList,kI κ p)
  (hn:lo+n<=(arrOf st).size) (bB:ok<=n) (hs:KS κ (arrOf st) lo (lo+ok))
  (h:∀ N8,Ch st N8 lo (lo+n)->KS κ (arrOf N8) lo (lo+n)->Q true N8):wpS (model prog w) A E s (Ll lo n ok) Q st:=by
 unfold Ll;walk_at "u5";dsimp only;refine S1 (VH (Vm (I:=λj c N8=>c=(none,())/\Ch st N8 lo (lo+n)/\KS κ (arrOf N8) lo (lo+min j n))
  (Q:=λc N8=>c=(none,())/\Ch st N8 lo (lo+n)/\KS κ (arrOf N8) lo (lo+n)) ?step ?fin ?init) ?post)
 case post =>
  rintro c N8 ⟨rfl,hC,Qt⟩;exact Te (h N8 hC Qt)
 case init =>
  refine⟨rfl,Ch.rfl,λi j h1 RB hj=>?_⟩
  by_cases h0:ok=0
  .have:i=j:=by lia
   subst this;exact U5 _
  .exact hs i j h1 RB (by lia)
 case fin =>
  rintro c N8 ⟨hc,hC,Qt⟩;refine⟨hc,hC,?_⟩
  rwa [show min (max (max ok 1) n) n=n by lia] at Qt
 case step =>
  rintro j c N8 hj1 Sm ⟨rfl,hC,Qt⟩;rw[show min j n=j by lia] at Qt;have hz:=hC.size;have R9:=hC.has ha;refine S1 (VH (Vm (I:=λx c Oq=>Oq=N8/\∃ l r,c=(none,l,r)/\l<=r/\r<=j/\r-l<=j-x ∧
    (∀ i,lo<=i->i<lo+l->κ.kle (KK κ (arrOf N8) i) (KK κ (arrOf N8) (lo+j)))/\(∀ i,lo+r<=i->i<lo+j->κ.klt (KK κ (arrOf N8) (lo+j)) (KK κ (arrOf N8) i)))
   (Q:=λc Oq=>Oq=N8/\∃ l r,c=(none,l,r)/\l<=j ∧
    (∀ i,lo<=i->i<lo+l->κ.kle (KK κ (arrOf N8) i) (KK κ (arrOf N8) (lo+j)))/\(∀ i,lo+l<=i->i<lo+j->κ.klt (KK κ (arrOf N8) (lo+j)) (KK κ (arrOf N8) i))) ?s1 ?f1
   ⟨rfl,0,j,rfl,by lia,by lia,by lia,λi _ hi=>by lia,λi h1 h2=>by lia⟩) ?p1)
  case f1 =>
   rintro c Oq ⟨rfl,l,r,rfl,hlr,hrk,hm,h1,h2⟩;have:l=r:=by lia
   subst this;exact⟨rfl,l,l,rfl,hrk,h1,h2⟩
  case s1 =>
   rintro x c Oq _ hx ⟨rfl,l,r,rfl,hlr,hrk,hm,h1,h2⟩;dsimp only
   by_cases hge:l>=r
   .rw[if_pos hge];have:l=r:=by lia
    subst this;exact Te ⟨rfl,l,l,rfl,hrk,h1,h2⟩
   .rw[if_neg hge];refine S1 (wp_at hA (hC.kind.trans hk) R9 (by lia) (by lia) ?_);dsimp only;cases hb:κ.blt (KK κ (arrOf Oq) (lo+j)) (KK κ (arrOf Oq) (lo+(l+r)/2))
    .exact Te ⟨rfl,(l+r)/2+1,r,rfl,by lia,by lia,by lia,λi i1 i2=>Wu (Qt i (lo+(l+r)/2) i1 (by lia) (by lia)) hb,h2⟩
    .exact Te ⟨rfl,l,(l+r)/2,rfl,by lia,by lia,by lia,h1,λi i1 i2=>X8 hb (Qt _ _ (by lia) i1 i2)⟩
  case p1 =>
   rintro c Oq ⟨rfl,l,r,rfl,hl,h1,h2⟩;show wpS _ _ _ _ (do moveDown' (lo+j) (lo+l);pure (YI (none,()))) _ _;rw[moveDown'_eq];refine S1 (W9 (Te ⟨rfl,hC.NZ (by lia) (by lia) (by lia) (by lia),?_⟩));rw[show min (j+1) n=j+1 by lia];have hks:lo+j<(arrOf Oq).size:=by lia
   intro i i' i1 i2 i3;show κ.kle (KK κ (bubble (arrOf Oq) (lo+j) (lo+j-(lo+l))) i) (KK κ (bubble (arrOf Oq) (lo+j) (lo+j-(lo+l))) i');rw[KK_bubble hks (by lia),KK_bubble hks (by lia),show lo+j-(lo+j-(lo+l))=lo+l by lia]
   repeat' split
   all_goals first
    | (exfalso;lia)
    | exact U5 _
    | exact h1 _ (by lia) (by lia)
    | exact We (h2 _ (by lia) (by lia))
    | exact Qt _ _ (by lia) (by lia) (by lia)
theorem Nr{r:κ.α->κ.α->Prop}(rr:∀ x,r x x)(rt:∀ x y z,r x y->r y z->r x z){a:Array Keyed}{x:Nat}(h:∀ i j,lo<=i->i<=j->j<lo+x->r (KK κ a i) (KK κ a j))(h1:1<=x)(hb:r (KK κ a (lo+x-1)) (KK κ a (lo+x))) :
  ∀ i j,lo<=i->i<=j->j<lo+(x+1)->r (KK κ a i) (KK κ a j):=by
 intro i j i1 i2 i3
 by_cases hj:j<lo+x
 .exact h i j i1 i2 hj
 .have:j=lo+x:=by lia
  subst this
  by_cases hi:i=lo+x
  .subst hi;exact rr _
  .exact rt _ _ _ (h i (lo+x-1) i1 (by lia) (by lia)) hb
theorem KS.next{a:Array Keyed}{x:Nat}(h:KS κ a lo (lo+x))(h1:1<=x)(hb:κ.kle (KK κ a (lo+x-1)) (KK κ a (lo+x))):KS κ a lo (lo+(x+1)):=Nr U5 (λ_ _ _=>Wu) h h1 hb
theorem KD.next{a:Array Keyed}{x:Nat}(h:KD κ a lo (lo+x))(h1:1<=x)(hb:κ.kle (KK κ a (lo+x)) (KK κ a (lo+x-1))):KD κ a lo (lo+(x+1)):=Nr (r:=λx y=>κ.kle y x) U5 (λ_ _ _ p q=>Wu q p) h h1 hb
theorem Hu(hA:lp prog w A s κ k){st:SortSt}{OD:Nat}{Q:Option Nat->SortSt->Prop}(hk:kindOf st=k)(ha:∀ p∈(arrOf st).toList,kI κ p)
  (hn:lo+OD<=(arrOf st).size) (h1:1<=OD)
  (h:∀ m N8,Ch st N8 lo (lo+OD)->1<=m->m<=OD->KS κ (arrOf N8) lo (lo+m)->Q (some m) N8):wpS (model prog w) A E s (cnt lo OD) Q st:=by
 have up:∀ (n:Nat) (Px:SortSt) (f:Nat->Option (Option Nat)×Nat->StateT SortSt Sem (ForInStep (Option (Option Nat)×Nat))) {R:Option (Option Nat)×Nat->SortSt->Prop},
   1<=n->n<=OD->Ch st Px lo (lo+OD)->KS κ (arrOf Px) lo (lo+n) ->
   (∀ x i {R':ForInStep (Option (Option Nat)×Nat)->SortSt->Prop},1<=x->x<OD->(κ.blt (KK κ (arrOf Px) (lo+x)) (KK κ (arrOf Px) (lo+x-1))=true->R' (.done (none,x)) Px) ->
    (κ.blt (KK κ (arrOf Px) (lo+x)) (KK κ (arrOf Px) (lo+x-1))=false->R' (.yield (none,x+1)) Px)->wpS (model prog w) A E s (f i (none,x)) R' Px) ->
   (∀ x,1<=x->x<=OD->KS κ (arrOf Px) lo (lo+x)->(x=OD\/κ.klt (KK κ (arrOf Px) (lo+x)) (KK κ (arrOf Px) (lo+x-1)))->R (none,x) Px) ->
   wpS (model prog w) A E s (forIn [n:OD] (none,n) f) R Px:=by
  intro n Px f R n1 n2 hC hs hf hR;refine Vm (I:=λx c N8=>N8=Px/\c=(none,x)/\KS κ (arrOf Px) lo (lo+x)) ?_ ?_ ⟨rfl,rfl,hs⟩
  .rintro x c N8 RE Pz ⟨rfl,rfl,hs⟩;exact hf x x (by lia) Pz (λhb=>hR x (by lia) (by lia) hs (.inr hb)) λhb=>⟨rfl,rfl,hs.next (by lia) hb⟩
  .rintro c N8 ⟨rfl,rfl,hs⟩;rw[show max n OD=OD by lia] at hs ⊢;exact hR OD h1 (SX _) hs (.inl rfl)
 unfold cnt;walk_at "u4";refine S1 (up 1 st _ (SX _) h1 Ch.rfl (λi j i1 i2 i3=>by have:i=j:=(by lia);subst this;exact U5 _) (λx i R' x1 x2 r1 r2=>?_) λn hn1 QO hs hor=>?_)
 .refine S1 (wp_at hA hk ha (by show lo+x<_;lia) (by show lo+x-1<_;lia) (dS (λhb=>Te (r1 hb)) λhb=>Te (r2 (by simpa using hb))))
 refine e7 (λe=>Te (h n _ Ch.rfl hn1 QO hs)) λe=>?_;have ON:=hor.resolve_left e;have e:n≠OD:=e;dsimp -zeta only
 extract_lets -underBinder jp
 have J:∀ u Px,Ch st Px lo (lo+OD)->KD κ (arrOf Px) lo (lo+(n+1))->wpS (model prog w) A E s (jp u) Q Px:=by
  intro u Px hC hD;refine S1 (Yh (Vd ⟨rfl,?_⟩));clear jp;refine S1 (VH (Vm (I:=λx c Oq=>∃ Qc,c=(none,x,Qc)/\Ch st Oq lo (lo+OD)/\KD κ (arrOf Oq) lo (lo+x)/\Qc+1<=x ∧
    (∀ i,lo+x-(Qc+1)<=i->i<lo+x->KK κ (arrOf Oq) i=KK κ (arrOf Oq) (lo+x-1)))
   (Q:=λc Oq=>∃ x Qc,c=(none,x,Qc)/\1<=x/\x<=OD/\Ch st Oq lo (lo+OD)/\KD κ (arrOf Oq) lo (lo+x)/\Qc+1<=x ∧
    (∀ i,lo+x-(Qc+1)<=i->i<lo+x->KK κ (arrOf Oq) i=KK κ (arrOf Oq) (lo+x-1))) ?s2 ?f2 ⟨0,rfl,hC,hD,by lia,λi i1 i2=>by congr 1;lia⟩) ?p2)
  case f2 =>
   rintro c Oq ⟨Qc,rfl,hC2,hD2,hq,he⟩;rw[show max (n+1) OD=OD by lia] at hD2 hq he ⊢;exact⟨OD,Qc,rfl,by lia,SX _,hC2,hD2,hq,he⟩
  case s2 =>
   rintro x c Oq RE Pz ⟨Qc,rfl,hC2,hD2,hq,he⟩;have hz:=hC2.size;have ha2:=hC2.has ha;refine S1 (wp_at hA (hC2.kind.trans hk) ha2 (by show lo+x<_;lia) (by show lo+x-1<_;lia) (dS (λhb=>?_) λhb=>?_))
   .have N:=hD2.next (by lia) (We hb);refine dS (λRM=>S1 (uv (Te ⟨0,rfl,hC2.rev (by show lo<=lo+x-(Qc+1);lia) (by show lo+x<=_;lia) (by show lo+x<=_;lia),λi j i1 i2 i3=>?_,by lia,λi i1 i2=>by congr 1;lia⟩))) λRM=>Te ⟨0,rfl,hC2,N,by lia,λi i1 i2=>by congr 1;lia⟩;show κ.kle (KK κ (mirror (arrOf Oq) (lo+x-(Qc+1)) (lo+x) ((lo+x-(lo+x-(Qc+1)))/2)) j) (KK κ (mirror (arrOf Oq) (lo+x-(Qc+1)) (lo+x) ((lo+x-(lo+x-(Qc+1)))/2)) i);rw[Wa (by lia) he,Wa (by lia) he];exact N i j i1 i2 i3
   .refine S1 (wp_at hA (hC2.kind.trans hk) ha2 (by show lo+x-1<_;lia) (by show lo+x<_;lia) (dS (λ_=>Te ⟨x,Qc,rfl,by lia,by lia,hC2,hD2,hq,he⟩) λhb2=>?_));have eqx:KK κ (arrOf Oq) (lo+x)=KK κ (arrOf Oq) (lo+x-1):=Zc (VN hb2) (VN hb);refine Te ⟨Qc+1,rfl,hC2,hD2.next (by lia) (by rw[eqx];exact U5 _),by lia,λi i1 i2=>?_⟩;rw[show lo+(x+1)-1=lo+x by lia,eqx]
    by_cases hi:i=lo+x
    .subst hi;exact eqx
    .exact he i (by lia) (by lia)
  case p2 =>
   rintro c Oq ⟨m,Qc,rfl,hm1,hm2,hC2,hD2,hq,he⟩;have hz:=hC2.size
   extract_lets -underBinder r1 s1 n1 q1
   subst r1 s1 n1 q1;dsimp -zeta only
   extract_lets -underBinder jp
   have J:∀ u P6,Ch st P6 lo (lo+OD)->KD κ (arrOf P6) lo (lo+m)->wpS (model prog w) A E s (jp u) Q P6:=by
    intro u P6 Ry hD3;refine S1 (uv ?_);clear jp;have SD:=Ry.size;have S4:KS κ (arrOf (setArr P6 (mirror (arrOf P6) lo (lo+m) ((lo+m-lo)/2)))) lo (lo+m):=by
     intro i j i1 i2 i3;show κ.kle (KK κ (mirror (arrOf P6) _ _ _) i) (KK κ (mirror (arrOf P6) _ _ _) j);rw[KK_mirror (by lia),KK_mirror (by lia),if_pos (by lia),if_pos (by lia)];exact hD3 _ _ (by lia) (by lia) (by lia)
    have RY:=Ry.rev (i:=lo) (j:=lo+m) (SX _) (by lia) (by lia);generalize setArr P6 (mirror (arrOf P6) lo (lo+m) ((lo+m-lo)/2))=Pb at S4 RY ⊢;have hz4:=RY.size;refine S1 (up m Pb _ hm1 hm2 RY S4 (λx i R' x1 x2 r1 r2=>?_) λx x1 x2 hs _=>Te (h x _ RY x1 x2 hs));exact S1 (wp_at hA (RY.kind.trans hk) (RY.has ha) (by show lo+x<_;lia) (by show lo+x-1<_;lia) (dS (λhb=>Te (r1 hb)) λhb=>Te (r2 (by simpa using hb))))
   clear_value jp
   refine dS (λRM=>S1 (uv (J _ _ (hC2.rev (i:=lo+m-(Qc+1)) (j:=lo+m) (by lia) (by lia) (by lia)) λi j i1 i2 i3=>?_))) λRM=>J _ _ hC2 hD2;show κ.kle (KK κ (mirror (arrOf Oq) _ _ _) j) (KK κ (mirror (arrOf Oq) _ _ _) i);rw[Wa (by lia) he,Wa (by lia) he];exact hD2 i j i1 i2 i3
 clear_value jp
 refine dS (λhg=>S1 (wp_at hA hk ha (by lia) (by show lo+n-1<_;lia) (dS (λ_=>Te (h n _ Ch.rfl hn1 QO hs)) λhr=>S1 (uv (J _ _ ((Ch.rfl (st:=st) (lo:=lo) (hi:=lo+OD)).rev (i:=lo) (j:=lo+n) (SX _) (by lia) (by lia)) λi j i1 i2 i3=>?_))))) λhg=>J _ _ Ch.rfl (KD.next (λi j i1 i2 i3=>by have:i=j:=(by lia);subst this;exact U5 _) hn1 (We ON));have heq:∀ m,lo<=m->m<lo+n->KK κ (arrOf st) m=KK κ (arrOf st) (lo+n-1):=λm m1 m2 =>
  Zc (hs m (lo+n-1) m1 (by lia) (by lia)) (Wu (VN hr) (hs lo m (by lia) m1 m2))
 show κ.kle (KK κ (mirror (arrOf st) _ _ _) j) (KK κ (mirror (arrOf st) _ _ _) i);rw[Wa (by lia) heq,Wa (by lia) heq]
 by_cases hj:j<lo+n
 .rw[heq i i1 (by lia),heq j (by lia) hj];exact U5 _
 .have:j=lo+n:=by lia
  subst this
  by_cases hi:i=lo+n
  .subst hi;exact U5 _
  .rw[heq i i1 (by lia)];exact We ON
end
end Srt
local macro_rules | `(tactic| walk_at "u6")=>`(tactic| unfold $(Lean.mkIdent (Lean.mkPrivateNameCore `PySem.Builtin.List.W1All `PySem.Builtin.mergeAt)):ident)
namespace Srt
open PySem PyProof.Rows
theorem yv(b:Nat)(S:List Keyed):∀ (l O P:List Keyed) (off:Nat) (arr:Array Keyed),arr.toList=P++O++S->O.length=l.length->P.length=b+off ->
  ((l.zipIdx off).foldl (λ(a:Array Keyed) (x:Keyed×Nat)=>a.setIfInBounds (b+x.2) x.1) arr).toList=P++l++S
 | [],O,P,off,arr,h,hl,hp=>by
  have:O=[]:=List.length_eq_zero_iff.mp hl;subst this;simpa using h
 | x::l,[],P,off,arr,h,hl,hp=>by simp at hl
 | x::l,o::O,P,off,arr,h,hl,hp=>by
  rw[VB,Z_,yv b S l O (P++[x]) (off+1) _ _ (by simpa using hl) (by simp[hp];lia)]
  .simp
  .rw[XS,h,<- hp];simp[aaa]
theorem HG{a:Array Keyed}{P O S:List Keyed}(h:a.toList=P++O++S):(a.extract P.length (P.length+O.length)).toList=O:=by
 rw[Array.toList_extract,h];simp[List.extract]
theorem EE{P O O' S:List Keyed}(h:O.length=O'.length)(i:Nat)(hi:i<P.length\/P.length+O.length<=i):(P++O++S)[i]?=(P++O'++S)[i]?:=by
 rw[UJ,UJ];rcases hi with hi | hi
 .rw[TH hi,TH hi]
 .rw[Tj (by lia),Tj (by lia),Tj (by lia),Tj (by lia),h]
theorem Cy{κ:KeyKind}{a:Array Keyed}{lo hi:Nat}(h:(a.extract lo hi).toList.Pairwise (le κ)):SI κ a lo hi:=by
 intro i j x y h1 h2 h3 e1 e2;have b1:=fX e1;have b2:=fX e2;rcases TV i j with ON | hge
 .have hz:(a.extract lo hi).toList.length=min hi a.size-lo:=by rw[Us,UN]
  have q:∀ m z,lo<=m->m<hi->m<a.size->a[m]?=some z->(a.extract lo hi).toList[m-lo]?=some z:=by
   intro m z m1 m2 m3 e;rw[Ug,UE,if_pos (by lia),show lo+(m-lo)=m by lia];exact e
  have p1:=q i x h1 (by lia) b1 e1;have p2:=q j y (by lia) h3 b2 e2;rw[Wx] at h;obtain⟨b1,p1⟩:=Ut.mp p1;obtain⟨b2,p2⟩:=Ut.mp p2;have:=h (i-lo) (j-lo) b1 b2 (by lia);rw[p1,p2] at this;exact this
 .have:i=j:=by lia
  subst this;rw[e1] at e2;cases e2;exact le_refl _
theorem i7{a:Array Keyed}{i j:Nat}(h:j<=a.size):(a.extract i j).toList.length=j-i:=by
 rw[Us,UN];lia
section
variable{prog:Program}{w:World}{A:Around}{E:Value->Shared->Prop}{s:Shared}{κ:KeyKind}{k:SortKind}
def MC:Nat->StateT SortSt Sem Bool:=sortPriv% PySem.Builtin.mergeAt
theorem AG{p:Array (Nat×Nat×Nat)}{L1 L2:List (Nat×Nat×Nat)}{x y v:Nat×Nat×Nat}(h:p.toList=L1++x::y::L2) :
  ((p.setIfInBounds L1.length v).eraseIdxIfInBounds (L1.length+1)).toList=L1++v::L2:=by
 have hz:L1.length+1<(p.setIfInBounds L1.length v).size:=by
  rw[Array.size_setIfInBounds,<- Us,h];simp
 unfold Array.eraseIdxIfInBounds;rw[dif_pos hz,Array.toList_eraseIdx,XS,h];simp[aaa,List.eraseIdx_append];intro h';lia
theorem merged{arr:Array Keyed}{m na nb j l:Nat}{r:Array Keyed}(hz:m+na+nb<=arr.size)(s1:SI κ arr m (m+na))(s2:SI κ arr (m+na) (m+na+nb))
  (hj:j<=na) (hl:l<=nb) (n1:j<na) (n2:0<l)
  (lo1:∀ i y z,m<=i->i<m+j->arr[i]?=some y->arr[m+na]?=some z->le κ y z)
  (hi2:∀ i y z,m+na+l<=i->i<m+na+nb->arr[i]?=some y->arr[m+na-1]?=some z->le κ z y)
  (hr:Good κ (arr.extract (m+j) (m+na)) (arr.extract (m+na) (m+na+l)) r) :
  ∀ Qo:Array Keyed,Qo=r.toList.zipIdx.foldl (λa (x:Keyed×Nat)=>a.setIfInBounds (m+j+x.2) x.1) arr ->
   Qo.Perm arr/\(∀ i,i<m\/m+na+nb<=i->Qo[i]?=arr[i]?)/\SI κ Qo m (m+na+nb):=by
 rintro Qo rfl;have d1:arr.toList=(arr.extract 0 (m+j)).toList++((arr.extract (m+j) (m+na)).toList++(arr.extract (m+na) (m+na+l)).toList)++(arr.extract (m+na+l) arr.size).toList:=by
  rw[<- kT arr (by lia) (by lia),<- kT arr (by lia) (by lia),<- kT arr (by lia) (by lia)];simp
 have hlen:((arr.extract (m+j) (m+na)).toList++(arr.extract (m+na) (m+na+l)).toList).length=r.toList.length:=hr.2.length_eq.symm;have RD:r.toList.length=na-j+l:=by
  rw[<- hlen,TM,i7 (by lia),i7 (by lia)];lia
 have d2:=yv (m+j) (arr.extract (m+na+l) arr.size).toList r.toList _ (arr.extract 0 (m+j)).toList 0 arr d1 hlen (by rw[i7 (by lia)];lia);generalize r.toList.zipIdx.foldl (λa (x:Keyed×Nat)=>a.setIfInBounds (m+j+x.2) x.1) arr=Qo at d2 ⊢;refine⟨?_,?_,?_⟩
 .refine VI.mpr ?_;rw[d1,d2];exact WR _ (Wd _ hr.2)
 .intro i hi;rw[<- Ug,<- Ug,d1,d2];refine EE hlen.symm i ?_;rw[i7 (by lia),RD];lia
 .have d3:Qo.toList=(arr.extract 0 m).toList++((arr.extract m (m+j)).toList++r.toList++(arr.extract (m+na+l) (m+na+nb)).toList)++(arr.extract (m+na+nb) arr.size).toList:=by
   rw[d2,kT arr (show 0<=m by lia) (show m<=m+j by lia),kT arr (show m+na+l<=m+na+nb by lia) hz];simp only[UJ]
  have d4:=HG d3;rw[i7 (by lia)] at d4;have hl4:((arr.extract m (m+j)).toList++r.toList++(arr.extract (m+na+l) (m+na+nb)).toList).length=na+nb:=by
   rw[TM,TM,i7 (by lia),i7 (by lia),RD];lia
  rw[hl4,show m-0+(na+nb)=m+na+nb by lia,show m-0=m by lia] at d4;refine Cy ?_;rw[d4];obtain⟨z0,e0⟩:∃ z,arr[m+na]?=some z:=⟨_,getElem?_pos arr (m+na) (by lia)⟩
  obtain⟨zl,el⟩:∃ z,arr[m+na-1]?=some z:=⟨_,getElem?_pos arr (m+na-1) (by lia)⟩
  have X0:∀ y∈(arr.extract m (m+j)).toList,∀ i z,m+j<=i->i<m+na+nb->arr[i]?=some z->le κ y z:=by
   intro y hy i z i1 i2 i3;obtain⟨i',a1,a2,a3⟩:=cN.mp hy;rcases TV i (m+na) with ON | hge
   .exact s1 i' i y z a1 (by lia) ON a3 i3
   .exact le_trans (lo1 i' y z0 a1 a2 a3 e0) (s2 (m+na) i z0 z (by lia) hge i2 e0 i3)
  have Y1:∀ y∈(arr.extract (m+na+l) (m+na+nb)).toList,∀ i z,m<=i->i<m+na+l->arr[i]?=some z->le κ z y:=by
   intro y hy i z i1 i2 i3;obtain⟨i',a1,a2,a3⟩:=cN.mp hy;rcases TV i (m+na) with ON | hge
   .exact le_trans (s1 i (m+na-1) z zl i1 (by lia) (by lia) i3 el) (hi2 i' y zl a1 a2 a3 el)
   .exact s2 i i' z y hge (by lia) a2 i3 a3
  have hm:∀ y∈r.toList,∃ i,m+j<=i/\i<m+na+l/\arr[i]?=some y:=by
   intro y hy;rcases UG.mp (hr.2.mem_iff.mp hy) with hy | hy
   .obtain⟨i,a1,a2,a3⟩:=cN.mp hy;exact⟨i,a1,by lia,a3⟩
   .obtain⟨i,a1,a2,a3⟩:=cN.mp hy;exact⟨i,by lia,a2,a3⟩
  rw[UJ,U6,U6];refine⟨s1.pw (SX _) (by lia),⟨hr.1,s2.pw (by lia) (SX _),λx hx y hy=>?_⟩,λx hx y hy=>?_⟩
  .obtain⟨i,a1,a2,a3⟩:=hm x hx;exact Y1 y hy i x (by lia) a2 a3
  .rcases UG.mp hy with hy | hy
   .obtain⟨i,a1,a2,a3⟩:=hm y hy;exact X0 x hx i y a1 (by lia) a3
   .obtain⟨i,a1,a2,a3⟩:=cN.mp hy;exact X0 x hx i y (by lia) (by lia) a3
theorem SI.join{a:Array Keyed}{l m h:Nat}(s1:SI κ a l m)(s2:SI κ a m h)(c:∀ i j x y,l<=i->i<m->m<=j->j<h->a[i]?=some x->a[j]?=some y->le κ x y):SI κ a l h:=by
 intro i j x y h1 h2 h3 e1 e2
 by_cases hj:j<m
 .exact s1 i j x y h1 h2 hj e1 e2
 .by_cases hi:i<m
  .exact c i j x y h1 hi (by lia) h3 e1 e2
  .exact s2 i j x y (by lia) h2 h3 e1 e2
theorem ku{a:Array Keyed}{i j:Nat}(ha:∀ p∈a.toList,kI κ p):∀ p∈(a.extract i j).toList,kI κ p:=λp hp=>by
 obtain⟨m,_,_,e⟩:=cN.mp hp;exact ha p (by rw[YN];exact⟨m,by rw[Ug];exact e⟩)
theorem yy{a:Array Keyed}{i j:Nat}(h:SI κ a i j):SI κ (a.extract i j) 0 (a.extract i j).size:=by
 intro m n x y h1 h2 h3 e1 e2;rw[UE] at e1 e2;rw[UN] at h3;rw[if_pos (by lia)] at e1 e2;exact h _ _ x y (by lia) (by lia) (by lia) e1 e2
theorem ID{st Px:SortSt}{Q:PUnit->SortSt->Prop}(h:Q ⟨⟩ Px):wpS (model prog w) A E s (set Px:StateT SortSt Sem PUnit) Q st:=by
 unfold wpS;rw[StateT.run_set];exact SY ⟨rfl,h⟩
set_option maxHeartbeats 1000000 in
theorem GK (hA : lp prog w A s κ k) {st : SortSt} {L1 L2 : List (Nat × Nat × Nat)} {m na nb pw RF : Nat} {Q : Bool -> SortSt -> Prop} (hk : kindOf st = k)
    (ha : ∀ p ∈ (arrOf st).toList, kI κ p) (hf : failedOf st = none) (hp : (pendingOf st).toList = L1 ++ (m, na, pw) :: (m + na, nb, RF) :: L2) (n1 : 1 <= na) (n2 : 1 <= nb)
    (hz : m + na + nb <= (arrOf st).size) (s1 : SI κ (arrOf st) m (m + na)) (s2 : SI κ (arrOf st) (m + na) (m + na + nb))
    (h : ∀ N8, kindOf N8 = k -> (arrOf N8).Perm (arrOf st) -> failedOf N8 = none -> (pendingOf N8).toList = L1 ++ (m, na + nb, pw) :: L2 ->
      (∀ i, i < m \/ m + na + nb <= i -> (arrOf N8)[i]? = (arrOf st)[i]?) -> SI κ (arrOf N8) m (m + na + nb) -> Q true N8) :
    wpS (model prog w) A E s (MC L1.length) Q st := by
  unfold MC;walk_at "u6";dsimp only;refine S1 (Xy ?_);have p1 : (pendingOf st)[L1.length]? = some (m, na, pw) := by rw [<- Ug, hp]; simp
  have p2 : (pendingOf st)[L1.length + 1]? = some (m + na, nb, RF) := by rw [<- Ug, hp]; simp
  have pn := AG (v := (m, na + nb, pw)) hp;have hg : ∀ i, i < (arrOf st).size -> ∃ x, (arrOf st)[i]? = some x /\ kI κ x := λi hi => el ha hi;rw [show (_, _) = (some (m, na, pw), some (m + na, nb, RF)) from Prod.ext p1 p2];dsimp only;refine S1 (ID ?_);obtain ⟨z0, e0, hz0⟩ := hg (m + na) (by lia);obtain ⟨zl, el', hzl⟩ := hg (m + na - 1) (by lia);refine S1 (bC e0 (S1 (tD hA hk hz0 (by show m + na <= (arrOf st).size; lia) ha (by lia) s1 λj hj Qk QB => ?_)));dsimp only
  by_cases ej : na - j = 0
  . rw [if_pos (by simpa using ej)];refine Te (h _ hk (.refl _) hf pn (λ_ _ => rfl) ?_);exact s1.join s2 λi i' x y a1 a2 a3 a4 b1 b2 => le_trans (Qk i x a1 (by lia) b1) (s2 (m + na) i' z0 y (by lia) a3 a4 e0 b2)
  rw [if_neg (by simpa using ej)];refine S1 (bC (p := zl) (by rw [show m + j + (na - j) - 1 = m + na - 1 by lia]; exact el') (S1 (sP hA hk hzl (by show m + na + nb <= (arrOf st).size; lia) ha (by lia) s2 λl hl hlo2 Si => ?_)));dsimp only
  by_cases el0 : l = 0
  . rw [if_pos (by simpa using el0)];refine Te (h _ hk (.refl _) hf pn (λ_ _ => rfl) ?_);exact s1.join s2 λi i' x y a1 a2 a3 a4 b1 b2 => le_trans (s1 i (m + na - 1) x zl a1 (by lia) (by lia) b1 el') (Si i' y (by lia) a4 b2)
  rw [if_neg (by simpa using el0)];have M := λr (hr : Good κ _ _ r) => merged (r := r) hz s1 s2 hj hl (by lia) (by lia) (λi y z a1 a2 b1 b2 => by rw [e0] at b2; cases b2; exact Qk i y a1 a2 b1)
    (λi y z a1 a2 b1 b2 => by rw [el'] at b2; cases b2; exact Si i y a1 a2 b1) hr _ rfl
  have q1 : 1 <= ((arrOf st).extract (m + j) (m + na)).size := by rw [UN]; lia
  have q2 : 1 <= ((arrOf st).extract (m + na) (m + na + l)).size := by rw [UN]; lia
  have q3 : ∀ x y, ((arrOf st).extract (m + j) (m + na))[0]? = some x -> ((arrOf st).extract (m + na) (m + na + l))[0]? = some y -> lt κ y x := by
    intro x y a1 a2;rw [UE, if_pos (by lia)] at a1 a2;rw [Xz] at a1 a2;rw [e0] at a2; cases a2;exact QB _ x (by lia) (by lia) a1
  have q4 : ∀ (i i' : Nat) (x y : Keyed), i + 1 = ((arrOf st).extract (m + j) (m + na)).size -> ((arrOf st).extract (m + j) (m + na))[i]? = some x -> ((arrOf st).extract (m + na) (m + na + l))[i']? = some y -> lt κ y x := by
    intro i i' x y a0 a1 a2;have a3 := fX a2;rw [UN] at a0 a3;rw [UE, if_pos (by lia)] at a1 a2;rw [show m + j + i = m + na - 1 by lia, el'] at a1; cases a1;exact hlo2 _ y (by lia) (by lia) a2
  by_cases hle : na - j <= l
  all_goals first
    | (rw [if_pos hle]
       refine S1 (Jl hA hk (ku ha) (ku ha) (yy (s1.mono (by lia) (by lia))) (yy (s2.mono (by lia) (by lia))) q1 q2 q3 q4 λr N8 hK hr => ?_))
    | (rw [if_neg hle]
       refine S1 (GR hA hk (ku ha) (ku ha) (yy (s1.mono (by lia) (by lia))) (yy (s2.mono (by lia) (by lia))) q1 q2 q3 q4 λr N8 hK hr => ?_))
  all_goals
    obtain ⟨r1, r2, r3⟩ := M r hr;refine S1 (W9 (S1 (Xy ?_)));have hf' : failedOf N8 = none := hK.fail.trans hf;have R9 : arrOf N8 = arrOf st := hK.arr;have Sh : (failedOf N8).isNone = true := by rw [hf']; rfl
    refine Te (Q := Q) ?_;show Q (failedOf N8).isNone _;rw [Sh];refine h _ (hK.kind.trans hk) ?_ hf' ((congrArg Zu hK.pend).trans pn) ?_ ?_
    . show (r.toList.zipIdx.foldl (λa (x : Keyed × Nat) => a.setIfInBounds (m + j + x.2) x.1) (arrOf N8)).Perm _;rw [R9]; exact r1
    . show ∀ i, _ -> (r.toList.zipIdx.foldl (λa (x : Keyed × Nat) => a.setIfInBounds (m + j + x.2) x.1) (arrOf N8))[i]? = _;rw [R9]; exact r2
    . show SI κ (r.toList.zipIdx.foldl (λa (x : Keyed × Nat) => a.setIfInBounds (m + j + x.2) x.1) (arrOf N8)) _ _;rw [R9]; exact r3
end
end Srt
local macro_rules | `(tactic| walk_at "u7")=>`(tactic| unfold $(Lean.mkIdent (Lean.mkPrivateNameCore `PySem.Builtin.List.W1All `PySem.Builtin.sortRuns)):ident)
namespace Srt
open PySem PyProof.Rows
def Pn(κ:KeyKind)(a:Array Keyed):Nat->List (Nat×Nat×Nat)->Nat->Prop
 | lo,[],hi=>lo=hi
 | lo,e::L,hi=>e.1=lo/\1<=e.2.1/\SI κ a lo (lo+e.2.1)/\Pn κ a (lo+e.2.1) L hi
section
variable{κ:KeyKind}{a a':Array Keyed}
theorem Pn.app:∀ {L L':List (Nat×Nat×Nat)} {lo m hi:Nat},Pn κ a lo L m->Pn κ a m L' hi->Pn κ a lo (L++L') hi
 | [],L',lo,m,hi,h,h'=>by cases h;exact h'
 | e::L,L',lo,m,hi,⟨h1,h2,h3,h4⟩,h'=>⟨h1,h2,h3,Pn.app h4 h'⟩
theorem Pn.le:∀ {L:List (Nat×Nat×Nat)} {lo hi:Nat},Pn κ a lo L hi->lo+L.length<=hi
 | [],lo,hi,h=>by cases h;exact SX _
 | e::L,lo,hi,⟨h1,h2,h3,h4⟩=>by have:=Pn.le h4;simp only[T5];lia
theorem Pn.congr:∀ {L:List (Nat×Nat×Nat)} {lo hi:Nat},Pn κ a lo L hi->(∀ i,lo<=i->i<hi->a'[i]?=a[i]?)->Pn κ a' lo L hi
 | [],lo,hi,h,_=>h
 | e::L,lo,hi,⟨h1,h2,h3,h4⟩,hc=>⟨h1,h2,λi j x y i1 i2 i3 e1 e2=>by
   have:=Pn.le h4;rw[hc i i1 (by lia)] at e1;rw[hc j (by lia) (by lia)] at e2;exact h3 i j x y i1 i2 i3 e1 e2,Pn.congr h4 λi i1 i2=>hc i (by lia) i2⟩
theorem Pn.map:∀ {L L':List (Nat×Nat×Nat)} {lo hi:Nat},L'.map (λe=>(e.1,e.2.1))=L.map (λe=>(e.1,e.2.1))->Pn κ a lo L hi->Pn κ a lo L' hi
 | [],[],_,_,_,h=>h
 | [],_::_,_,_,hm,_=>by simp at hm
 | _::_,[],_,_,hm,_=>by simp at hm
 | e::L,e'::L',lo,hi,hm,⟨h1,h2,h3,h4⟩=>by
  rw[Tw,Tw] at hm;obtain⟨hx,hm⟩:=List.cons.inj hm;obtain⟨q1,q2⟩:=Z4 hx;exact⟨q1.trans h1,by rw[q2];exact h2,by rw[q2];exact h3,by rw[q2];exact Pn.map hm h4⟩
theorem oE{α β:Type}(g:α->β)(f:α->α)(hf:∀ x,g (f x)=g x):∀ (L:List α) (i:Nat),(L.modify i f).map g=L.map g
 | [],i=>by cases i <;> rfl
 | x::L,0=>by simp[List.modify,List.modifyTailIdx,aaf,List.modifyHead,hf]
 | x::L,i+1=>by rw[List.modify_succ_cons,Tw,Tw,oE g f hf L i]
theorem Pn.at:∀ {L:List (Nat×Nat×Nat)} {j lo hi:Nat},Pn κ a lo L hi->j+1<L.length->∃ L1 L2 m na nb pw RF,L=L1++(m,na,pw)::(m+na,nb,RF)::L2/\L1.length=j ∧
  1<=na/\1<=nb/\SI κ a m (m+na)/\SI κ a (m+na) (m+na+nb)/\Pn κ a lo L1 m/\Pn κ a (m+na+nb) L2 hi
 | [],j,lo,hi,h,hj=>by simp at hj
 | [_],j,lo,hi,h,hj=>by simp at hj
 | (x1,x2,x3)::(y1,y2,y3)::L,0,lo,hi,⟨h1,h2,h3,h4,h5,h6,h7⟩,hj=>by
  cases h1;cases h4;exact⟨[],L,x1,x2,y2,x3,y3,rfl,rfl,h2,h5,h3,h6,rfl,h7⟩
 | (x1,x2,x3)::y::L,j+1,lo,hi,⟨h1,h2,h3,h4⟩,hj=>by
  obtain⟨L1,L2,m,na,nb,pw,RF,e,hl,b1,b2,b3,b4,b5,b6⟩:=Pn.at (j:=j) h4 (by simpa using hj);exact⟨(x1,x2,x3)::L1,L2,m,na,nb,pw,RF,by rw[e];rfl,by simp[hl],b1,b2,b3,b4,⟨h1,h2,h3,b5⟩,b6⟩
end
structure Ok (κ:KeyKind) (k:SortKind) (a0:Array Keyed) (st:SortSt):Prop where
 kind:kindOf st=k
 perm:(arrOf st).Perm a0
 fail:failedOf st=none
section
variable{prog:Program}{w:World}{A:Around}{E:Value->Shared->Prop}{s:Shared}{κ:KeyKind}{k:SortKind}{a0:Array Keyed}
theorem Ok.size{st:SortSt}(h:Ok κ k a0 st):(arrOf st).size=a0.size:=h.perm.size_eq
theorem Ok.has{st:SortSt}(h:Ok κ k a0 st)(ha:∀ p∈a0.toList,kI κ p):∀ p∈(arrOf st).toList,kI κ p :=
 λp hp=>ha p ((VI.mp h.perm).mem_iff.mp hp)
theorem Bp(hA:lp prog w A s κ k)(ha:∀ p∈a0.toList,kI κ p){st:SortSt}{j hi:Nat}{Q:Bool->SortSt->Prop}(hO:Ok κ k a0 st)(hP:Pn κ (arrOf st) 0 (pendingOf st).toList hi)
  (hj:j+1<(pendingOf st).size) (hz:hi<=a0.size)
  (h:∀ N8,Ok κ k a0 N8->Pn κ (arrOf N8) 0 (pendingOf N8).toList hi->(pendingOf N8).size+1=(pendingOf st).size->(∀ i,hi<=i->(arrOf N8)[i]?=(arrOf st)[i]?)->Q true N8) :
  wpS (model prog w) A E s (MC j) Q st:=by
 obtain⟨L1,L2,m,na,nb,pw,RF,e,rfl,b1,b2,b3,b4,b5,b6⟩:=hP.at (j:=j) hj;have hm:=b6.le;refine GK hA hO.kind (hO.has ha) hO.fail e b1 b2 (by rw[hO.size];lia) b3 b4 λN8 c1 c2 c3 c4 c5 c6=>h N8 ⟨c1,c2.trans hO.perm,c3⟩ ?_ ?_ λi hi=>c5 i (by lia)
 .rw[c4];exact(b5.congr λi _ i2=>c5 i (.inl i2)).app ⟨rfl,by show 1<=na+nb;lia,by rw[Nat.add_assoc] at c6;exact c6,by
   show Pn κ _ (m+(na+nb)) L2 hi;rw[<- Nat.add_assoc];exact b6.congr λi i1 _=>c5 i (.inr i1)⟩
 .rw[<- Us,<- Us,c4,e];simp only[TM,T5];lia
theorem ix{c:Prop}[Decidable c]{n:Nat}(h:2<=n):(if c then n-2-1 else n-2)+1<n:=by split <;> lia
def Np:StateT SortSt Sem Unit:=sortPriv% PySem.Builtin.sortRuns
theorem G7 (hA : lp prog w A s κ k) (ha : ∀ p ∈ a0.toList, kI κ p) {st : SortSt} {Q : Unit -> SortSt -> Prop} (hO : Ok κ k a0 st) (hp : pendingOf st = #[]) (h1 : 1 <= a0.size)
    (h : ∀ N8, Ok κ k a0 N8 -> SI κ (arrOf N8) 0 a0.size -> Q () N8) : wpS (model prog w) A E s Np Q st := by
  unfold Np;walk_at "u7";dsimp only;refine S1 (Xy ?_);have Pd := hO.size;rw [show (PyProof.Rows.arrOf st).size = a0.size from Pd];refine S1 (VH (Vm (I := λx c N8 => ∃ lo, c = (none, lo) /\ Ok κ k a0 N8 /\ Pn κ (arrOf N8) 0 (pendingOf N8).toList lo /\ lo <= a0.size /\ (x <= lo \/ lo = a0.size))
    (Q := λc N8 => c = (none, a0.size) /\ Ok κ k a0 N8 /\ Pn κ (arrOf N8) 0 (pendingOf N8).toList a0.size) ?step ?fin ⟨0, rfl, hO, by rw [hp]; rfl, by lia, .inl (by lia)⟩) ?post)
  case fin =>
    rintro c N8 ⟨lo, rfl, hO', hP, h2, h3⟩;have : lo = a0.size := by lia
    subst this;exact ⟨rfl, hO', hP⟩
  case step =>
    rintro x c N8 _ hx ⟨lo, rfl, hO', hP, h2, h3⟩;dsimp only
    by_cases hge : lo >= a0.size
    . rw [if_pos hge];have : lo = a0.size := by lia
      subst this;exact Te ⟨rfl, hO', hP⟩
    rw [if_neg hge];have hz := hO'.size;refine S1 (Hu hA hO'.kind (hO'.has ha) (by lia) (by lia) λn Oq hC n1 n2 hS => ?_);dsimp only;generalize (sortPriv% PySem.Builtin.minRun) a0.size a0.size 0 = M;have O2 : Ok κ k a0 Oq := ⟨hC.kind.trans hO'.kind, hC.perm.trans hO'.perm, hC.fail.trans hO'.fail⟩
    have P2 : Pn κ (arrOf Oq) 0 (pendingOf Oq).toList lo := by
      rw [hC.pend]; exact hP.congr λi _ i2 => hC.out i (.inl i2)
    by_cases ON : n < M
    all_goals first
      | (rw [if_pos ON]
         refine S1 (Yh (Vd ⟨rfl, ?_⟩));have Rl := O2.size;refine S1 (FL hA O2.kind (O2.has ha) (by lia) (by lia) hS λP6 Ry hS3 => ?_);rw [if_neg (by simp)];have O3 : Ok κ k a0 P6 := ⟨Ry.kind.trans O2.kind, Ry.perm.trans O2.perm, Ry.fail.trans O2.fail⟩
         have P3 : Pn κ (arrOf P6) 0 (pendingOf P6).toList lo := by
           rw [Ry.pend]; exact P2.congr λi _ i2 => Ry.out i (.inl i2)
         have S3 := hS3.si;have m1 : 1 <= min (a0.size - lo) M := by lia
         have m2 : lo + min (a0.size - lo) M <= a0.size := by lia
         generalize min (a0.size - lo) M = n3 at S3 m1 m2 ⊢)
      | (rw [if_neg ON]
         have O3 := O2;have P3 := P2;have S3 := hS.si;have m1 := n1;have m2 : lo + n <= a0.size := by lia)
    all_goals
      refine S1 (Xy ?_);have F : ∀ (Pb : SortSt) (v : Nat), Ok κ k a0 Pb -> ∀ L : Array (Nat × Nat × Nat), Pn κ (arrOf Pb) 0 L.toList lo -> 1 <= v -> lo + v <= a0.size -> SI κ (arrOf Pb) lo (lo + v) ->
          ∃ l, ((none : Option Unit), lo + v) = (none, l) /\ Ok κ k a0 (setPending Pb (L.push (lo, v, 0))) /\ Pn κ (arrOf Pb) 0 (L.push (lo, v, 0)).toList l /\ l <= a0.size /\ (x + 1 <= l \/ l = a0.size) :=
        λPb v o4 L p4 v1 v2 s4 => ⟨lo + v, rfl, ⟨o4.kind, o4.perm, o4.fail⟩, by rw [X6]; exact p4.app ⟨rfl, v1, s4, rfl⟩, v2, .inl (by lia)⟩
      rcases hb : (pendingOf _).back? with _ | ⟨s1, w1, pw⟩
      . exact S1 (W9 (Te (F _ _ O3 _ P3 m1 m2 S3)))
      dsimp only;refine S1 (VH (Vm (I := λ_ c Pb => c = (none, ()) /\ Ok κ k a0 Pb /\ Pn κ (arrOf Pb) 0 (pendingOf Pb).toList lo /\ SI κ (arrOf Pb) lo _)
        (Q := λc Pb => c = (none, ()) /\ Ok κ k a0 Pb /\ Pn κ (arrOf Pb) 0 (pendingOf Pb).toList lo /\ SI κ (arrOf Pb) lo _) ?s1 (λ_ _ h => h) ⟨rfl, O3, P3, S3⟩) ?p1)
      case s1 =>
        rintro y c Pb _ hy ⟨rfl, o4, p4, s4⟩;refine S1 (Xy ?_)
        by_cases Fo : (pendingOf Pb).size > 1
        . rw [if_pos Fo];obtain ⟨⟨u1, u2, u3⟩, hu⟩ : ∃ u, (pendingOf Pb)[(pendingOf Pb).size - 2]? = some u := ⟨_, getElem?_pos (pendingOf Pb) ((pendingOf Pb).size - 2) (by lia)⟩
          rw [hu];dsimp only
          split
          . exact Te ⟨rfl, o4, p4, s4⟩
          . refine S1 (Bp hA ha o4 p4 (by show (pendingOf Pb).size - 2 + 1 < (pendingOf Pb).size; lia) (by lia) λRH o5 p5 _ q5 => ?_);exact Te ⟨rfl, o5, p5, λi j a b i1 i2 i3 e1 e2 => by rw [q5 i i1] at e1; rw [q5 j (by lia)] at e2; exact s4 i j a b i1 i2 i3 e1 e2⟩
        . rw [if_neg Fo];exact Te ⟨rfl, o4, p4, s4⟩
      case p1 =>
        rintro c Pb ⟨rfl, o4, p4, s4⟩;dsimp only;refine S1 (W9 (S1 (W9 (Te ?_))));exact F Pb _ o4 _ (Pn.map (by rw [Array.toList_modify]; refine oE _ _ ?_ _ _; exact λ_ => rfl) p4) m1 m2 s4
  case post =>
    rintro c N8 ⟨rfl, hO', hP⟩;dsimp only;have hl := hP.le;rw [Us] at hl;refine S1 (VH (Vm (I := λx c Oq => c = (none, ()) /\ Ok κ k a0 Oq /\ Pn κ (arrOf Oq) 0 (pendingOf Oq).toList a0.size /\ (pendingOf Oq).size <= max 1 (a0.size - x))
      (Q := λc Oq => c = (none, ()) /\ Ok κ k a0 Oq /\ Pn κ (arrOf Oq) 0 (pendingOf Oq).toList a0.size /\ (pendingOf Oq).size <= 1) ?s2 ?f2 ⟨rfl, hO', hP, by lia⟩) ?p2)
    case f2 =>
      rintro c Oq ⟨rfl, o2, p2, z2⟩;exact ⟨rfl, o2, p2, by lia⟩
    case s2 =>
      rintro x c Oq _ hx ⟨rfl, o2, p2, z2⟩;refine S1 (Xy ?_)
      by_cases hs1 : (pendingOf Oq).size <= 1
      . rw [if_pos hs1];exact Te ⟨rfl, o2, p2, hs1⟩
      rw [if_neg hs1];refine S1 (Bp hA ha o2 p2 ?_ (SX _) λP6 o3 p3 z3 _ => ?_)
      . exact ix (n := (pendingOf Oq).size) (by lia)
      . exact Te ⟨rfl, o3, p3, by lia⟩
    case p2 =>
      rintro c Oq ⟨rfl, o2, p2, z2⟩;refine Te (h Oq o2 ?_);rw [<- Us] at z2;revert p2 z2;cases (pendingOf Oq).toList with
      | nil => intro p2 _; have : 0 = a0.size := p2; lia
      | cons e L =>
        cases L with
        | nil => rintro ⟨q1, q2, q3, q4⟩ _; have : 0 + e.2.1 = a0.size := q4; rw [this] at q3; exact q3
        | cons e' L => intro _ z; simp at z
end
end Srt
local macro_rules | `(tactic| walk_at "u8")=>`(tactic| unfold $(Lean.mkIdent (Lean.mkPrivateNameCore `PySem.Builtin.List.W1All `PySem.Builtin.keyLt)):ident)
namespace Srt
open PySem PyProof.Rows
theorem wD:∀ a:List Int,HT.lexLt a a=false
 | []=>rfl
 | x::a=>by rw[HT.dJ,if_pos rfl];exact wD a
theorem Cs:∀ a b c:List Int,HT.lexLt a b=true->HT.lexLt b c=true->HT.lexLt a c=true
 | [],[],_,h,_=>by cases h
 | [],_::_,[],_,h=>by cases h
 | [],_::_,_::_,_,_=>rfl
 | _::_,[],_,h,_=>by cases h
 | _::_,_::_,[],_,h=>by cases h
 | x::a,y::b,z::c,h,h'=>by
  rw[HT.dJ] at h h' ⊢
  by_cases e:x=y
  .subst e;rw[if_pos rfl] at h
   split
   .rename_i e;rw[if_pos e] at h';exact Cs a b c h h'
   .rename_i e;rw[if_neg e] at h';exact h'
  .rw[if_neg e] at h;have h:=of_decide_eq_true h
   by_cases e':y=z
   .subst e';rw[if_neg e];exact decide_eq_true h
   .rw[if_neg e'] at h';have h':=of_decide_eq_true h';rw[if_neg (by lia)];exact decide_eq_true (by lia)
theorem xr:∀ a b c:List Int,HT.lexLt a c=true->HT.lexLt a b=true\/HT.lexLt b c=true
 | [],[],_::_,_=>.inr rfl
 | [],_::_,_,_=>.inl rfl
 | [],[],[],h=>by cases h
 | _::_,_,[],h=>by cases h
 | _::_,[],_::_,_=>.inr rfl
 | x::a,y::b,z::c,h=>by
  rw[HT.dJ] at h;rw[HT.dJ,HT.dJ]
  by_cases e:x=z
  .subst e;rw[if_pos rfl] at h
   by_cases e':x=y
   .subst e';rw[if_pos rfl,if_pos rfl];exact xr a b c h
   .rw[if_neg e',if_neg (λz=>e' z.symm)]
    by_cases q:x<y
    .exact .inl (decide_eq_true q)
    .exact .inr (decide_eq_true (by lia))
  .rw[if_neg e] at h;have h:=of_decide_eq_true h
   by_cases e':x=y
   .subst e';rw[if_neg e];exact .inr (decide_eq_true h)
   .by_cases q:x<y
    .rw[if_neg e'];exact .inl (decide_eq_true q)
    .rw[if_neg (show ¬ y=z by lia)];exact .inr (decide_eq_true (by lia))
theorem tQ:∀ a b:List Int,HT.lexLt a b=false->HT.lexLt b a=false->a=b
 | [],[],_,_=>rfl
 | [],_::_,h,_=>by cases h
 | _::_,[],_,h=>by cases h
 | x::a,y::b,h,h'=>by
  rw[HT.dJ] at h h'
  by_cases e:x=y
  .subst e;rw[if_pos rfl] at h h';rw[tQ a b h h']
  .rw[if_neg e] at h;rw[if_neg (λz=>e z.symm)] at h';have h:=of_decide_eq_false h;have h':=of_decide_eq_false h';lia
def TI(h:Heap)(v:Value)(ns:List Int):Prop:=∃ a items,v=.ref a/\h.IsTuple a items/\IntsAre items.toList ns/\ns≠[]
theorem vE:∀ {vs:List Value} {ns ms:List Int},IntsAre vs ns->IntsAre vs ms->ns=ms
 | _,_,_,.nil,h=>by cases h;rfl
 | _,_,_,.cons n t h,h'=>by cases h' with | cons _ _ h'=>rw[vE h h']
variable{ns:List Int}{v:Value}{h:Heap}
theorem TI.one{ms:List Int}(a:TI h v ns)(b:TI h v ms):ns=ms:=by
 obtain⟨a,i,rfl,⟨o,h1,_,n,h2⟩,h3,_⟩:=a;obtain⟨b,j,e,⟨p,g1,_,m,g2⟩,g3,_⟩:=b;cases e;rw[h1] at g1;cases g1;rw[h2] at g2;cases g2;exact vE h3 g3
open Classical in
def kt(h:Heap):KeyKind where
 α:=List Int
 blt:=HT.lexLt
 irrefl:=wD
 trans:=Cs
 negTrans:=xr
 total:=tQ
 keyOf v:=if hx:∃ ns,TI h v ns then some (choose hx) else none
 dflt:=[]
open Classical in
theorem CZ(t:TI h v ns):(kt h).keyOf v=some ns:=by
 show (if hx:∃ ns,TI h v ns then some (Yj hx) else none)=some ns;rw[dif_pos ⟨ns,t⟩];exact congrArg some ((W4 (⟨ns,t⟩:∃ ns,TI h v ns)).one t)
open Classical in
theorem Gi(t:(kt h).keyOf v=some ns):TI h v ns:=by
 have t:(if hx:∃ ns,TI h v ns then some (Yj hx) else none)=some ns:=t
 split at t
 .rename_i hx;cases t;exact W4 hx
 .cases t
variable{Q:Bool->Shared->Prop}{b:Bool}
section
variable{prog:Program}{w:World}{A:Around}{E:Value->Shared->Prop}{s:Shared}
theorem Fl{a c:Int}{t u:Tok}(h:Q (decide (a<c)) s):wpAny (model prog w) A (oneLt' b (.int a t) (.int c u)) Q E s:=by
 cases b
 .rw[oneLt'_eq];simp only[UM,if_false];refine RM (HT.v7 A s a t c u prog w _ _ ?_);exact Vs h
 .exact oneLt_int h
theorem Hk{x y:Value}{ms:List Int}(hx:TI s.heap x ns)(hy:TI s.heap y ms)(h:Q (HT.lexLt ns ms) s):wpAny (model prog w) A (keyLt' (tuples' b) x y) Q E s:=by
 unfold keyLt';walk_at "u8";dsimp only;obtain⟨a,i,rfl,⟨o,h1,_,n,h2⟩,h3,_⟩:=hx;obtain⟨c,j,rfl,⟨p,g1,_,m,g2⟩,g3,_⟩:=hy;refine RM (Yy h1 h2 (RM (Yy g1 g2 ?_)));have z1:i.size=ns.length:=by rw[<- h3.length];simp
 have z2:j.size=ms.length:=by rw[<- g3.length];simp
 refine RM (UU (wpAny_forIn_list _ (λrest z s'=>z=(none,())/\s'=s/\∃ (vs ws:List Value) (QQ QP:List Int) (k:Nat),rest=(vs.zip ws).zipIdx k/\IntsAre vs QQ/\IntsAre ws QP ∧
   QQ.length+ms.length=QP.length+ns.length/\HT.lexLt QQ QP=HT.lexLt ns ms) (λz s'=>s'=s/\(z.1=some (HT.lexLt ns ms)\/z.1=none/\decide (i.size<j.size)=HT.lexLt ns ms)) ?_ ?_ _ _
   ⟨rfl,rfl,i.toList,j.toList,ns,ms,0,rfl,h3,g3,Yt _ _,rfl⟩) (λz s' q=>?_) λ_ _ q=>q)
 .rintro⟨⟨p,q⟩,k'⟩ rest z s' ⟨rfl,rfl,vs,ws,QQ,QP,k,e,i1,i2,hl,hx⟩;cases i1 with
  | nil=>rw[WM] at e;cases e
  | cons a t i1 =>
   cases i2 with
   | nil=>rw[Zn] at e;cases e
   | cons c u i2 =>
    rw[Uw,VB] at e;injection e with e er
    injection e with e ek
    injection e with e1 e2
    subst e1 e2;rw[HT.dJ] at hx;simp only[T5] at hl;obtain⟨v,hv,QZ⟩:=HT.vB A s' a t c u;refine RM (hv prog w _ _ ?_);cases v with
    | true =>
     rw[if_pos (QZ.mp rfl)] at hx;exact SY ⟨rfl,rfl,_,_,_,_,_,er,i1,i2,by lia,hx⟩
    | false =>
     rw[if_neg (λq=>Uh (QZ.mpr q))] at hx;exact RM (Fl (SY ⟨rfl,.inl (congrArg some hx)⟩))
 .rintro z s' ⟨rfl,rfl,vs,ws,QQ,QP,k,e,i1,i2,hl,hx⟩;refine⟨rfl,.inr ⟨rfl,?_⟩⟩;rw[z1,z2,<- hx];cases i1 with
  | nil =>
   cases i2 with
   | nil=>exact decide_eq_false (by simp only[V_] at hl;lia)
   | cons _ _ i2=>exact decide_eq_true (by simp only[V_,T5] at hl;lia)
  | cons _ _ i1 =>
   cases i2 with
   | nil=>exact decide_eq_false (by simp only[V_,T5] at hl;lia)
   | cons _ _ i2=>rw[Uw,VB] at e;cases e
 .obtain⟨rfl,q | ⟨q,q'⟩⟩:=q
  .rw[q];exact SY h
  .rw[q];dsimp only;rw[q'];exact SY h
theorem GB:lp prog w A s (kt s.heap) (tuples' b):=⟨λ_ _ _ _ _ _ hx hy h=>Hk (Gi hx) (Gi hy) h⟩
theorem wp_map{α β:Type}{f:α->Sem β}{R:α->β->Prop}:∀ (l:List α) {Q:List β->Shared->Prop},(∀ v∈l,∀ (Q':β->Shared->Prop),(∀ r,R v r->Q' r s)->wpAny (model prog w) A (f v) Q' E s) ->
  (∀ rs,(∀ r∈rs,∃ v∈l,R v r)->rs.length=l.length->Q rs s)->wpAny (model prog w) A (l.mapM f) Q E s
 | [],_,_,h=>by rw[List.mapM_nil];exact SY (h [] (λ_ q=>nomatch q) rfl)
 | x::l,Q,hf,h=>by
  rw[List.mapM_cons];refine RM (hf x (.head _) _ λr hr=>RM (wp_map l (R:=R) (λv hv=>hf v (.tail _ hv)) λrs hrs hl=>SY (h _ (λr' q=>?_) (by simp[hl]))));rcases Tt.mp q with rfl | q
  .exact⟨x,.head _,hr⟩
  .obtain⟨v,hv,q⟩:=hrs r' q;exact⟨v,.tail _ hv,q⟩
theorem GN{vs:List Value}{Q:SortKind->Shared->Prop}(hv:∀ v∈vs,∃ ns,TI s.heap v ns)(h:∀ b,Q (tuples' b) s):wpAny (model prog w) A (keyKind' vs.toArray) Q E s:=by
 rw[keyKind'_eq,ZK,map_eq_pure_bind];refine RM (RM (wp_map (R:=λ_ r=>∃ n t,r=some (XD n t)) _ (λv Rt Q' q=>?_) λrs hrs _=>SY ?_))
 .obtain⟨ns,a,i,rfl,⟨o,h1,hc,n,h2⟩,h3,h4⟩:=hv v Rt;rw[PySem.W.kas_first_eq];refine RM (Yq (T := "tuple") ⟨o,h1,hc⟩ ?_);rw[if_neg (by rw[bne_self_eq_false'];exact Uh)];refine RM (Yy h1 h2 (SY (q _ ?_)));generalize hi:i.toList=l at h3;cases h3 with
  | nil=>exact absurd rfl h4
  | cons n t _=>exact⟨n,t,by rw[<- Ug,hi];rfl⟩
 .rw[if_pos (by
   simp only[List.all_toArray,UB];intro r hr;obtain⟨_,_,n,t,rfl⟩:=hrs r hr;rfl)]
  refine RM (Vd ?_);rw[oneTypeOnly'_eq,List.filterMap_toArray,ZK,map_eq_pure_bind];refine RM (RM (RM (wp_map (R:=λ_ _=>True) _ (λv Rt Q' q=>?_) λrs' _ _=>SY ?_)))
  .obtain⟨x,hx,e⟩:=XH.mp Rt;obtain⟨_,_,n,t,rfl⟩:=hrs x hx;cases e;exact SY (q _ trivial)
  .split
   .exact SY (SY (h _))
   .exact SY (SY (h _))
end
end Srt
namespace Srt
open PySem PyProof.Rows
theorem pA(vs:List Value):(pairsOf vs).toList=vs.map λv=>(v,v):=by
 unfold pairsOf;simp only[List.zip_toArray,List.toList_toArray]
 induction vs with
 | nil=>rfl
 | cons v vs ih=>rw[Uw,ih];rfl
def Up(h:Heap)(l:List Value):Prop:=l.Pairwise λv w=>∀ ns ms,TI h v ns->TI h w ms->HT.lexLt ms ns=false
variable{vs:List Value}
theorem JC{h:Heap}{xs:Array Keyed}(hp:xs.Perm (pairsOf vs))(hs:SI (kt h) xs 0 xs.size):(xs.map (·.2)).toList.Perm vs/\Up h (xs.map (·.2)).toList:=by
 have hp:=VI.mp hp;rw[pA] at hp;have hm:∀ p∈xs.toList,p.1=p.2:=λp Rk=>by
  obtain⟨v,_,rfl⟩:=T_.mp (hp.mem_iff.mp Rk);rfl
 rw[Array.toList_map];constructor
 .have:=hp.map (·.2);rw[TY] at this;refine this.trans ?_;rw[show ((λx:Value×Value=>x.2)∘λv=>(v,v))=id from rfl,Xg]
 .unfold Up;rw[WS];have hw:=hs.pw (i:=0) (j:=xs.size) (S9 _) (SX _);rw[Array.extract_size] at hw;refine V2 (λ{p q} h1 h2 hpq ns ms t1 t2=>?_) hw;rw[<- hm p h1] at t1;rw[<- hm q h2] at t2;have:HT.lexLt (ky (kt h) q) (ky (kt h) p)=false:=hpq;rw[show ky (kt h) q=ms from by unfold ky;rw[CZ t2];rfl,show ky (kt h) p=ns from by unfold ky;rw[CZ t1];rfl] at this;exact this
theorem TI.keep{h h':Heap}{v:Value}{ns:List Int}(k:∀ b o,h.get? b=some o->o.cls=.type "tuple" -> h'.get? b=some o)(t:TI h v ns):TI h' v ns:=by
 obtain⟨a,i,e,⟨o,h1,hc,n,h2⟩,r⟩:=t;exact⟨a,i,e,⟨o,k a o h1 hc,hc,n,h2⟩,r⟩
section
variable{prog:Program}{w:World}{A:Around}{E:Value->Shared->Prop}{s:Shared}
theorem Fu{a:Addr}{n:Nat}{P:PySem.Fin->Shared->Prop}(ho:s.heap.get? a=some (seqObj "list" vs.toArray n))(hv:∀ v∈vs,∃ ns,TI s.heap v ns)(hz:vs.length<=sizeLine)
  (h:∀ out:Array Value,out.toList.Perm vs->Up s.heap out.toList->P (.done (.ret .none)) { s with heap:=sortedHeap s.heap a vs out }) :
  wpAny (model prog w) A (Builtin.«list.sort» ⟨[.ref a],[]⟩) P E s:=by
 rw[list_sort_plain];have la:a<s.heap.objs.size:=S7 ho;have Pd:vs.toArray.size=vs.length:=Tc;refine RM (Yy ho rfl (RM (Zg ho rfl ?_ (by rw[Pd];exact hz))));obtain⟨e1,o1⟩:∃ e,(s.heap.update a (VX λ_=>#[])).get? a=some (seqObj "list" #[] e):=⟨_,get?_update_seq ho _⟩
 refine RM (Z5 o1 rfl (RM (YX (RM (wpAny_newList (U0 ?_))))));show wpAny (model prog w) A _ P E { s with heap:=((s.heap.update a (VX λ_=>#[])).push (seqObj "tuple" vs.toArray 0)).push (seqObj "list" #[] 0) };generalize hh6:((s.heap.update a (VX λ_=>#[])).push (seqObj "tuple" vs.toArray 0)).push (seqObj "list" #[] 0)=h6;have o6:h6.get? a=some (seqObj "list" #[] e1):=by rw[<- hh6];exact SQ _ (SQ _ o1)
 have k6:∀ b o,s.heap.get? b=some o->o.cls=.type "tuple" -> h6.get? b=some o:=λb o e c=>by
  rw[<- hh6];refine SQ _ (SQ _ ((Uk _ _ (λz=>?_)).trans e));subst z;rw[ho] at e;cases e;exact absurd c (by simp)
 have hv6:∀ v∈vs,∃ ns,TI h6 v ns:=λv q=>(hv v q).imp λns t=>t.keep k6;have end_:∀ st:SortSt,(arrOf st).Perm (pairsOf vs)->SI (kt h6) (arrOf st) 0 (arrOf st).size->P (.done (.ret .none)) { s with heap:=sortedHeap s.heap a vs ((arrOf st).map (·.2)) }:=λst p q=>by
  obtain⟨r1,r2⟩:=JC p q;refine h _ r1 (X7 (λ{v w} q ns ms t1 t2=>q ns ms (t1.keep k6) (t2.keep k6)) r2)
 dsimp only
 by_cases h2:vs.toArray.size<2
 .rw[if_pos h2,if_pos h2];refine RM (SY ?_);rw[StateT.run_pure];refine RM (SY ?_);dsimp only;refine RM (Z5 o6 rfl (RM (Zg o6 rfl ?_ (S9 _) (by
   rw[aae];show (pairsOf vs).size<=_;rw[Yz];exact ZL hz))))
  simp only[bne_self_eq_false,UM,if_false];refine SY ?_;rw[<- hh6] at end_ ⊢;exact end_ (SortSt.mk' general' (vs.toArray.zip vs.toArray) #[] 7 none) (aab _) (λi j x y i1 i2 i3 ex ey=>by
   have:i=j:=by
    have:(pairsOf vs).size=vs.length:=Yz vs;have i3:j<(pairsOf vs).size:=i3;lia
   subst this;rw[ex] at ey;cases ey;exact le_refl _)
 .rw[if_neg h2,if_neg h2];refine RM (GN hv6 λb=>?_);refine RM (UU (G7 (s:={ s with heap:=h6 }) (κ:=kt h6) (k:=tuples' b) (a0:=pairsOf vs) (st:=SortSt.mk' (tuples' b) (vs.toArray.zip vs.toArray) #[] 7 none)
   (Q:=λ_ st=>failedOf st=none/\(arrOf st).Perm (pairsOf vs)/\SI (kt h6) (arrOf st) 0 (pairsOf vs).size) GB (λp hp=>?_) ⟨rfl,aab _,rfl⟩ rfl (by rw[Yz];lia)
   λst o q=>⟨o.fail,o.perm,q⟩) (λr s' q=>?_) λ_ _ e=>e)
  .rw[pA] at hp;obtain⟨v,q,rfl⟩:=T_.mp hp;obtain⟨ns,t⟩:=hv6 v q;exact⟨ns,CZ t⟩
  .obtain⟨⟨⟩,st⟩:=r;obtain⟨rfl,f,p,q⟩:=q;dsimp only;refine RM (Z5 o6 rfl (RM (Zg o6 rfl ?_ (S9 _) (by
    refine TJ (Yp ((aae ..).trans (p.size_eq.trans (Yz _)))) ?_;exact ZL hz))))
   rw[show failedOf st=none from f];simp only[bne_self_eq_false,UM,if_false];refine SY ?_;rw[<- p.size_eq] at q;rw[<- hh6] at end_ q ⊢;exact end_ st p q
theorem Cv{l:Addr}{Q:Value->Shared->Prop}(hl:s.heap.IsList l vs.toArray)(hv:∀ v∈vs,∃ ns,TI s.heap v ns)(hz:vs.length<=sizeLine)
  (h:∀ out:Array Value,out.toList.Perm vs->Up s.heap out.toList->Q (.ref (s.heap.objs.size+1)) { s with heap:=sortedAll s.heap vs out }) :
  wpAny (model prog w) A (call (.builtin "sorted") [.ref l]) Q E s:=by
 refine Calls.call_function_entry kind_sorted plain_sorted entry_sorted (args_sorted1 _) ?_;unfold Builtin.«sorted»;refine RM (m:=checkCount "sorted" 1 1 _) (SY (RM (collect_list hl (RM (wpAny_newList ?_)) hz)));have z:((s.heap.push (seqObj "list" #[] 0)).update s.heap.objs.size (VX (·++vs.toArray))).objs.size=s.heap.objs.size+1:=(Heap.size_update ..).trans (size_push' ..);generalize hg:((s.heap.push (seqObj "list" #[] 0)).update s.heap.objs.size (VX (·++vs.toArray))).push (seqObj "list" vs.toArray 0)=g;have og:g.get? (s.heap.objs.size+1)=some (seqObj "list" vs.toArray 0):=by rw[<- hg,<- z];exact S2 _ rfl
 have kg:∀ b o,s.heap.get? b=some o->g.get? b=some o:=λb o e=>by
  rw[<- hg];exact SQ _ ((Uk _ _ (Vk (S7 e))).trans (SQ _ e))
 show wpAny _ _ _ _ _ { s with heap:=g };rw[z];refine RM (U0 (UQ slot_list_sort ⟨_,og,rfl⟩ entry_list_sort (Fu (s:={ s with heap:=g }) og (λv q=>(hv v q).imp λns t=>t.keep λb o e _=>kg b o e) hz λout p q=>⟨_,rfl,?_⟩) (args_list_sort _)));refine SY ⟨_,rfl,?_⟩;have:=h out p (X7 (λ{v w} q ns ms t1 t2=>q ns ms (t1.keep λb o e _=>kg b o e) (t2.keep λb o e _=>kg b o e)) q);unfold sortedAll at this;rw[hg] at this;exact this
end
end Srt
namespace L2
open PySem PySem.Spec PyProof.Rows
variable{x:Str}{f:af->M PV}{X:Cx}
section
variable{E:XK}{e:Expr}{pos:Pos}{i:Nat}
def Bf(i:Nat)(f:af->M PV):af->M Out:=λenv=>match env[i]? with
 | some (some (.ow xs))=>(f env).bind λp=>match p with
  | .lst ys=>if xs.length+ys.length<=sizeLine then M.ok (.nx (env.set i (some (.ow (xs++ys))))) else none
  | _=>none
 | _=>none
theorem yV{apos Oo px:Pos}(hi:X.N[i]?=some x)(hv:BQ X.env.scope x)(he:PE X e (tE (λ_=>E) f))(hd:autoParam ((x==("__debug__" : Str))=false) aD._auto_1)(Pc:autoParam ((x==("__classdict__" : Str))=false) aD._auto_1)
  (Qf:autoParam (attributeBase (.Name x px) "extend" X.env (eval (.Name x px) X.env)=eval (.Name x px) X.env) aR._auto_1)
  (QX:autoParam (((backTo Oo (starEach [e] X.env)).all (λx=>!x.1)&&(backToKw Oo (keywordEach [] X.env)).all (λx=>x.1.isSome)
   && decide (([e]:List Expr).length+([]:List Keyword).length+(if ([]:List Keyword).isEmpty then 0 else 1)<30))=true) aR._auto_1)
  (Qg:autoParam ((apos.endLine==Oo.line)=true) aR._auto_1) (Oz:autoParam (starEach [e] X.env=(false,eval e X.env)::starEach [] X.env) aR._auto_1) (PM:autoParam ((backTo Oo (starEach [] X.env)).any (·.1)=false) aR._auto_1)
  (hs:autoParam (swapsWith (.Call (.Attribute (.Name x px) "extend" apos) [e] [] Oo) none pos.line X.env=pure false) aR._auto_1) :
  PS X (.Expr (.Call (.Attribute (.Name x px) "extend" apos) [e] [] Oo) pos) (tS E (Bf i f)):=by
 refine(tH (FT PySem.F.plainAttrs_list PySem.F.slot_list_extend PySem.F.type_list_extend zS (kZ hi hv hd Pc) (fI he kW Oz) Qf QX Qg Oz PM) hs).imp λD σ H q=>?_;obtain⟨B,H₀,Hs,env,sr,q⟩:=q;unfold Bf at q
 split at q
 .rename_i xs ex;obtain⟨a,vs,h1,h2,h3,h4,h5⟩:=sr.ow i xs ex;refine⟨.ref a,h1,.inl ⟨rfl,vs,iB.of h2⟩,B,H₀,Hs,env,sr,(az.bind q).imp (λp hp v Oa H' g r=>?_) λe he=>he.grow sr.gr⟩
  split at hp
  .rename_i ys
   by_cases hz:xs.length+ys.length<=sizeLine
   .rw[if_pos hz] at hp;have PL:=sr.grow g;cases r with
    | lst hb r =>
     have r5:=(h5.mono g.st).append r;exact⟨a,_,vs,_,rfl,rfl,g.al _ _ h2,g.sub _ _ hb,by rw[<- h5.length,<- r.length];exact hz,hp σ Oa _ (PL.put ex h1 r5)⟩
   .rw[if_neg hz] at hp;exact hp.elim
  .exact hp.elim
 .exact q.elim
end
def Gh(K:PySem.W.Frag):List V->Hp->VK->Prop:=λxs H Q=>∃ (l:Addr) (as:List Addr),xs=[.ref l]/\iB K H l (as.map V.ref)/\(∀ a∈as,∃ ns:List Int,H a=some (.tup (ns.map V.int))/\ns≠[]) ∧
 ∀ (p:Addr) (bs:List Addr),H p=none->bs.Perm as->(bs.Pairwise λa b=>∀ ns ms:List Int,H a=some (.tup (ns.map V.int))->H b=some (.tup (ms.map V.int))->HT.lexLt ms ns=false)->Q (.ref p) (upd H p (.lst (bs.map V.ref)))
def adr:Value->Addr
 | .ref a=>a
 | _=>default
theorem rO:∀ {as:List Addr} {us:List Value},Vals (as.map V.ref) us->us=as.map Td
 | [],_,.nil=>rfl
 | _::_,_,.cons h t=>by cases h;rw[rO t];rfl
theorem r_:∀ (as:List Addr),Vals (as.map V.ref) (as.map Td)
 | []=>.nil
 | _::as=>.cons rfl (r_ as)
theorem zi:dw X (.builtin "sorted") (Gh X.K):=by
 intro N5 s σ H xs us Q I r h;obtain⟨l,as,rfl,hq,hn,q⟩:=h;obtain⟨u,rfl,rx⟩:=vals1 r;cases rx;obtain⟨N9,r',pl,hz⟩:=I.list hq;have hus:=rO r';subst hus;have tu:∀ (a:Addr) (ns:List Int),H a=some (.tup (ns.map V.int))->ns≠[]->Srt.TI s.heap (.ref a) ns:=λa ns e ne=>by
  obtain⟨N9,r1,p1,_⟩:=I.tuple (gi.of e);exact⟨a,_,rfl,p1,intsAre_of r1,ne⟩
 refine Srt.Cv pl.isList (λv hv=>?_) (by rw[S0] at hz ⊢;exact hz) λout p up=>?_
 .obtain⟨a,ha,rfl⟩:=T_.mp hv;obtain⟨ns,e,ne⟩:=hn a ha;exact⟨ns,tu a ns e ne⟩
 .have pa:(out.toList.map adr).Perm as:=by
   have:=p.map adr
   rwa [TY,show adr∘Td=id from rfl,Xg] at this
  have eo:out.toList=(out.toList.map adr).map Td:=by
   rw[TY];refine(Xg _).symm.trans (WA λv hv=>?_);obtain⟨a,_,rfl⟩:=T_.mp (p.mem_iff.mp hv);rfl
  obtain⟨c,e⟩:=sortedAll_at s.heap (as.map Td) out;have hl:(out.toList.map adr).length=as.length:=pa.length_eq;refine⟨.ref (s.heap.objs.size+1),_,I.laid (t':=s.toks) (λb o e=>sortedAll_old e) (Wh _) (show b_ X.prog X.w _ _ _ (.lst ((out.toList.map adr).map V.ref)) from
   ⟨by rw[S0,hl];rw[S0] at hz;exact hz,(out.toList.map adr).map Td,c,r_ _,by rw[<- eo];exact e⟩),rfl,q _ _ (I.bB.fresh (Wh _)) pa ?_⟩
  rw[eo] at up;have up:=WS.mp up;refine V2 (λ{a b} ha hb up ns ms e1 e2=>?_) up;have ne:∀ a∈out.toList.map adr,∀ ns:List Int,H a=some (.tup (ns.map V.int))->ns≠[]:=λa ha ns e=>by
   obtain⟨ms,e',ne⟩:=hn a (pa.mem_iff.mp ha);rw[e] at e';rintro rfl;cases ms with
   | nil=>exact ne rfl
   | cons _ _=>cases e'
  exact up ns ms (tu _ _ e1 (ne a ha ns e1)) (tu _ _ e2 (ne b hb ms e2))
def sA:List PV->Option (List (List Int))
 | []=>some []
 | p::ps=>match pd p,sA ps with
  | some (n::ns),some ks=>some ((n::ns)::ks)
  | _,_=>none
def iE(ks:List (List Int)):List (List Int):=ks.mergeSort λa b=>!HT.lexLt b a
def yA:List PV->M PV
 | [.lst xs]=>match sA xs with
  | some ks=>M.ok (.lst ((iE ks).map λns=>.tup (ns.map PV.int)))
  | _=>none
 | _=>none
theorem BO(a b c:List Int):(!HT.lexLt b a)=true->(!HT.lexLt c b)=true->(!HT.lexLt c a)=true:=by
 intro h1 h2;cases h:HT.lexLt c a
 .rfl
 .rcases Srt.xr c b a h with q | q
  .rw[q] at h2;exact h2
  .rw[q] at h1;exact h1
theorem BP(a b:List Int):((!HT.lexLt b a)||(!HT.lexLt a b))=true:=by
 cases h:HT.lexLt b a
 .rfl
 .cases h':HT.lexLt a b
  .rfl
  .have:=Srt.Cs _ _ _ h h';rw[Srt.wD] at this;cases this
theorem j8(ks:List (List Int)):(iE ks).Perm ks:=List.mergeSort_perm _ _
theorem sC(ks:List (List Int)):(iE ks).Pairwise λa b=>HT.lexLt b a=false :=
 X7 (λ{a b} h=>by simpa using h) (List.pairwise_mergeSort BO BP ks)
theorem Cf:∀ {l l':List (List Int)},l.Perm l'->(l.Pairwise λa b=>HT.lexLt b a=false)->(l'.Pairwise λa b=>HT.lexLt b a=false)->l=l'
 | [],_,p,_,_=>p.nil_eq
 | x::l,[],p,_,_=>absurd p.length_eq (by simp)
 | x::l,y::l',p,h,h'=>by
  rw[List.pairwise_cons] at h h';have e:x=y:=by
   rcases Tt.mp (p.mem_iff.mp (.head _)) with e | e
   .exact e
   .rcases Tt.mp (p.symm.mem_iff.mp (.head _)) with e' | e'
    .exact e'.symm
    .exact Srt.tQ _ _ (h'.1 x e) (h.1 y e')
  subst e;rw[Cf p.cons_inv h.2 h'.2]
theorem rP{Hs:Hp}:∀ {xs:List PV} {vs:List V} {ks:List (List Int)},aP Hs xs vs->sA xs=some ks->∃ as:List Addr,vs=as.map V.ref/\as.length=ks.length/\(∀ a k,(a,k)∈as.zip ks->Hs a=some (.tup (k.map V.int))/\k≠[])
 | _,_,_,.nil,e=>by cases e;exact⟨[],rfl,rfl,λ_ _ h=>nomatch h⟩
 | _,_,_,.cons (p:=p) (ps:=ps) h t,e=>by
  unfold sA at e
  split at e
  .rename_i n ns ks h1 h2;cases e;obtain⟨a,rfl,ea⟩:=mr h h1;obtain⟨as,rfl,hl,hk⟩:=rP t h2;refine⟨a::as,rfl,by simp[hl],λb k q=>?_⟩;rw[Uw] at q;rcases Tt.mp q with e | q
   .cases e;exact⟨ea,List.cons_ne_nil _ _⟩
   .exact hk b k q
  .cases e
theorem rC{Hs:Hp}:∀ {as:List Addr} {ks:List (List Int)},as.length=ks.length->(∀ a k,(a,k)∈as.zip ks->Hs a=some (.tup (k.map V.int)))->aP Hs (ks.map λns=>.tup (ns.map PV.int)) (as.map V.ref)
 | [],[],_,_=>.nil
 | a::as,k::ks,hl,h=>.cons (.tup (h a k (.head _)) (repL_ints _ k)) (rC (by simpa using hl) λb m q=>h b m (.tail _ q))
where repL_ints (Hs:Hp):∀ ns:List Int,aP Hs (ns.map PV.int) (ns.map V.int)
 | []=>.nil
 | n::ns=>.cons (.int n) (repL_ints Hs ns)
def C1:List V->List Int
 | .int i::t=>i::C1 t
 | _=>[]
theorem sx:∀ ns:List Int,C1 (ns.map V.int)=ns
 | []=>rfl
 | n::ns=>congrArg (n::·) (sx ns)
def A5(H:Hp)(a:Addr):List Int:=match H a with
 | some (.tup vs)=>C1 vs
 | _=>[]
theorem yd{H:Hp}{a:Addr}{ns:List Int}(h:H a=some (.tup (ns.map V.int))):A5 H a=ns:=by
 unfold A5;rw[h];exact sx ns
theorem keys_map{H:Hp}:∀ {as:List Addr} {ks:List (List Int)},as.length=ks.length->(∀ a k,(a,k)∈as.zip ks->H a=some (.tup (k.map V.int))/\k≠[])->as.map (A5 H)=ks
 | [],[],_,_=>rfl
 | a::as,k::ks,hl,h=>by rw[Tw,yd (h a k (.head _)).1,keys_map (by simpa using hl) λb m q=>h b m (.tail _ q)]
variable{E:St->XK}
theorem Eb{K:PySem.W.Frag}:kM E (Gh K) yA:=by
 intro σ Hs H ps vs Q s r h;unfold yA at h
 split at h
 .rename_i xs;obtain⟨v,rfl,rp⟩:=r.one
  split at h
  .rename_i ks hk;cases rp with
   | lst hl rl =>
    obtain⟨as,rfl,hlen,hz⟩:=rP rl hk;refine⟨_,as,rfl,iB.of (s _ _ hl),λa ha=>?_,λp bs np pb up=>?_⟩
    .obtain⟨i,hi,rfl⟩:=S8.mp ha;have:=hz as[i] (ks[i]'(by lia)) (S8.mpr ⟨i,by simp;lia,by simp⟩);exact⟨_,s _ _ this.1,this.2⟩
    .have ka:∀ a∈as,∃ ns:List Int,Hs a=some (.tup (ns.map V.int)):=λa ha=>by
      obtain⟨i,hi,rfl⟩:=S8.mp ha;exact⟨_,(hz as[i] (ks[i]'(by lia)) (S8.mpr ⟨i,by simp;lia,by simp⟩)).1⟩
     have kb:∀ b∈bs,Hs b=some (.tup ((A5 Hs b).map V.int)):=λb hb=>by
      obtain⟨ns,e⟩:=ka b (pb.mem_iff.mp hb);rw[yd e];exact e
     have e:bs.map (A5 Hs)=iE ks:=by
      refine Cf ((pb.map _).trans ?_) ?_ (sC ks)
      .rw[keys_map hlen hz];exact(j8 ks).symm
      .rw[WS];exact V2 (λ{a b} ha hb q=>q _ _ (s _ _ (kb a ha)) (s _ _ (kb b hb))) up
     refine eD.lst h s ?_ p np;rw[<- e];refine rC (by simp) λa k q=>?_;obtain⟨i,hi,q⟩:=S8.mp q;rw[VC,V4] at q;cases q;exact kb _ (T6 _)
  .exact h.elim
 .exact h.elim
def J7(p q:PV):M PV:=match pd p,pd q with
 | some ns,some ms=>M.ok (.bl (HT.lexLt ns ms))
 | _,_=>none
theorem Fh(hu:X.A.units+64<cLine):hV X (compareOp .Lt) (HU X.K):=G5 (by lia)
theorem IB{K:PySem.W.Frag}:mB E (HU K) J7:=by
 intro σ Hs H p q v u Q s rp rq h;unfold J7 at h
 split at h
 .rename_i ns ms h1 h2;obtain⟨a,rfl,ea⟩:=mr rp h1;obtain⟨b,rfl,eb⟩:=mr rq h2;exact⟨a,b,ns,ms,rfl,rfl,gi.of (s _ _ ea),gi.of (s _ _ eb),eD.flat h s (.bl _)⟩
 .exact h.elim
theorem zk:bootBuiltins "sorted" = some (.builtin "sorted"):=by decide +kernel
variable{α β:Type}
variable{x0:Option SV}
variable{p:PV}
variable{b:af->M Out}{u:af->M Bool}
variable{k:Nat}{i:Int}
variable{j:Int}
variable{xs:List PV}
variable{body:af->M Out}
variable{n:Nat}
section
open PySem.SeqAt (shaped noMix noMixAll)
theorem M.aM(a:α)(f:α->M β):M.bind (M.ok a) f=f a:=T7 rfl rfl
theorem M.BM(e:EX)(f:α->M β):M.bind (some (Except.error e)) f=some (.error e):=T7 rfl rfl
theorem M.bind_none(f:α->M β):M.bind none f=none:=T7 rfl rfl
theorem M.bind_some(a:α)(f:α->M β):M.bind (some (Except.ok a)) f=f a:=T7 rfl rfl
theorem M.bind_assoc{γ:Type}(x:M α)(f:α->M β)(g:β->M γ):M.bind (M.bind x f) g=M.bind x λa=>M.bind (f a) g:=by
 cases x with
 | none=>rfl
 | some x=>cases x <;> rfl
theorem av{c:Prop}[Decidable c]{x:M α}(h:c):cM c x=x:=if_pos h
theorem G3(a:α):Ap (M.ok a)=M.ok a:=T7 rfl rfl
theorem zQ(x:PV):eZ (some x)=M.ok x:=T7 rfl rfl
theorem vK(g:af->M Out)(env:af):CW g (.nx env)=g env:=T7 rfl rfl
theorem uY(g:af->M Out)(p:PV):CW g (.rt p)=M.ok (.rt p):=T7 rfl rfl
theorem E_(b:Bool):xw (.bl b)=M.ok b:=T7 rfl rfl
theorem DZ(p:PV):Ie (.rt p)=M.ok p:=T7 rfl rfl
theorem DS(e:af):Ie (.nx e)=M.ok .cJ:=T7 rfl rfl
def tI(xs:List Int):PV:=.tup (xs.map PV.int)
def lI(xs:List Int):PV:=.lst (xs.map PV.int)
theorem EB(xs:List Int):bO (tI xs)=some (xs.map PV.int):=T7 rfl rfl
theorem ER(xs:List Int):bO (lI xs)=some (xs.map PV.int):=T7 rfl rfl
theorem Be(xs:List PV):bO (.tup xs)=some xs:=T7 rfl rfl
theorem pD(xs:List PV):bO (.lst xs)=some xs:=T7 rfl rfl
theorem AB(xs:List PV):bO (.jV xs)=some xs:=T7 rfl rfl
theorem E9(xs:List Int):ue (tI xs)=M.ok (.int xs.length):=by simp[ue,tI,bO,eZ]
theorem DV(xs:List Int):ue (lI xs)=M.ok (.int xs.length):=by simp[ue,lI,bO,eZ]
theorem Bw(xs:List PV):ue (.tup xs)=M.ok (.int xs.length):=T7 rfl rfl
theorem BD(xs:List PV):ue (.lst xs)=M.ok (.int xs.length):=T7 rfl rfl
theorem Ca(xs:List PV):ue (.jV xs)=M.ok (.int xs.length):=T7 rfl rfl
theorem v5(xs:List Int):wb [.lst (xs.map PV.int)]=M.ok (.int xs.sum):=by simp[wb,Ld,iY,eZ]
theorem vh(xs:List Bool):vZ [.lst (xs.map PV.bl)]=M.ok (.bl (xs.all id)):=by simp[vZ,all1,u5,eZ]
theorem gj{inj h:α->PV}{rest:af}(xs:List α)(H:∀ a∈xs,f (some (.sh (inj a))::rest)=M.ok (h a)):bG (bJ 0) none f (xs.map inj) (x0::rest)=M.ok (xs.map h):=by
 induction xs generalizing x0 with
 | nil=>rfl
 | cons a r ih =>
  rw[Tw,bG];show M.bind (M.ok ((x0::rest).set 0 (some (.sh (inj a))))) _=_;rw[M.aM,Vg];show M.bind (f _) _=_;rw[H a Tp,M.aM,ih λb hb=>H b (Tf _ hb)];rfl
theorem jt{p q h:α->PV}{rest:af}{x1:Option SV}(xs:List α)(H:∀ a∈xs,f (some (.sh (p a))::some (.sh (q a))::rest)=M.ok (h a)):bG (cn 0 1) none f (xs.map λa=>.tup [p a,q a]) (x0::x1::rest)=M.ok (xs.map h):=by
 induction xs generalizing x0 x1 with
 | nil=>rfl
 | cons a r ih =>
  rw[Tw,bG];show M.bind (M.ok (((x0::x1::rest).set 0 (some (.sh (p a)))).set 1 (some (.sh (q a))))) _=_;rw[M.aM,Vg,WH,Vg];show M.bind (f _) _=_;rw[H a Tp,M.aM,ih λb hb=>H b (Tf _ hb)];rfl
theorem AO{p q s h:α->PV}{rest:af}{x1 x2:Option SV}(xs:List α)(H:∀ a∈xs,f (some (.sh (p a))::some (.sh (q a))::some (.sh (s a))::rest)=M.ok (h a)):bG (jS 0 1 2) none f (xs.map λa=>.tup [p a,q a,s a]) (x0::x1::x2::rest)=M.ok (xs.map h):=by
 induction xs generalizing x0 x1 x2 with
 | nil=>rfl
 | cons a r ih =>
  rw[Tw,bG];show M.bind (M.ok ((((x0::x1::x2::rest).set 0 (some (.sh (p a)))).set 1 (some (.sh (q a)))).set 2 (some (.sh (s a))))) _=_;rw[M.aM,Vg,WH,Vg,WH,WH,Vg];show M.bind (f _) _=_;rw[H a Tp,M.aM,ih λb hb=>H b (Tf _ hb)];rfl
theorem f9{f:α->PV}{g:β->PV}{q:PV}(xs:List α)(ys:List β)(hp:bO p=some (xs.map f))(hq:bO q=some (ys.map g)):zip2 [p,q]=M.ok ((xs.zip ys).map λz=>.tup [f z.1,g z.2]):=by
 simp only[zip2,hp,hq];congr 2;rw[List.zipWith_map,List.zip_eq_zipWith,List.map_zipWith]
theorem oY{γ:Type}{f:α->PV}{g:β->PV}{h:γ->PV}{q r:PV}(xs:List α)(ys:List β)(zs:List γ)(hp:bO p=some (xs.map f))(hq:bO q=some (ys.map g))(hr:bO r=some (zs.map h)):rj [p,q,r]=M.ok ((xs.zip (ys.zip zs)).map λz=>.tup [f z.1,g z.2.1,h z.2.2]):=by
 simp only[rj,hp,hq,hr];congr 2;clear hp hq hr
 induction xs generalizing ys zs with
 | nil=>cases ys <;> cases zs <;> rfl
 | cons a r ih =>
  cases ys with
  | nil=>rfl
  | cons b s =>
   cases zs with
   | nil=>rfl
   | cons c t=>simp only[Tw,jF,Uw,ih]
theorem zV{f:α->PV}(xs:List α):ig (xs.map f)=(xs.zipIdx).map λz=>.tup [.int (z.2:Int),f z.1]:=by
 unfold ig;rw[List.mapIdx_eq_zipIdx_map,List.zipIdx_map,TY];rfl
theorem vj{set:PV->af->M af}{body:af->M Out}{α:Type}{inj:α->PV}(J:List α->af->Prop)
  (H:∀ a r env,J (a::r) env->∃ e' N_,set (inj a) env=M.ok e'/\body e'=M.ok (.nx N_)/\J r N_):∀ (xs:List α) (env:af),J xs env->∃ N_,jR set body (xs.map inj) env=M.ok (.nx N_)/\J [] N_
 | [],env,h=>⟨env,rfl,h⟩
 | a::r,env,h=>by
  obtain⟨e',N_,h1,h2,h3⟩:=H a r env h;obtain⟨QR,h4,h5⟩:=vj J H r N_ h3;refine⟨QR,?_,h5⟩;rw[Tw,jR,h1,M.aM,h2,M.aM];exact h4
theorem sI(J:af->Prop)(m:af->Nat)
  (H:∀ env,J env->(u env=M.ok false)\/(u env=M.ok true/\∃ N_,b env=M.ok (.nx N_)/\J N_/\m N_<m env)) (env:af) (h:J env):∃ N_,kU u b env=M.ok (.nx N_)/\J N_/\u N_=M.ok false:=by
 have key:∀ (n:Nat) (env:af),J env->m env<n->∃ N_,cL u b n env=M.ok (.nx N_)/\J N_/\u N_=M.ok false:=by
  intro n
  induction n with
  | zero=>intro env _ hn;lia
  | succ n ih =>
   intro env h hn;rcases H env h with hu | ⟨hu,N_,hb,hj,hm⟩
   .exact⟨env,by rw[cL,hu,M.aM];rfl,h,hu⟩
   .obtain⟨QR,h1,h2,h3⟩:=ih N_ hj (by lia);exact⟨QR,by rw[cL,hu,M.aM,if_pos rfl,hb,M.aM];exact h1,h2,h3⟩
 obtain⟨N_,h1,h2,h3⟩:=key (m env+1) env h (Ve _);refine⟨N_,?_,h2,h3⟩;rw[yI (n:=m env+1) (by rw[h1];exact λz=>nomatch z),h1]
theorem log2_small(h:i.natAbs<2^k)(hk:k<=9000):i.natAbs.log2<67108864:=by
 by_cases z:i.natAbs=0
 .rw[z];decide
 .have:=(Z2 z).mpr h;lia
theorem bf{l:Nat}(hi:i.natAbs<2^k)(hj:j.natAbs<2^l)(hk:autoParam (k<=9000) aD._auto_1)(hl:autoParam (l<=9000) aD._auto_1):bV (.int i) (.int j)=M.ok (.int (i*j)):=by
 rw[bV,av ⟨log2_small hi hk,log2_small hj hl⟩]
theorem rV(h0:j≠0)(h:j.natAbs<2^9000):bD (.int i) (.int j)=M.ok (.int (i.fdiv j)):=by
 show cM _ _=_;refine av (decide_eq_true ⟨h0,(Z2 (by lia)).mpr h⟩)
theorem BZ(h0:j≠0):cY (.int i) (.int j)=M.ok (.int (i.fmod j)):=by
 show cM _ _=_;exact av (decide_eq_true h0)
theorem aQ(h0:0<j)(h:j<2^64):bD (.int i) (.int j)=M.ok (.int (i/j)):=by
 rw[rV (by lia) (S_ (show j.natAbs<2^64 by lia) (Uv (by decide) (by decide))),Wm _ (by lia)]
theorem aW(h0:0<j):cY (.int i) (.int j)=M.ok (.int (i%j)):=by
 rw[BZ (by lia),Int.fmod_eq_emod_of_nonneg _ (by lia)]
theorem bR{j:Nat}{x:PV}(hs:bO p=some xs)(h:xs[j]?=some x):aS p (.int (j:Int))=M.ok x:=by
 cases p with
 | tup ys=>cases hs;simp only[aS,uF h,eZ]
 | lst ys=>cases hs;simp only[aS,uF h,eZ]
 | jV ys=>cases hs;simp only[aS,uF h,eZ]
 | _=>cases hs
section
variable{b:String->Bool}{ob oe:Addr->Option Bool}
theorem GQ(xs:List Int):B7 b ob oe (tI xs)=M.ok (.bl (b "tuple")):=T7 rfl rfl
theorem Ja(xs:List Int):B7 b ob oe (lI xs)=M.ok (.bl (b "list")):=T7 rfl rfl
theorem Eo(xs:List PV):B7 b ob oe (.tup xs)=M.ok (.bl (b "tuple")):=T7 rfl rfl
theorem Es(xs:List PV):B7 b ob oe (.lst xs)=M.ok (.bl (b "list")):=T7 rfl rfl
theorem DU(i:Int):B7 b ob oe (.int i)=M.ok (.bl (b "int")):=T7 rfl rfl
theorem G1(i:Bool):B7 b ob oe (.bl i)=M.ok (.bl (b "bool")):=T7 rfl rfl
theorem D_:B7 b ob oe .cJ=M.ok (.bl (b "NoneType")):=T7 rfl rfl
theorem DM(x:Str):B7 b ob oe (.str x)=M.ok (.bl (b "str")):=T7 rfl rfl
theorem Fw:B7 b ob oe .emp=M.ok (.bl (b "dict")):=T7 rfl rfl
end
theorem EV(i j:Int):ou (.int i) (.int j)=M.ok (.bl (!decide (i=j))):=by
 simp only[ou,q_,dat,HC,shaped,VJ,V8,noMix];rw[av ⟨rfl,rfl,trivial⟩];unfold same;rw[M.aM];congr
theorem DN(i j:Int):wA (.int i) (.int j)=M.ok (.bl (decide (i=j))):=by
 simp only[wA,q_,dat,HC,shaped,VJ,V8,noMix];rw[av ⟨rfl,rfl,trivial⟩];unfold same;rw[M.aM];congr
theorem wI(i j:Bool):ou (.bl i) (.bl j)=M.ok (.bl (!decide (i=j))):=by
 simp only[ou,q_,dat,HC,shaped,VJ,V8,noMix];rw[av ⟨rfl,rfl,trivial⟩];unfold same;rw[M.aM];congr
theorem GZ(i j:Bool):wA (.bl i) (.bl j)=M.ok (.bl (decide (i=j))):=by
 simp only[wA,q_,dat,HC,shaped,VJ,V8,noMix];rw[av ⟨rfl,rfl,trivial⟩];unfold same;rw[M.aM];congr
theorem r9(xs:List Int):my (xs.map PV.int)=some (xs.map Vh):=by
 induction xs with
 | nil=>rfl
 | cons a r ih=>simp[my,dat,ih]
theorem ni(xs:List Int):WT (xs.map Vh)=true:=by
 induction xs with
 | nil=>rfl
 | cons a r ih=>simp[WT,VJ,ih]
theorem pE(xs:List Int):Xm (xs.map Vh)=0:=by
 induction xs with
 | nil=>rfl
 | cons a r ih=>simp[Xm,V8,ih]
theorem noMix_ints:∀ (xs ys:List Int),noMixAll (xs.map Vh) (ys.map Vh)=true
 | [],[]=>by simp[noMixAll]
 | [],_::_=>by simp[noMixAll]
 | _::_,[]=>by simp[noMixAll]
 | a::r,b::s=>by simp[noMixAll,noMix,noMix_ints r s]
theorem same_ints:∀ (xs ys:List Int),sameAll (xs.map Vh) (ys.map Vh)=decide (xs=ys)
 | [],[]=>by simp[sameAll]
 | [],_::_=>by simp[sameAll]
 | _::_,[]=>by simp[sameAll]
 | a::r,b::s=>by
  simp only[Tw,sameAll,same_ints r s];unfold same;rw[YJ];simp
theorem zZ(xs:List (List Int)):my (xs.map tI)=some (xs.map λr=>.tuple (r.map Vh)):=by
 induction xs with
 | nil=>rfl
 | cons a r ih=>simp[my,dat,tI,r9] at ih ⊢;simp[ih]
theorem vd(xs:List (List Int)):WT (xs.map λr=>.tuple (r.map Vh))=true:=by
 induction xs with
 | nil=>rfl
 | cons a r ih=>simp[WT,VJ,ih,ni]
theorem oC(xs:List (List Int)):Xm (xs.map λr=>.tuple (r.map Vh))<=1:=by
 induction xs with
 | nil=>exact S9 _
 | cons a r ih=>simp[Xm,V8,pE,ih]
theorem p9:∀ (xs ys:List (List Int)),noMixAll (xs.map λr=>.tuple (r.map Vh)) (ys.map λr=>.tuple (r.map Vh))=true
 | [],[]=>by simp[noMixAll]
 | [],_::_=>by simp[noMixAll]
 | _::_,[]=>by simp[noMixAll]
 | a::r,b::s=>by simp[noMixAll,noMix,noMix_ints,p9 r s]
theorem sM:∀ (xs ys:List (List Int)),sameAll (xs.map λr=>.tuple (r.map Vh)) (ys.map λr=>.tuple (r.map Vh))=decide (xs=ys)
 | [],[]=>by simp[sameAll]
 | [],_::_=>by simp[sameAll]
 | _::_,[]=>by simp[sameAll]
 | a::r,b::s=>by
  simp only[Tw,sameAll,sM r s];unfold same;rw[same_ints,YJ];simp
theorem wX(xs ys:List Int):ou (tI xs) (tI ys)=M.ok (.bl (!decide (xs=ys))):=by
 simp only[ou,q_,dat,tI,r9,aac,HC];rw[av (by simp[shaped,VJ,V8,ni,pE,noMix,noMix_ints])];unfold same;rw[same_ints];rfl
theorem Et(i j:Int):Ei (.int i) (.int j)=M.ok (.bl (decide (i<j))):=T7 rfl rfl
theorem E7(i j:Int):Ff (.int i) (.int j)=M.ok (.bl (decide (i<=j))):=T7 rfl rfl
theorem Fq(i j:Int):Am (.int i) (.int j)=M.ok (.bl (decide (j<i))):=T7 rfl rfl
theorem E5(i j:Int):JK (.int i) (.int j)=M.ok (.bl (decide (j<=i))):=T7 rfl rfl
theorem B9(i j:Int):fW (.int i) (.int j)=M.ok (.int (i+j)):=T7 rfl rfl
theorem BY(i j:Int):nV (.int i) (.int j)=M.ok (.int (i-j)):=T7 rfl rfl
theorem hU{n:Int}(h:0<=n)(h2:n<2^62):nJ [.int n]=M.ok ((Tg n.toNat).map λ(i:Nat)=>.int (i:Int)):=by
 show cM (-(2^62)<=n/\n<2^62) _=_;rw[av (by lia)];simp
theorem eK{set:PV->af->M af}{inj:α->PV}{k:Out->M β}{r:M β}(xs:List α)(J:List α->af->Prop){env:af}(h:J xs env)
  (H:∀ a r env,J (a::r) env->∃ e' N_,set (inj a) env=M.ok e'/\body e'=M.ok (.nx N_)/\J r N_) (hk:∀ N_,J [] N_->k (.nx N_)=r):M.bind (jR set body (xs.map inj) env) k=r:=by
 obtain⟨N_,e,h'⟩:=vj J H xs env h;rw[e,M.aM];exact hk N_ h'
theorem wM{k:Out->M β}{r:M β}(J:af->Prop)(m:af->Nat){env:af}(h:J env)
  (H:∀ env,J env->(u env=M.ok false)\/(u env=M.ok true/\∃ N_,b env=M.ok (.nx N_)/\J N_/\m N_<m env)) (hk:∀ N_,J N_->u N_=M.ok false->k (.nx N_)=r):M.bind (kU u b env) k=r:=by
 obtain⟨N_,e,h',h2⟩:=sI J m H env h;rw[e,M.aM];exact hk N_ h' h2
theorem aX(h:n<=1000):n<=sizeLine:=VS (mn h)
def tupK(ps:List PV):M PV:=cM (ps.length<=sizeLine) (M.ok (.tup ps))
def lstK(ps:List PV):M PV:=cM (ps.length<=sizeLine) (M.ok (.lst ps))
theorem DR(fs:af->M (List PV))(env:af):k4 fs env=(fs env).bind tupK:=rfl
theorem EO(fs:af->M (List PV))(env:af):sY fs env=(fs env).bind lstK:=rfl
theorem HW:tupK []=M.ok (.tup []):=av (aX (show 0<=1000 by decide))
theorem HN:lstK []=M.ok (.lst []):=av (aX (show 0<=1000 by decide))
theorem Hv(a:PV):tupK [a]=M.ok (.tup [a]):=av (aX (show 1<=1000 by decide))
theorem HQ(a:PV):lstK [a]=M.ok (.lst [a]):=av (aX (show 1<=1000 by decide))
theorem GA(a b:PV):tupK [a,b]=M.ok (.tup [a,b]):=av (aX (show 2<=1000 by decide))
theorem Iv(a b:PV):lstK [a,b]=M.ok (.lst [a,b]):=av (aX (show 2<=1000 by decide))
theorem GD(a b c:PV):tupK [a,b,c]=M.ok (.tup [a,b,c]):=av (aX (show 3<=1000 by decide))
theorem Ib(a b c:PV):lstK [a,b,c]=M.ok (.lst [a,b,c]):=av (aX (show 3<=1000 by decide))
theorem Ho(a b c d:PV):tupK [a,b,c,d]=M.ok (.tup [a,b,c,d]):=av (aX (show 4<=1000 by decide))
theorem IJ(a b c d:PV):lstK [a,b,c,d]=M.ok (.lst [a,b,c,d]):=av (aX (show 4<=1000 by decide))
theorem Jk(a b c d e:PV):tupK [a,b,c,d,e]=M.ok (.tup [a,b,c,d,e]):=av (aX (show 5<=1000 by decide))
theorem Jy(a b c d e:PV):lstK [a,b,c,d,e]=M.ok (.lst [a,b,c,d,e]):=av (aX (show 5<=1000 by decide))
theorem G_(a b c d e f:PV):tupK [a,b,c,d,e,f]=M.ok (.tup [a,b,c,d,e,f]):=av (aX (show 6<=1000 by decide))
theorem IF(a b c d e f:PV):lstK [a,b,c,d,e,f]=M.ok (.lst [a,b,c,d,e,f]):=av (aX (show 6<=1000 by decide))
end
def iN(m:M α)(Q:α->Prop):Prop:=∃ a,m=M.ok a/\Q a
section
variable{γ:Type}{Q Q':α->Prop}{m:M α}
theorem iN.eq{a:α}(h:iN m λx=>x=a):m=M.ok a:=by obtain⟨b,e,rfl⟩:=h;exact e
def Tn(J:af->Prop)(B:af->Prop)(R:PV->Prop):Out->Prop
 | .nx e=>J e
 | .ct e=>J e
 | .bk e=>B e
 | .rt p=>R p
theorem iN.yq{set:PV->af->M af}{body:af->M Out}{inj:γ->PV}{B:af->Prop}{R:PV->Prop}(J:List γ->af->Prop)
  (H:∀ a r env,J (a::r) env->iN (M.bind (set (inj a) env) body) (Tn (J r) B R)):∀ (xs:List γ) (env:af),J xs env->iN (jR set body (xs.map inj) env) λo=>(∃ e,o=.nx e/\(J [] e\/B e))\/∃ p,o=.rt p/\R p
 | [],env,h=>⟨_,rfl,.inl ⟨_,rfl,.inl h⟩⟩
 | a::r,env,h=>by
  obtain⟨o,e,q⟩:=H a r env h;rw[Tw,jR,<- M.bind_assoc,e,M.aM];cases o with
  | nx e'=>exact iN.yq J H r e' q
  | ct e'=>exact iN.yq J H r e' q
  | bk e'=>exact⟨_,rfl,.inl ⟨_,rfl,.inr q⟩⟩
  | rt p=>exact⟨_,rfl,.inr ⟨_,rfl,q⟩⟩
theorem iN.loop{R:β->Prop}{set:PV->af->M af}{inj:γ->PV}{k:Out->M β}{xs:List γ}{env:af}(J:List γ->af->Prop)(h:J xs env)
  (H:∀ a r env,J (a::r) env->iN (M.bind (set (inj a) env) body) (Tn (J r) (λ_=>False) λ_=>False)) (hk:∀ N_,J [] N_->iN (k (.nx N_)) R):iN (M.bind (jR set body (xs.map inj) env) k) R:=by
 obtain⟨o,e,q⟩:=iN.yq J H xs env h;rw[e,M.aM];rcases q with ⟨e',rfl,q | q⟩ | ⟨p,_,q⟩
 .exact hk e' q
 .exact q.elim
 .exact q.elim
theorem iN.Lk{R:β->Prop}{set:PV->af->M af}{inj:γ->PV}{k:Out->M β}{xs:List γ}{env:af}(J:List γ->af->Prop)(h:J xs env)
  (H:∀ a r env,J (a::r) env->iN (M.bind (set (inj a) env) body) (Tn (J r) (λe=>iN (k (.nx e)) R) λp=>iN (k (.rt p)) R)) (hk:∀ N_,J [] N_->iN (k (.nx N_)) R):iN (M.bind (jR set body (xs.map inj) env) k) R:=by
 obtain⟨o,e,q⟩:=iN.yq J H xs env h;rw[e,M.aM];rcases q with ⟨e',rfl,q | q⟩ | ⟨p,rfl,q⟩
 .exact hk e' q
 .exact q
 .exact q
end
def Km(i:Nat)(env:af)(xs:List PV)(p:PV):M Out:=if xs.length<sizeLine then M.ok (.nx (env.set i (some (.ow (xs++[p]))))) else none
theorem xR(i:Nat)(f:af->M PV)(env:af):pR i f env=(ownAt i env).bind λxs=>(f env).bind λp=>Km i env xs p:=by
 unfold pR ownAt;rcases env[i]? with _ | _ | (_ | _ | _) <;> rfl
theorem xX{i:Nat}{env:af}(h:xs.length<1000):Km i env xs p=M.ok (.nx (env.set i (some (.ow (xs++[p]))))):=if_pos (mn (VS h))
def rJ(C:Addr)(m:Str)(sem:List PV->M PV)(p:PV)(x:M (List PV)):M PV:=match p with
 | .obj C' fl=>cM (C'=C/\fl.lookup m=none) (x.bind λps=>sem (.obj C' fl::ps))
 | _=>none
theorem bU(C:Addr)(m:Str)(sem:List PV->M PV)(g:af->M PV)(fs:af->M (List PV))(env:af):bo C m sem g fs env=(g env).bind λp=>rJ C m sem p (fs env):=rfl
variable{sem:List PV->M PV}{C:Addr}
theorem kz{m:Str}{fl:List (Str×PV)}{x:M (List PV)}(h:fl.lookup m=none):rJ C m sem (.obj C fl) x=x.bind λps=>sem (.obj C fl::ps):=av ⟨rfl,h⟩
def Cr(ok:Addr->Bool)(f:Str)(p:PV):M PV:=match p with
 | .obj C fs=>cM (ok C=true) (eZ (fs.lookup f))
 | _=>none
theorem jn(ok:Addr->Bool)(f:Str)(g:af->M PV)(env:af):eF ok f g env=(g env).bind (Cr ok f):=rfl
theorem oR{ok:Addr->Bool}{f:Str}{fs:List (Str×PV)}{x:PV}(h:ok C=true)(hl:fs.lookup f=some x):Cr ok f (.obj C fs)=M.ok x:=by
 show cM _ _=_;rw[av h,hl];rfl
theorem rK(xs:List Int)(x:Int):xs.map PV.int++[.int x]=(xs++[x]).map PV.int:=by simp
theorem tF{f:α->PV}(xs:List α)(h:bO p=some (xs.map f)):BG [p]=M.ok (xs.zipIdx.map λz=>.tup [.int (z.2:Int),f z.1]):=by
 show MA p=_;unfold MA;rw[h];show M.ok (ig _)=_;rw[zV]
theorem Iu(xs:List Int):BG [lI xs]=M.ok (xs.zipIdx.map λz=>.tup [.int (z.2:Int),.int z.1]):=tF xs rfl
theorem lP{f:α->PV}(xs:List α):BG [.lst (xs.map f)]=M.ok (xs.zipIdx.map λz=>.tup [.int (z.2:Int),f z.1]):=tF xs rfl
theorem yC(f:af->M Out)(hs:List Hd)(env:af):FK f hs env=tj (f env) λx=>iS hs x env:=rfl
theorem zr(o:Out)(k:EX->M Out):tj (M.ok o) k=M.ok o:=T7 rfl rfl
theorem wH(x:EX)(k:EX->M Out):tj (some (.error x)) k=k x:=T7 rfl rfl
theorem xx(t:Addr->Option Bool)(o:Option Nat)(h:af->M Out)(r:List Hd)(x:EX)(env:af):iS ((t,o,h)::r) x env=uf (t x.1) (p7 o h x env) (iS r x env):=T7 rfl rfl
theorem GO(x y:M Out):uf (some true) x y=x:=T7 rfl rfl
theorem Dx(h:af->M Out)(x:EX)(env:af):p7 none h x env=Ap (h env):=T7 rfl rfl
theorem NS{us:List α}(h:us.length=1):∃ a,us=[a]:=by
 cases us with
 | nil=>cases h
 | cons a t=>cases t with
  | nil=>exact⟨a,rfl⟩
  | cons b t=>cases h
theorem ln2{us:List α}(h:us.length=2):∃ a b,us=[a,b]:=by
 cases us with
 | nil=>cases h
 | cons a t=>obtain⟨b,rfl⟩:=NS (YA h);exact⟨a,b,rfl⟩
theorem NW{us:List α}(h:us.length=3):∃ a b c,us=[a,b,c]:=by
 cases us with
 | nil=>cases h
 | cons a t=>obtain⟨b,c,rfl⟩:=ln2 (YA h);exact⟨a,b,c,rfl⟩
def yt(K:PySem.W.Frag):Bool:=K.all λp=>match p.2.cls with
 | .type t=>t != "list"
 | _=>true
theorem BX{K:PySem.W.Frag}(h:yt K=true){a:Addr}{o:Obj}(e:K.lookup a=some o):o.cls≠.type "list" := by
 induction K with
 | nil=>cases e
 | cons p r ih =>
  obtain⟨b,u⟩:=p;rw[yt,List.all_cons,Ud] at h;rw[UR] at e;cases q:a==b with
  | true =>
   rw[q] at e;cases e;intro z;have h1:=h.1;simp only[z] at h1;exact absurd h1 (by decide)
  | false=>rw[q] at e;exact ih h.2 e
theorem sO{H:Hp}:∀ ns:List Int,aP H (ns.map PV.int) (ns.map V.int)
 | []=>.nil
 | i::r=>.cons (.int i) (sO r)
theorem xt{l:PySem.W.OpenLaw}{q:Program}{loose:List Str}{XP:(Str->Option Value)->Heap->Prop}{YP:World->Heap->Prop}{d:DefRec}{K:Params->PySem.W.Frag}
  (hn:l.most=some n) (QO:n<=sizeLine) (hdf:d.params.defaults=[]) (hr:cA k callerA)
  (hY:∀ (w:World) (h:Heap),YP w h->(K w.params).In h)
  (hK:∀ w:World,yt (K w.params)=true)
  (F:∀ (w:World) (mg:Str->Option Value) (fa:Addr) (h:Heap),(K w.params).In h->h.Ns mainGlobals mg->mg d.name=some (.ref fa) ->
   ∃ fd:FuncData,(∀ (s:Shared) (u:Value),BindsTo s fd ⟨[u],[]⟩ [(x,u)]) ∧
    ∀ base:Heap,(K w.params).In base->base.Ns mainGlobals mg->aY l.prog w (K w.params) mg base (bW l.prog w) k fa fd [x] (dW 1 sem))
  (RO:∀ ns:List Int,ns.length<=n->(∀ i∈ns,Xs i<=1048576)->sem [.jV (ns.map PV.int)]=M.ok (.bl true)) :
  PySem.W.WalkO q loose XP YP l.row.toRowW d [] (λf vs=>PySem.call f vs):=by
 intro w s₀ s₁ mg mb G Y fa o pm cd doc dV kV ho hd Pc hD hmg hg args vals as yX hlay hrd hwl Qk;obtain rfl:dV=.none:=PySem.W.Dflts.none hD hdf;obtain rfl:kV=.none:=PySem.W.Dflts.noKw hD;obtain⟨a,vs,ns,rfl,rfl,hobj,hints,hlen⟩:=Att.zc hn yX hwl;have Sb:∀ i∈ns,Xs i<=1048576:=λi hi=>by
  have h1:=PySem.W.layableW_arg hlay _ (Ui.mpr rfl);have h2:=PySem.W.layableW_item h1 (.int i) (T_.mpr ⟨i,hi,rfl⟩);exact intBits_le_of_layable h2
 have KX:=hY w _ Y;obtain⟨fd,hb,hF⟩:=F w mg fa _ KX G.T.g hmg;have hs:=RO ns hlen Sb;refine PySem.W.enter_call (Xx (Di KX G.T.g G.T.b G.T.builtins G.T.nolimit hg hobj hints (TJ hlen QO) hr hF hb (λH hO hS=>⟨rfl,H,[.jV (ns.map PV.int)],λ_ _ e=>e,?_,?_⟩) λH e s' z=>?_) λr s' hq=>?_)
 .rcases hS with (hS | ⟨ob,hS⟩) | ⟨ob,N9,m,e1,e2,_⟩
  .rcases hO a with z | ⟨ob,xs,z⟩
   .rw[z] at hS;cases hS
   .rw[z] at hS;cases hS
  .exact .cons (.jV hS (sO ns)) .nil
  .exact absurd e2 (BX (hK w) e1)
 .rw[hs];intro v Oa H' g r;cases r;rfl
 .obtain⟨ea,T,C,dd,Hc,_,_,_,_,_,_,_,_,z⟩:=z;exact z
 .obtain⟨rfl,h2,h3,h4⟩:=hq;exact⟨.inl ⟨.bool true,.bool true,[],rfl,λ_=>rfl,.bool true,Att.zB l _,λ_=>⟨List.Pairwise.nil,λ_ hm=>(nomatch hm)⟩⟩,h2,h3,h4⟩
abbrev zF(x q:Str)(t:Stmt)(s:Value)(c:Addr):FuncData:=PySem.W.fnOf x q (ij t) (e_ t) (bg t) .none .none .none s none (.ref c) .none
variable{t:Stmt}
theorem bq.of{K:PySem.W.Frag}{q:Str}{dv kV doc pm:Value}{an:Option Addr}{Ox ct:Value}{f:Addr}(h1:K.lookup f=some ⟨.type "function", none,.func (PySem.W.fnOf x q (ij t) (e_ t) (bg t) dv kV doc pm an Ox ct),⟨[]⟩⟩)(h2:PySem.W.codeIn K Ox q=true)(h3:PySem.W.keepIn K (.ref f)=true):bq K x q t dv f (PySem.W.fnOf x q (ij t) (e_ t) (bg t) dv kV doc pm an Ox ct):=⟨⟨_,_,_,_,_,_,_,_,_,rfl,h1,h2⟩,h3⟩
section
variable{P:List α->Prop}
theorem LR(h:∀ a b,P [a,b]):∀ us,us.length=2->P us:=λus hl=>by obtain⟨a,b,rfl⟩:=ln2 hl;exact h a b
end
theorem cH.of{N P:List Str}{sc:Scope}(h1:autoParam (sc.kind=.function) aR._auto_1)(h2:autoParam (sc.isCoroutine=false) aR._auto_1)(h3:autoParam (sc.isGenerator=false) aR._auto_1)(h4:autoParam (N.Nodup) aN._auto_1)(h5:autoParam (N.take P.length=P) aR._auto_1)(h6:autoParam (∀ x∈P,sc.names.lookup x=some .local\/sc.names.lookup x=some .cell) aN._auto_1)(h7:autoParam (∀ y∈sc.names,y.2≠.free) aN._auto_1):cH N P sc:=⟨h1,h2,h3,h4,h5,h6,h7⟩
theorem aO{pos:Pos}{i:Nat}(hN:X.N.Nodup)(hi:autoParam (X.N[i]?=some x) aR._auto_1)(hx:autoParam (Loc X.env.scope x) aG._auto_1)(hf:autoParam (X.fn x=true\/X.env.scope.names.lookup x=some .local) aG._auto_1):PG X (.Name x pos) (aJ i):=EZ hN hi hx hf
def EM:Nat->(List Value->Prop)->Prop
 | 0,P=>P []
 | n+1,P=>∀ a,EM n λl=>P (a::l)
theorem tq:∀ {n:Nat} {P:List Value->Prop},EM n P->∀ us:List Value,us.length=n->P us
 | 0,_,h,[],_=>h
 | n+1,_,h,a::r,e=>tq (h a) r (YA e)
variable{ps:List Str}{mg:Str->Option Value}
section
variable{K:PySem.W.Frag}{h:Heap}{q:Str}{m:Nat}{tO:List PV->M (List PV)}
theorem iW(P:Program)(w:World)(base:Heap)(X:K.In h)(G:h.Ns mainGlobals mg)(a c:Addr)(s:Value)(ok:bq K x q t .none a (zF x q t s c)->aY P w K mg base (bW P w) n a (zF x q t s c) ps (dW m (bu m sem)))
  (h1:autoParam (K.lookup a=some ⟨.type "function", none,.func (zF x q t s c),⟨[]⟩⟩) aK._auto_1) (h2:autoParam (PySem.W.codeIn K (.ref c) q=true) aK._auto_1) (h3:autoParam (PySem.W.keepIn K (.ref a)=true) aK._auto_1) (h4:autoParam (PySem.W.nsIn K mainGlobals x=some (some (.ref a))) aK._auto_1)
  (h5:autoParam (ps.length=m) aR._auto_1) (h6:EM ps.length λus=>bindArgs (zF x q t s c) ⟨us,[]⟩=pure (ps.zip us):=by (repeat intro _);rfl):dE P w K mg base n x m sem :=
 ⟨⟨a,_,ps,PySem.W.mg_of X G h4,h3,h5,.all (tq h6),ok (.of h1 h2 h3)⟩⟩
theorem DJ(P:Program)(w:World)(base:Heap)(cc:ma K C)(a c:Addr)(s:Value)(ok:bq K x q t .none a (zF x q t s c)->aY P w K mg base (bW P w) n a (zF x q t s c) ps (dW m (bu m sem)))
  (h1:autoParam (K.lookup a=some ⟨.type "function", none,.func (zF x q t s c),⟨[]⟩⟩) aK._auto_1) (h2:autoParam (PySem.W.codeIn K (.ref c) q=true) aK._auto_1) (h3:autoParam (PySem.W.keepIn K (.ref a)=true) aK._auto_1) (h4:autoParam (PySem.W.findIn K (.ref C) x=some (some (.ref a))) aK._auto_1) (h5:autoParam (PySem.W.isFn K (.ref a)=true) aK._auto_1)
  (h6:EM ps.length λus=>bindArgs (zF x q t s c) ⟨us,[]⟩=pure (ps.zip us):=by (repeat intro _);rfl):jQ P w K mg base C n x m sem :=
 ⟨⟨a,_,ps,cc,⟨h4,h5,h3⟩,.all (tq h6),ok (.of h1 h2 h3)⟩⟩
end
theorem bq.gf{P:Program}{w:World}{K:PySem.W.Frag}{base:Heap}{qual:Str}{st:Stmt}{dv:Value}{f:Addr}{fd:FuncData}{g:af->M Out}(F:bq K x qual st dv f fd)(N:List Str)
  (hb:N.Nodup->∀ (Ox:Value) (A:Around) (outer:List Env) (s:Shared) (H:Hp) (E:XK),cA k (A.deeper (envOfC qual (bg st) s.heap.objs.size f Ox))->fc ((lF (bW P w) P w K mg base N qual (bg st) f Ox A outer s H E).out λ_=>E) (λ_=>E)->kN ((lF (bW P w) P w K mg base N qual (bg st) f Ox A outer s H E).out λ_=>E) (e_ st) (tS E g))
  (S:cH N ps (bg st):=by exact .of):aY P w K mg base (bW P w) (k+1) f fd ps (dW ps.length (bu ps.length (aB N.length g))):=F.NG S (hb S.nd)
end L2
namespace wo
open PySem L2 PyProof.Rows
def eS:Addr:=65
def gU:Addr:=91
def fw:Addr:=117
def h_:Addr:=136
def ar:Addr:=425
def cQ:Addr:=155
def aw:Addr:=244
def ja:List Addr:=[cQ]
def jj:List Addr:=[eS,gU,fw,h_]
abbrev cI(i:Int):af->M PV:=λ_=>M.ok (.int i)
def jw:af->M Out :=
 (ao (retS (Ek (Gj (λa=>qF a "int") xf xf (aa 0)) (Jp (Gj (λa=>qF a "bool") xf xf (aa 0)))))
 aq)
def fD:List PV->M PV:=bu 1 (aB 1 jw)
def jN:af->M Out :=
 (ao (kJ (IL (lq (eX (Gj (λa=>["list", "tuple"].any λt=>qF a t) xf xf (aa 0)))) (eX (aj ou (ai ff (ae (aa 0) ak)) (aa 1)))) (ao (retS (λ_=>M.ok (.bl false)))
 aq) aq)
 (ao (retS (ai vZ (ae (cT (bZ (itemsOf (aa 0)) (bJ 0) none (ai fD (ae (aa 0) ak)) 1 [])) ak)))
 aq))
def f_:List PV->M PV:=bu 2 (aB 2 jN)
def jZ:af->M Out :=
 (ao (bj 2 (k4 (ae (aa 0) (ae (cI 1) (ae (cI 0) ak)))))
 (ao (bj 3 (k4 (ae (aa 1) (ae (cI 0) (ae (cI 1) ak)))))
 (ao (kU (eX (aj ou (aj aS (aa 3) (cI 0)) (cI 0))) (ao (bj 4 (aj bD (aj aS (aa 2) (cI 0)) (aj aS (aa 3) (cI 0))))
 (ao (bj 5 (k4 (ae (aj nV (aj aS (aa 2) (cI 0)) (aj bV (aa 4) (aj aS (aa 3) (cI 0)))) (ae (aj nV (aj aS (aa 2) (cI 1)) (aj bV (aa 4) (aj aS (aa 3) (cI 1)))) (ae (aj nV (aj aS (aa 2) (cI 2)) (aj bV (aa 4) (aj aS (aa 3) (cI 2)))) ak)))))
 (ao (bj 2 (aa 3))
 (ao (bj 3 (aa 5))
 aq)))))
 (ao (kJ (eX (aj Ei (aj aS (aa 2) (cI 0)) (cI 0))) (ao (retS (k4 (ae (jH (aj aS (aa 2) (cI 0))) (ae (jH (aj aS (aa 2) (cI 1))) (ae (jH (aj aS (aa 2) (cI 2))) ak)))))
 aq) aq)
 (ao (retS (aa 2))
 aq)))))
def fY:List PV->M PV:=bu 2 (aB 6 jZ)
def fM:af->M Out :=
 (ao (bj 1 (cI 1))
 (ao (gz (itemsOf (aa 0)) (bJ 2) (ao (bj 1 (aj bV (aj bD (aa 1) (aj aS (ai fY (ae (aa 1) (ae (aa 2) ak))) (cI 0))) (aa 2)))
 aq))
 (ao (retS (aa 1))
 aq)))
def fH:List PV->M PV:=bu 1 (aB 3 fM)
def gB:af->M Out :=
 (ao (bj 1 (cI 1))
 (ao (gz (itemsOf (aa 0)) (bJ 2) (ao (bj 1 (aj bV (aa 1) (aa 2)))
 aq))
 (ao (retS (aa 1))
 aq)))
def gC:List PV->M PV:=bu 1 (aB 3 gB)
def jv:af->M Out :=
 (ao (retS (ai dq (ae (cT (bZ (jL nJ (ae (aa 0) ak)) (bJ 0) none (zK (eX (aj wA (aa 0) (aa 1))) (cI 1) (cI 0)) 1 [1])) ak)))
 aq)
def jr:List PV->M PV:=bu 2 (aB 2 jv)
def jc:af->M Out :=
 (ao (retS (aj cY (ai wb (ae (cT (bZ (jL zip2 (ae (aa 0) (ae (aa 1) ak))) (cn 0 1) none (aj bV (aa 0) (aa 1)) 2 [])) ak)) (aa 2)))
 aq)
def jq:List PV->M PV:=bu 3 (aB 3 jc)
def eG:af->M Out :=
 (ao (retS (Ek (ai fD (ae (aa 0) ak)) (lh Ff Ff (aa 1) (aa 0) (aa 2))))
 aq)
def dj:List PV->M PV:=bu 3 (aB 3 eG)
def gM:af->M Out :=
 (ao (kJ (eX (aj Am (ai ff (ae (aa 0) ak)) (cI 6))) (ao (j6 cQ (ae (λ_=>M.ok (.str "a vault has at most six dials")) ak))
 aq) aq)
 (ao (kJ (eX (aj wA (ai ff (ae (aa 0) ak)) (cI 0))) (ao (jA eS "dial" (ae (cI 0) ak))
 aq) aq)
 (ao (gz (jL BG (ae (aa 0) ak)) (cn 1 2) (ao (kJ (lq (eX (ai dj (ae (aa 2) (ae (cI 2) (ae (cI 360) ak)))))) (ao (jA eS "dial" (ae (aa 1) ak))
 aq) aq)
 aq))
 aq)))
def gL:List PV->M PV:=bu 1 (aB 3 gM)
def fL:af->M Out :=
 (ao (kJ (eX (aj Am (ai ff (ae (aa 0) ak)) (cI 8))) (ao (j6 cQ (ae (λ_=>M.ok (.str "a vault has at most eight levers")) ak))
 aq) aq)
 (ao (gz (jL BG (ae (aa 0) ak)) (cn 2 3) (ao (kJ (lq (eX (ai f_ (ae (aa 3) (ae (aa 1) ak))))) (ao (jA gU "lever" (ae (aa 2) ak))
 aq) aq)
 aq))
 aq))
def fN:List PV->M PV:=bu 2 (aB 4 fL)
def gD:af->M Out :=
 (ao (kJ (eX (aj Bh (aa 1) (λ_=>M.ok .cJ))) (ao (retS (aj bV (k4 (ae (cI 1) ak)) (ai ff (ae (aa 0) ak))))
 aq) aq)
 (ao (gz (jL nJ (ae (ai (Ga λi j=>if j>i then j else i) (ae (ai ff (ae (aa 0) ak)) (ae (ai ff (ae (aa 1) ak)) ak))) ak)) (bJ 2) (ao (kJ (IL (eX (aj JK (aa 2) (ai ff (ae (aa 0) ak)))) (eX (aj JK (aa 2) (ai ff (ae (aa 1) ak))))) (ao (jA fw "lever" (ae (aa 2) ak))
 aq) aq)
 (ao (kJ (lq (eX (ai dj (ae (aj aS (aa 1) (aa 2)) (ae (cI 1) (ae (cI 1000) ak)))))) (ao (jA fw "lever" (ae (aa 2) ak))
 aq) aq)
 aq)))
 (ao (retS (ai dq (ae (aa 1) ak)))
 aq)))
def gN:List PV->M PV:=bu 2 (aB 3 gD)
def ki:af->M Out :=
 (ao (retS (ai dq (ae (cT (bZ (jL zip2 (ae (aa 0) (ae (aa 1) ak))) (cn 0 1) none (aj cY (aa 0) (aa 1)) 2 [])) ak)))
 aq)
def jh:List PV->M PV:=bu 2 (aB 2 ki)
def lJ:af->M Out :=
 (ao (retS (ai dq (ae (cT (bZ (jL zip2 (ae (aa 0) (ae (aa 2) ak))) (cn 0 1) none (aj fW (aj bV (aa 2) (aa 0)) (aj bV (aa 3) (aa 1))) 2 [1,3])) ak)))
 aq)
def kj:List PV->M PV:=bu 4 (aB 4 lJ)
def e9:af->M Out :=
 (ao (bj 5 (ai kj (ae (aj aS (aa 1) (cI 0)) (ae (aa 2) (ae (aj aS (aa 3) (cI 0)) (ae (aa 4) ak))))))
 (ao (retS (k4 (ae (ai jh (ae (aa 5) (ae (aa 0) ak))) (ae (ai kj (ae (aj aS (aa 1) (cI 1)) (ae (aa 2) (ae (aj aS (aa 3) (cI 1)) (ae (aa 4) ak))))) ak))))
 aq))
def dM:List PV->M PV:=bu 5 (aB 6 e9)
def eI:af->M Out :=
 (ao (bj 3 (aj aS (aj aS (aj aS (aa 1) (aa 2)) (cI 0)) (aa 2)))
 (ao (retS (zK (eX (aj wA (aa 3) (cI 0))) (aj aS (aa 0) (aa 2)) (aa 3)))
 aq))
def dz:List PV->M PV:=bu 3 (aB 4 eI)
def jB:af->M Out :=
 (ao (mL 3 (lx ak))
 (ao (gz (jL BG (ae (aa 1) ak)) (cn 4 5) (ao (bj 6 (ai dz (ae (aa 0) (ae (aa 1) (ae (aa 4) ak)))))
 (ao (bj 7 (aj aS (aj aS (aa 2) (cI 0)) (aa 4)))
 (ao (bj 8 (ai fY (ae (aa 6) (ae (aa 7) ak))))
 (ao (pR 3 (ai dM (ae (aa 0) (ae (aa 5) (ae (aj aS (aa 8) (cI 1)) (ae (aa 2) (ae (aj aS (aa 8) (cI 2)) ak)))))))
 (ao (bj 2 (ai dM (ae (aa 0) (ae (aa 2) (ae (aj bD (aa 6) (aj aS (aa 8) (cI 0))) (ae (aa 5) (ae (jH (aj bD (aa 7) (aj aS (aa 8) (cI 0)))) ak)))))))
 aq))))))
 (ao (qG [3] (retS (k4 (ae (aa 3) (ae (aj aS (aa 2) (cI 1)) ak)))))
 aq)))
def jl:List PV->M PV:=bu 3 (aB 9 jB)
def i0:af->M Out :=
 (ao (gz (jL zp (ae (aa 3) (ae (ai ff (ae (aa 0) ak)) ak))) (bJ 4) (ao (bj 5 (aj bD (aj aS (aj aS (aa 2) (cI 0)) (aa 4)) (ai dz (ae (aa 0) (ae (aa 1) (ae (aa 4) ak))))))
 (ao (bj 2 (ai dM (ae (aa 0) (ae (aa 2) (ae (cI 1) (ae (aj aS (aa 1) (aa 4)) (ae (jH (aa 5)) ak)))))))
 aq)))
 (ao (retS (aa 2))
 aq))
def fq:List PV->M PV:=bu 4 (aB 6 i0)
def g9:af->M Out :=
 (ao (gz (jL zG (ae (aj nV (ai ff (ae (aa 1) ak)) (cI 1)) (ae (jH (cI 1)) (ae (jH (cI 1)) ak)))) (bJ 2) (ao (bj 3 (aj aS (aa 1) (aa 2)))
 (ao (bj 0 (ai kj (ae (aa 0) (ae (cI 1) (ae (aa 3) (ae (jH (aj bD (aj aS (aa 0) (aa 2)) (aj aS (aa 3) (aa 2)))) ak))))))
 aq)))
 (ao (retS (aa 0))
 aq))
def g8:List PV->M PV:=bu 2 (aB 4 g9)
def iA:af->M Out :=
 (ao (kJ (eX (aj Ei (aa 1) (ai ff (ae (aa 0) ak)))) (ao (retS (aj aS (aa 0) (aa 1)))
 aq) aq)
 (ao (retS (aj cY (aj bV (aj fW (aa 1) (cI 2)) (cI 104729)) (cI 65537)))
 aq))
def iz:List PV->M PV:=bu 2 (aB 2 iA)
def fj:af->M Out :=
 (ao (bj 2 (aj cY (aj fW (aj fW (aj bV (aj cY (aa 0) (cI 2147483647)) (cI 48271)) (aj bV (cI 7919) (aa 1))) (cI 13)) (cI 2147483629)))
 (ao (bj 2 (aj cY (aj fW (aj fW (aj bV (aa 2) (aa 2)) (aj bV (cI 104729) (aa 1))) (cI 7)) (cI 2147483587)))
 (ao (retS (aj cY (aj bV (aa 2) (aa 2)) (cI 2147483579)))
 aq)))
def dC:List PV->M PV:=bu 2 (aB 3 fj)
def da:af->M Out :=
 (ao (mL 2 (lx ak))
 (ao (gz (itemsOf (aa 1)) (bJ 3) (ao (pR 2 (aj cY (aa 0) (aa 3)))
 (ao (bj 0 (aj bD (aa 0) (aa 3)))
 aq)))
 (ao (qG [2] (retS (ai dq (ae (aa 2) ak))))
 aq)))
def cG:List PV->M PV:=bu 2 (aB 4 da)
def ir:af->M Out :=
 (ao (kJ (eX (aj wA (aj cY (aa 0) (cI 3)) (cI 0))) (ao (retS (aj fW (cI 2) (aj cY (aj bD (aa 0) (cI 3)) (cI 359))))
 aq) aq)
 (ao (retS (aj bV (aj aS (λ_=>M.ok (.lst (([2,3,4,6,8,9,12]:List Int).map PV.int))) (aj cY (aj bD (aa 0) (cI 3)) (cI 7))) (aj aS (λ_=>M.ok (.lst (([1,2,5,10,30]:List Int).map PV.int))) (aj cY (aj bD (aa 0) (cI 21)) (cI 5)))))
 aq))
def eH:List PV->M PV:=bu 1 (aB 1 ir)
def gS:af->M Out :=
 (ao (kJ (eX (aj wA (aj cY (aa 0) (cI 2)) (cI 0))) (ao (retS (cT (bZ (itemsOf (ai cG (ae (aj bD (aa 0) (cI 12)) (ae (aj bV (sY (ae (cI 359) ak)) (aj fW (cI 1) (aj cY (aj bD (aa 0) (cI 2)) (cI 6)))) ak)))) (bJ 0) none (aj fW (cI 2) (aa 0)) 1 [])))
 aq) aq)
 (ao (bj 1 (aj aS (λ_=>M.ok (.lst (([1,2,3,4,2,3,5,6]:List Int).map PV.int))) (aj cY (aj bD (aa 0) (cI 2)) (cI 8))))
 (ao (retS (cT (bZ (jL nJ (ae (aa 1) ak)) (bJ 0) none (ai eH (ae (ai dC (ae (aj bD (aa 1) (cI 16)) (ae (aa 0) ak))) ak)) 1 [0])))
 aq)))
def gJ:List PV->M PV:=bu 1 (aB 2 gS)
def gP:af->M Out :=
 (ao (kJ (eX (aj wA (aj cY (aa 0) (cI 2)) (cI 0))) (ao (retS (ai cG (ae (aj bD (aa 0) (cI 2)) (ae (aa 1) ak))))
 aq) aq)
 (ao (bj 2 (aj aS (λ_=>M.ok (.lst (([1,2,3,6,12,30]:List Int).map PV.int))) (aj cY (aj bD (aa 0) (cI 2)) (cI 6))))
 (ao (mL 3 (lx ak))
 (ao (gz (jL BG (ae (aa 1) ak)) (cn 4 5) (ao (bj 6 (ai dC (ae (aj bD (aa 0) (cI 12)) (ae (aa 4) ak))))
 (ao (pR 3 (aj bV (aj cY (aj bV (aj bD (aa 6) (cI 4)) (aa 2)) (aa 5)) (ai xT (ae (aj Am (aj cY (aa 6) (cI 4)) (cI 0)) ak))))
 aq)))
 (ao (qG [3] (retS (ai dq (ae (aa 3) ak))))
 aq)))))
def dR:List PV->M PV:=bu 2 (aB 7 gP)
def gT:af->M Out :=
 (ao (bj 1 (cI 1))
 (ao (gz (itemsOf (aa 0)) (bJ 2) (ao (bj 3 (aa 1))
 (ao (bj 4 (aa 2))
 (ao (kU (eX (aj Am (aa 4) (cI 0))) (ao (GW 3 4 (ae (aa 4) (ae (aj cY (aa 3) (aa 4)) ak)))
 aq))
 (ao (bj 1 (aj bV (aj bD (aa 1) (aa 3)) (aa 2)))
 aq)))))
 (ao (retS (aa 1))
 aq)))
def gQ:List PV->M PV:=bu 1 (aB 5 gT)
def gH:af->M Out :=
 (ao (bj 3 (ai gQ (ae (aa 2) ak)))
 (ao (retS (aj cY (ai wb (ae (cT (bZ (jL rj (ae (aa 0) (ae (aa 1) (ae (aa 2) ak)))) (jS 0 1 2) none (aj bV (aj bV (aa 0) (aa 1)) (aj bD (aa 3) (aa 2))) 3 [3])) ak)) (aa 3)))
 aq))
def gR:List PV->M PV:=bu 3 (aB 4 gH)
def eW:af->M Out :=
 (ao (bj 1 (cI 1))
 (ao (gz (itemsOf (aa 0)) (bJ 2) (ao (bj 1 (aj bV (aa 1) (aa 2)))
 aq))
 (ao (retS (aa 1))
 aq)))
def cv:List PV->M PV:=bu 1 (aB 3 eW)
def eO:af->M Out :=
 (ao (gz (itemsOf (aa 1)) (bJ 3) (ao (kJ (eX (aj ou (ai gR (ae (aa 0) (ae (aa 3) (ae (aa 2) ak)))) (cI 0))) (ao (retS (λ_=>M.ok (.bl false)))
 aq) aq)
 aq))
 (ao (retS (λ_=>M.ok (.bl true)))
 aq))
def bY:List PV->M PV:=bu 3 (aB 4 eO)
def eR:af->M Out :=
 (ao (mL 3 (yi (ai cG (ae (aj bD (aa 0) (cI 3)) (ae (aa 2) ak)))))
 (ao (kJ (eX (aj Am (aj cY (aa 0) (cI 3)) (cI 0))) (ao (mL 3 (Ce (sY (ae (cI 0) ak)) (ai ff (ae (aa 2) ak))))
 (ao (gz (jL BG (ae (aa 1) ak)) (cn 4 5) (ao (bj 6 (aj cY (ai dC (ae (aa 0) (ae (aj fW (cI 60) (aa 4)) ak))) (cI 1000)))
 (ao (mL 3 (vQ 3 (bZ (jL rj (ae (aa 3) (ae (aa 5) (ae (aa 2) ak)))) (jS 0 1 2) none (aj cY (aj fW (aa 0) (aj bV (aa 3) (aa 1))) (aa 2)) 3 [6])))
 aq)))
 aq)) aq)
 (ao (kJ (eX (aj wA (aj cY (aa 0) (cI 3)) (cI 2))) (ao (bj 7 (aj cY (aj bD (aa 0) (cI 3)) (ai ff (ae (aa 2) ak))))
 (ao (IQ 3 (aa 7) (o_ 3 (aj cY (aj fW (aj aS (aa 3) (aa 7)) (aj cY (aj bD (aa 0) (cI 3)) (cI 12))) (aj aS (aa 2) (aa 7)))))
 aq)) aq)
 (ao (qG [3] (retS (ai dq (ae (aa 3) ak))))
 aq))))
def e6:List PV->M PV:=bu 3 (aB 8 eR)
def i_:af->M Out :=
 (ao (lG (ai gL (ae (aa 1) ak)))
 (ao (lG (ai fN (ae (aa 2) (ae (ai ff (ae (aa 1) ak)) ak))))
 (ao (kQ 0 aw "dial_sizes" (ai dq (ae (aa 1) ak)))
 (ao (kQ 0 aw "lever_settings" (ai dq (ae (cT (bZ (itemsOf (aa 2)) (bJ 0) none (ai jh (ae (aa 0) (ae (aa 1) ak))) 1 [1])) ak)))
 (ao (kQ 0 aw "lever_prices" (ai gN (ae (aa 2) (ae (aa 3) ak))))
 (ao (kQ 0 aw "least_round" (ai fH (ae (aa 1) ak)))
 aq))))))
def dZ:Addr->List PV->M (List (Str×PV)):=tU 4 (yS 4 i_ aw)
def bb:af->M Out :=
 (ao (retS (eF (λc=>c==aw) "dial_sizes" (aa 0)))
 aq)
def aT:List PV->M PV:=bu 1 (aB 1 bb)
def cp:af->M Out :=
 (ao (retS (eF (λc=>c==aw) "lever_settings" (aa 0)))
 aq)
def a_:List PV->M PV:=bu 1 (aB 1 cp)
def dF:af->M Out :=
 (ao (retS (eF (λc=>c==aw) "least_round" (aa 0)))
 aq)
def cK:List PV->M PV:=bu 1 (aB 1 dF)
def c_:af->M Out :=
 (ao (bj 1 (bo aw "sizes" aT (eF (λc=>c==ar) "vault" (aa 0)) ak))
 (ao (retS (ai dq (ae (cT (bZ (jL nJ (ae (ai ff (ae (aa 1) ak)) ak)) (bJ 0) none (ai dz (ae (aa 2) (ae (eF (λc=>c==ar) "made_rows" (aa 1)) (ae (aa 0) ak)))) 1 [0,1])) ak)))
 aq))
def cD:List PV->M PV:=bu 1 (aB 2 c_)
def eP:af->M Out :=
 (ao (retS (cT (bZ (itemsOf (eF (λc=>c==ar) "made_rows" (aa 0))) (bJ 0) none (aj aS (aa 0) (cI 0)) 1 [])))
 aq)
def eT:List PV->M PV:=bu 1 (aB 1 eP)
def fK:af->M Out :=
 (ao (retS (ai dq (ae (cT (bZ (jL BG (ae (eF (λc=>c==ar) "idle_rows" (aa 0)) ak)) (cn 0 1) none (aj aS (aa 1) (aa 0)) 2 [])) ak)))
 aq)
def fF:List PV->M PV:=bu 1 (aB 1 fK)
def gW:af->M Out :=
 (ao (retS (aj bV (k4 (ae (cI 0) ak)) (ai ff (ae (bo aw "sizes" aT (aa 0) ak) ak))))
 aq)
def gc:List PV->M PV:=bu 1 (aB 1 gW)
def gF:af->M Out :=
 (ao (bj 2 (bo aw "sizes" aT (aa 0) ak))
 (ao (kJ (IL (lq (eX (Gj (λa=>qF a "tuple") xf xf (aa 1)))) (lq (eX (ai f_ (ae (aa 1) (ae (ai ff (ae (aa 2) ak)) ak)))))) (ao (retS (λ_=>M.ok (.bl false)))
 aq) aq)
 (ao (retS (ai vZ (ae (cT (bZ (jL zip2 (ae (aa 1) (ae (aa 2) ak))) (cn 0 1) none (lh Ff Ei (cI 0) (aa 0) (aa 1)) 2 [])) ak)))
 aq)))
def gO:List PV->M PV:=bu 2 (aB 3 gF)
def cO:af->M Out :=
 (ao (kJ (lq (eX (ai gO (ae (aa 0) (ae (aa 1) ak))))) (ao (j6 h_ (ae (λ_=>M.ok (.str "this is no setting of the vault")) ak))
 aq) aq)
 aq)
def ck:List PV->M PV:=bu 2 (aB 2 cO)
def oh:af->M Out :=
 (ao (bj 4 (cT (bZ (jL zip2 (ae (aa 1) (ae (aa 2) ak))) (cn 0 1) none (aj fW (aa 0) (aj bV (aa 2) (aa 1))) 2 [3])))
 (ao (retS (ai jh (ae (aa 4) (ae (bo aw "sizes" aT (aa 0) ak) ak))))
 aq))
def lB:List PV->M PV:=bu 4 (aB 5 oh)
def oq:af->M Out :=
 (ao (lG (ai ck (ae (aa 0) (ae (aa 1) ak))))
 (ao (lG (ai ck (ae (aa 0) (ae (aa 2) ak))))
 (ao (bj 3 (bo aw "around" cK (aa 0) ak))
 (ao (bj 4 (cT (bZ (jL zip2 (ae (aa 1) (ae (bo aw "sizes" aT (aa 0) ak) ak))) (cn 0 1) none (aj bV (aa 0) (aj bD (aa 2) (aa 1))) 2 [3])))
 (ao (retS (ai jq (ae (aa 4) (ae (aa 2) (ae (aa 3) ak)))))
 aq)))))
def om:List PV->M PV:=bu 3 (aB 5 oq)
def gZ:af->M Out :=
 (ao (retS (k4 (ae (aa 1) (ae (aj bV (k4 (ae (cI 0) ak)) (ai ff (ae (bo aw "levers" a_ (aa 0) ak) ak))) ak))))
 aq)
def fx:List PV->M PV:=bu 2 (aB 2 gZ)
def fO:af->M Out :=
 (ao (bj 2 (bo aw "levers" a_ (aa 0) ak))
 (ao (retS (k4 (ae (aj aS (aa 2) (aa 1)) (ae (ai jr (ae (ai ff (ae (aa 2) ak)) (ae (aa 1) ak))) ak))))
 aq))
def fS:List PV->M PV:=bu 2 (aB 3 fO)
def jz:af->M Out :=
 (ao (bj 2 (bo aw "sizes" aT (aa 1) ak))
 (ao (bj 3 (cT (bZ (itemsOf (aa 2)) (bJ 0) none (ai fx (ae (aa 1) (ae (ai gc (ae (aa 1) ak)) ak))) 1 [1])))
 (ao (mL 4 (lx ak))
 (ao (gz (jL nJ (ae (ai ff (ae (bo aw "levers" a_ (aa 1) ak) ak)) ak)) (bJ 5) (ao (bj 6 (ai jl (ae (aa 2) (ae (aa 3) (ae (ai fS (ae (aa 1) (ae (aa 5) ak))) ak)))))
 (ao (bj 3 (aj aS (aa 6) (cI 0)))
 (ao (pR 4 (o_ 4 (ai g8 (ae (aj aS (aa 6) (cI 1)) (ae (aa 4) ak)))))
 aq))))
 (ao (kQ 0 ar "vault" (aa 1))
 (ao (kQ 0 ar "made_rows" (cT (bZ (jL BG (ae (aa 3) ak)) (cn 0 1) none (ai fq (ae (aa 2) (ae (aa 3) (ae (aa 1) (ae (aj fW (aa 0) (cI 1)) ak))))) 2 [2,3])))
 (ao (qG [4] (kQ 0 ar "idle_rows" (aa 4)))
 aq)))))))
def cW:Addr->List PV->M (List (Str×PV)):=tU 2 (yS 7 jz ar)
def bM:af->M Out :=
 (ao (lG (ai ck (ae (eF (λc=>c==ar) "vault" (aa 0)) (ae (aa 1) ak))))
 (ao (retS (ai fq (ae (bo aw "sizes" aT (eF (λc=>c==ar) "vault" (aa 0)) ak) (ae (eF (λc=>c==ar) "made_rows" (aa 0)) (ae (ai fx (ae (eF (λc=>c==ar) "vault" (aa 0)) (ae (aa 1) ak))) (ae (cI 0) ak))))))
 aq))
def bA:List PV->M PV:=bu 2 (aB 2 bM)
def fG:af->M Out :=
 (ao (retS (aj aS (bo ar "brought_down" bA (aa 0) (ae (aa 1) ak)) (cI 0)))
 aq)
def fJ:List PV->M PV:=bu 2 (aB 2 fG)
def cP:af->M Out :=
 (ao (bj 2 (bo ar "brought_down" bA (aa 0) (ae (aa 1) ak)))
 (ao (kJ (eX (aj ou (aj aS (aa 2) (cI 0)) (ai gc (ae (eF (λc=>c==ar) "vault" (aa 0)) ak)))) (ao (retS (λ_=>M.ok .cJ))
 aq) aq)
 (ao (retS (ai g8 (ae (ai dq (ae (cT (bZ (itemsOf (aj aS (aa 2) (cI 1))) (bJ 0) none (jH (aa 0)) 1 [])) ak)) (ae (eF (λc=>c==ar) "idle_rows" (aa 0)) ak))))
 aq)))
def cj:List PV->M PV:=bu 2 (aB 3 cP)
def cU:af->M Out :=
 (ao (bj 2 (bo aw "sizes" aT (eF (λc=>c==ar) "vault" (aa 0)) ak))
 (ao (kJ (lq (eX (ai dj (ae (aa 1) (ae (cI 0) (ae (aj nV (ai ff (ae (aa 2) ak)) (cI 1)) ak)))))) (ao (jA eS "dial" (ae (aa 1) ak))
 aq) aq)
 (ao (bj 3 (cT (bZ (jL zip2 (ae (aa 2) (ae (bo ar "steps" cD (aa 0) ak) ak))) (cn 0 1) none (aj bD (aa 0) (aa 1)) 2 [])))
 (ao (mL 4 (Ce (sY (ae (cI 0) ak)) (ai ff (ae (aa 2) ak))))
 (ao (IQ 4 (aa 1) (aj cY (aj aS (aa 3) (aa 1)) (aj aS (aa 2) (aa 1))))
 (ao (gz (jL zG (ae (aj nV (aa 1) (cI 1)) (ae (jH (cI 1)) (ae (jH (cI 1)) ak)))) (bJ 5) (ao (bj 6 (o_ 4 (ai om (ae (eF (λc=>c==ar) "vault" (aa 0)) (ae (ai dq (ae (aa 4) ak)) (ae (aj aS (aj aS (eF (λc=>c==ar) "made_rows" (aa 0)) (aa 5)) (cI 0)) ak))))))
 (ao (bj 7 (aj bD (bo aw "around" cK (eF (λc=>c==ar) "vault" (aa 0)) ak) (aj aS (aa 3) (aa 5))))
 (ao (IQ 4 (aa 5) (aj cY (jH (aj bD (aa 6) (aa 7))) (aj aS (aa 3) (aa 5))))
 aq))))
 (ao (qG [4] (retS (ai dq (ae (aa 4) ak))))
 aq)))))))
def bx:List PV->M PV:=bu 2 (aB 8 cU)
def dm:af->M Out :=
 (ao (lG (ai ck (ae (aa 0) (ae (aa 1) ak))))
 (ao (bj 2 (ai (f6 ar cW []) (ae (aa 0) ak)))
 (ao (kJ (eX (aj Am (ai gC (ae (bo ar "spans" fF (aa 2) ak) ak)) (cI 1024))) (ao (j6 cQ (ae (λ_=>M.ok (.str "more settings belong together than are gone through")) ak))
 aq) aq)
 (ao (bj 3 (sY (ae (bo ar "least" fJ (aa 2) (ae (aa 1) ak)) ak)))
 (ao (gz (jL rj (ae (bo aw "sizes" aT (aa 0) ak) (ae (bo ar "steps" cD (aa 2) ak) (ae (bo ar "rows" eT (aa 2) ak) ak)))) (jS 4 5 6) (ao (mL 7 (lx ak))
 (ao (gz (jL nJ (ae (aj bD (aa 4) (aa 5)) ak)) (bJ 8) (ao (Bf 7 (cT (bZ (itemsOf (aa 3)) (bJ 0) none (ai lB (ae (aa 1) (ae (aa 0) (ae (aa 2) (ae (aa 3) ak))))) 1 [0,6,8])))
 aq))
 (ao (qG [7] (bj 3 (aa 7)))
 aq))))
 (ao (retS (ai yA (ae (aa 3) ak)))
 aq))))))
def cq:List PV->M PV:=bu 2 (aB 9 dm)
def lU:af->M Out :=
 (ao (bj 1 (ai gc (ae (aa 0) ak)))
 (ao (retS (ai (f6 aw dZ [.cJ]) (ae (bo aw "sizes" aT (aa 0) ak) (ae (cT (bZ (itemsOf (bo ar "rows" eT (ai (f6 ar cW []) (ae (aa 0) ak)) ak)) (bJ 0) (some (eX (aj ou (aa 0) (aa 1)))) (aa 0) 1 [1])) ak))))
 aq))
def kf:List PV->M PV:=bu 1 (aB 2 lU)
def j0:af->M Out :=
 (ao (bj 1 (ai (f6 ar cW []) (ae (aa 0) ak)))
 (ao (bj 2 (bo aw "sizes" aT (aa 0) ak))
 (ao (retS (ai kf (ae (ai (f6 aw dZ [.cJ]) (ae (aa 2) (ae (cT (bZ (jL nJ (ae (ai ff (ae (aa 2) ak)) ak)) (bJ 0) none (bo ar "weights_at" bx (aa 1) (ae (aa 0) ak)) 1 [1])) ak))) ak)))
 aq)))
def gY:List PV->M PV:=bu 1 (aB 3 j0)
def eU:af->M Out :=
 (ao (retS (ai cq (ae (ai gY (ae (aa 0) ak)) (ae (ai gc (ae (aa 0) ak)) ak))))
 aq)
def dN:List PV->M PV:=bu 1 (aB 1 eU)
def dX:af->M Out :=
 (ao (bj 4 (λ_=>M.ok .cJ))
 (ao (FK (bj 4 (ai dN (ae (aa 0) ak))) [(JO ja jj,none,(ao (retS (aj Am (aa 3) (cI 1024)))
 aq))])
 (ao (kJ (IL (eX (aj Am (aa 3) (cI 1024))) (eX (aj ou (ai ff (ae (aa 4) ak)) (aa 3)))) (ao (retS (λ_=>M.ok (.bl false)))
 aq) aq)
 (ao (gz (jL zip2 (ae (j7 (aa 4) EA (iI (jH (cI 1)))) (ae (j7 (aa 4) (iI (cI 1)) EA) ak))) (cn 5 6) (ao (kJ (lq (eX (aj J7 (aa 5) (aa 6)))) (ao (retS (λ_=>M.ok (.bl false)))
 aq) aq)
 aq))
 (ao (gz (jL nJ (ae (cI 16) ak)) (bJ 7) (ao (kJ (lq (eX (ai bY (ae (aj aS (aa 4) (aj bD (aj bV (aa 7) (aa 3)) (cI 16))) (ae (aa 1) (ae (aa 2) ak)))))) (ao (retS (λ_=>M.ok (.bl false)))
 aq) aq)
 aq))
 (ao (retS (ai bY (ae (aj aS (aa 4) (jH (cI 1))) (ae (aa 1) (ae (aa 2) ak)))))
 aq))))))
def dY:List PV->M PV:=bu 4 (aB 8 dX)
def AR:af->M Out :=
 (ao (bj 1 (ai gJ (ae (ai iz (ae (aa 0) (ae (cI 0) ak))) ak)))
 (ao (bj 2 (cT (bZ (itemsOf (j7 (aa 0) (iI (cI 1)) (iI (cI 9)))) (bJ 0) none (ai dR (ae (aa 0) (ae (aa 1) ak))) 1 [1])))
 (ao (bj 3 (ai (f6 aw dZ [.cJ]) (ae (aa 1) (ae (aa 2) ak))))
 (ao (bj 4 (ai gY (ae (aa 3) ak)))
 (ao (gz (itemsOf (bo aw "levers" a_ (aa 4) ak)) (bJ 5) (ao (kJ (lq (eX (ai bY (ae (aa 5) (ae (aa 2) (ae (aa 1) ak)))))) (ao (retS (λ_=>M.ok (.bl false)))
 aq) aq)
 aq))
 (ao (kJ (IL (eX (aj ou (bo aw "levers" a_ (ai gY (ae (aa 4) ak)) ak) (bo aw "levers" a_ (ai kf (ae (aa 3) ak)) ak))) (eX (aj ou (bo aw "levers" a_ (ai kf (ae (aa 4) ak)) ak) (bo aw "levers" a_ (aa 4) ak)))) (ao (retS (λ_=>M.ok (.bl false)))
 aq) aq)
 (ao (bj 6 (ai (f6 ar cW []) (ae (aa 3) ak)))
 (ao (bj 7 (ai cv (ae (bo ar "steps" cD (aa 6) ak) ak)))
 (ao (kJ (eX (aj ou (aj bV (aa 7) (ai cv (ae (bo ar "steps" cD (ai (f6 ar cW []) (ae (aa 4) ak)) ak) ak))) (ai cv (ae (aa 1) ak)))) (ao (retS (λ_=>M.ok (.bl false)))
 aq) aq)
 (ao (gz (itemsOf (aj fW (sY (ae (cI 0) ak)) (j7 (aa 0) (iI (cI 1)) (iI (cI 63))))) (bJ 8) (ao (bj 9 (ai e6 (ae (aa 8) (ae (aa 2) (ae (aa 1) ak)))))
 (ao (kJ (eX (aj ou (aj kA (bo ar "pulls_to" cj (aa 6) (ae (aa 9) ak)) (λ_=>M.ok .cJ)) (ai bY (ae (aa 9) (ae (bo aw "levers" a_ (aa 4) ak) (ae (aa 1) ak)))))) (ao (retS (λ_=>M.ok (.bl false)))
 aq) aq)
 aq)))
 (ao (retS (ai dY (ae (aa 3) (ae (aa 2) (ae (aa 1) (ae (aa 7) ak))))))
 aq)))))))))))
def sE:List PV->M PV:=bu 1 (aB 10 AR)
end wo
namespace wo
open PySem L2 PyProof.Rows
local macro_rules | `(tactic| walk_at "s")=>`(tactic| exact⟨rfl,rfl,rfl,by decide +kernel,rfl,by decide +kernel,by decide +kernel⟩)
local macro_rules | `(tactic| walk_at "l")=>`(tactic| first | exact .inl rfl | exact .inr rfl)
local macro_rules | `(tactic| walk_at "pp")=>`(tactic| all_goals repeat' (first | ((with_reducible show kN _ _ (tS _ (ao _ _)));refine DF ?_ ?_) | ((with_reducible show kN _ _ (tS _ aq));exact Ew) | ((with_reducible show PE _ _ (tE _ (aa _)));exact vr _) | ((with_reducible show PA _ _ (tL _ (ae _ _)));refine xG ?_ ?_ (Gs rfl)) | ((with_reducible show PA _ _ (tL _ ak));exact AD) | ((with_reducible show PE _ _ (tE _ (λ_=>M.ok (.int _))));first | exact CU | exact lC (JS (by rfl) (by assumption)) λ_=>.int _) | ((with_reducible show PE _ _ (tE _ (λ_=>M.ok (.bl _))));exact JZ) | ((with_reducible show PE _ _ (tE _ (λ_=>M.ok .cJ)));exact Hy) | ((with_reducible show PE _ _ (tE _ (λ_=>M.ok (.str _))));exact HX) | ((with_reducible show PE _ _ (tE _ (aj fW _ _)));refine pL Ee Hl ?_ ?_) | ((with_reducible show PE _ _ (tE _ (aj nV _ _)));refine pL Hn GU ?_ ?_) | ((with_reducible show PE _ _ (tE _ (aj bV _ _)));refine pL Fy Il ?_ ?_) | ((with_reducible show PE _ _ (tE _ (aj bD _ _)));refine pL CO CT ?_ ?_) | ((with_reducible show PE _ _ (tE _ (aj cY _ _)));refine pL E3 EG ?_ ?_) | ((with_reducible show PE _ _ (tE _ (aj aS _ _)));refine IE ?_ ?_ ?_) | ((with_reducible show uG _);exact λ_ _=>rfl) | ((with_reducible show PT _ _ (tT _ (eX (aj wA _ _))));refine i9 (CY (cA.units (by assumption))) Gr ?_ ?_ (dD _)) | ((with_reducible show PE _ _ (tE _ (aj wA _ _)));refine jY (CY (cA.units (by assumption))) Gr ?_ ?_ (dD _)) | ((with_reducible show PT _ _ (tT _ (eX (aj ou _ _))));refine i9 (Cu (cA.units (by assumption))) F9 ?_ ?_ (dD _)) | ((with_reducible show PE _ _ (tE _ (aj ou _ _)));refine jY (Cu (cA.units (by assumption))) F9 ?_ ?_ (dD _)) | ((with_reducible show PT _ _ (tT _ (eX (aj Ei _ _))));refine i9 AF wU ?_ ?_ (dD _)) | ((with_reducible show PE _ _ (tE _ (aj Ei _ _)));refine jY AF wU ?_ ?_ (dD _)) | ((with_reducible show PT _ _ (tT _ (eX (aj Ff _ _))));refine i9 vc qb ?_ ?_ (dD _)) | ((with_reducible show PE _ _ (tE _ (aj Ff _ _)));refine jY vc qb ?_ ?_ (dD _)) | ((with_reducible show PT _ _ (tT _ (eX (aj Am _ _))));refine i9 F4 AY ?_ ?_ (dD _)) | ((with_reducible show PE _ _ (tE _ (aj Am _ _)));refine jY F4 AY ?_ ?_ (dD _)) | ((with_reducible show PT _ _ (tT _ (eX (aj JK _ _))));refine i9 Gg Bm ?_ ?_ (dD _)) | ((with_reducible show PE _ _ (tE _ (aj JK _ _)));refine jY Gg Bm ?_ ?_ (dD _)) | ((with_reducible show PT _ _ (tT _ (eX (aj Bh _ _))));refine i9 BH Bj ?_ ?_ (dD _)) | ((with_reducible show PE _ _ (tE _ (aj Bh _ _)));refine jY BH Bj ?_ ?_ (dD _)) | ((with_reducible show PT _ _ (tT _ (eX (aj kA _ _))));refine i9 yD yj ?_ ?_ (dD _)) | ((with_reducible show PE _ _ (tE _ (aj kA _ _)));refine jY yD yj ?_ ?_ (dD _)) | ((with_reducible show PT _ _ (tT _ (lq _)));refine Jr ?_) | ((with_reducible show PT _ _ (tT _ (eX (ai _ _))));refine t8 ?_) | ((with_reducible show PT _ _ (tT _ (eX (Gj _ _ _ _))));refine t8 ?_) | ((with_reducible show PT _ _ (tT _ (eX (bo _ _ _ _ _))));refine t8 ?_) | ((with_reducible show PT _ _ (tT _ (eX (aa _))));refine t8 ?_) | ((with_reducible show PS _ _ (tS _ (retS _)));refine Ik ?_) | ((with_reducible show PS _ _ (tS _ (bj _ _)));refine Ig (by assumption) rfl (by walk_at "l") ?_) | ((with_reducible show PS _ _ (tS _ (kJ _ _ _)));refine J8 ?_ ?_ ?_) | ((with_reducible show PS _ _ (tS _ (pR _ _)));refine zX rfl (by first | exact .inl rfl | exact .inr (.inl rfl)) ?_) | ((with_reducible show PS _ _ (tS _ (mL _ _)));refine DQ (by assumption) rfl (by walk_at "l") ?_) | ((with_reducible show PE _ _ (tO _ (lx _)));refine IV ?_) | ((with_reducible show PS _ _ (tS _ (qG _ _)));refine JB _ ?_) | ((with_reducible show PS _ _ (tS _ (lG _)));refine E1 ?_) | ((with_reducible show PS _ _ (tS _ (j6 _ _)));refine A_.raise (by assumption) (by assumption) rfl (by rfl) ?_) | ((with_reducible show PS _ _ (tS _ (jA _ _ _)));refine qS.raise (by assumption) (by assumption) (by lia) (by assumption) rfl (by rfl) ?_) | ((with_reducible show PE _ _ (tE _ (k4 _)));refine JD ?_) | ((with_reducible show PE _ _ (tE _ (sY _)));refine CI ?_) | ((with_reducible show PE _ _ (tE _ (jH _)));refine Ij ?_) | ((with_reducible show PE _ _ (tE _ (zK _ _ _)));refine HB ?_ ?_ ?_) | ((with_reducible show PE _ _ (tE _ (eF _ _ _)));refine Hi ?_ (by assumption) rfl) | ((with_reducible show PE _ _ (tE _ (ai ff _)));refine jW zq IT (by rfl) (by assumption) PySem.boot_len ?_) | ((with_reducible show PE _ _ (tE _ (ai dq _)));refine rR qZ B6 (by rfl) (by assumption) qh ?_) | ((with_reducible show PE _ _ (tE _ (ai wb _)));refine jW (zg rfl) Hb (by rfl) (by assumption) Gy ?_) | ((with_reducible show PE _ _ (tE _ (ai vZ _)));refine jW (Al rfl) GC (by rfl) (by assumption) IA ?_) | ((with_reducible show PE _ _ (tE _ (ai xT _)));refine rR Aj D4 (by rfl) (by assumption) Dm ?_) | ((with_reducible show PE _ _ (tE _ (ai (f6 _ _ _) _)));refine Ao.make (by assumption) (by assumption) (by lia) (by rfl) (by first | assumption | exact xW) ?_) | ((with_reducible show PE _ _ (tE _ (ai _ _)));refine dE.call (by assumption) (by assumption) (by lia) (by rfl) (by first | assumption | exact xW) ?_) | ((with_reducible show PE _ _ (tE _ (bo _ _ _ _ ak)));refine jQ.KW (by assumption) (by assumption) (by lia) (by first | assumption | exact xW) ?_) | ((with_reducible show PE _ _ (tE _ (bo _ _ _ _ _)));refine jQ.call (by assumption) (by assumption) (by lia) (by first | assumption | exact xW) ?_ ?_)))
def top(i:Nat):Stmt:=PySem.Challenge.pw_dialvault_k44_whole_stills_of_stills.main.body.getD i (.Pass ⟨0,0,0,0⟩)
structure Txt (K:PySem.W.Frag) (mg:Str->Option Value):Prop where
 J2:mg "all" = none
 BN:mg "bool" = none
 cS:mg "enumerate" = none
 Gn:mg "int" = none
 eV:mg "isinstance" = none
 Kl:mg "len" = none
 wG:mg "list" = none
 F7:mg "max" = none
 eh:mg "range" = none
 uL:mg "sorted" = none
 Lr:mg "sum" = none
 ua:mg "tuple" = none
 jE:mg "zip" = none
 rn:∃ u,mg "LEAST_PRICE" = some u/\RelV (.int 1) u
 tK:∃ u,mg "LEAST_SIZE" = some u/\RelV (.int 2) u
 uA:∃ u,mg "MOST_DIALS" = some u/\RelV (.int 6) u
 qA:∃ u,mg "MOST_LEVERS" = some u/\RelV (.int 8) u
 uw:∃ u,mg "MOST_PRICE" = some u/\RelV (.int 1000) u
 nG:∃ u,mg "MOST_SETTINGS" = some u/\RelV (.int 1024) u
 vX:∃ u,mg "MOST_SIZE" = some u/\RelV (.int 360) u
 n5:ma K ar
 lK:ma K aw
 wj:A_ K mg h_ "NoSetting"
 zL:A_ K mg cQ "TooMany"
 mG:M5 K mg "TooMany" cQ ja jj
 iy:bX K ar "idle_rows"
 iu:bX K ar "made_rows"
 kL:bX K ar "vault"
 g_:bX K aw "dial_sizes"
 gm:bX K aw "least_round"
 fU:bX K aw "lever_prices"
 e8:bX K aw "lever_settings"
 uB:∀ C,(C==aw)=true->ma K C/\bX K C "dial_sizes"
 vU:∀ C,(C==ar)=true->ma K C/\bX K C "idle_rows"
 qH:∀ C,(C==aw)=true->ma K C/\bX K C "least_round"
 pU:∀ C,(C==aw)=true->ma K C/\bX K C "lever_prices"
 mi:∀ C,(C==aw)=true->ma K C/\bX K C "lever_settings"
 vg:∀ C,(C==ar)=true->ma K C/\bX K C "made_rows"
 EU:∀ C,(C==ar)=true->ma K C/\bX K C "vault"
local macro_rules | `(tactic| walk_at "t")=>`(tactic| (have z:=‹Txt _ _›;cases z))
variable{P:Program}{w:World}{K:PySem.W.Frag}{mg:Str->Option Value}{base:Heap}{f:Addr}{fd:FuncData}{dv:Value}
theorem uP(F:bq K "is_whole" "is_whole" (top 9) dv f fd)(T:Txt K mg)  : aY P w K mg base (bW P w) 1 f fd ["thing"] (dW 1 fD) :=
 F.gf ["thing"] λnd _ _ _ _ _ _ hr O=>by
 unfold jw;walk_at "t";walk_at "pp";refine(CD ?_ (Dp ?_));walk_at "pp";refine(xg (T := "int") (by rfl) T.eV (lS (v:=.ty "int") (by rfl) T.Gn Dm rfl) (by decide) wR wR ?_);walk_at "pp";refine(H0 ?_);walk_at "pp";refine(xg (T := "bool") (by rfl) T.eV (lS (v:=.ty "bool") (by rfl) T.BN DY rfl) (by decide) wR wR ?_);walk_at "pp"
theorem vp:((["number"]:List Str)++([]:List Str)).Nodup:=by decide +kernel
theorem zC(F:bq K "is_row" "is_row" (top 10) dv f fd)(T:Txt K mg)(OQ:dE P w K mg base 1 "is_whole" 1 (aB 1 jw)):aY P w K mg base (bW P w) 2 f fd ["thing", "length"] (dW 2 f_) :=
 F.gf ["thing", "length"] λnd _ _ _ _ _ _ hr O=>by
 unfold jN;walk_at "t";walk_at "pp";refine(vo ?_ (qi ?_)).pt;walk_at "pp";refine(EW (Ts:=["list", "tuple"]) (by rfl) T.eV (AW (fI (lS (v:=.ty "list") (by rfl) T.wG yp rfl) (fI (lS (v:=.ty "tuple") (by rfl) T.ua qh rfl) kW))) (fun σ H R h=>⟨by show 2<=sizeLine;decide,h⟩) (by decide) wR ?_);walk_at "pp";refine(cZ (bH (g:=(aJ 0)) (ts:=["number"]) (fs:=[]) (js:=[]) (cl:=[]) rfl rfl rfl rfl rfl rfl .nil .nil (dy ?_) cz (λ_ _ _ _ _=>(aO (i:=0) vp)) (λ_=>bp) bK (λ_ _ _ _ _=>?_)));walk_at "pp"
theorem yN(F:bq K "common" "common" (top 11) dv f fd)(T:Txt K mg)  : aY P w K mg base (bW P w) 1 f fd ["one", "other"] (dW 2 fY) :=
 F.gf ["one", "other", "row", "behind", "times", "rest"] λnd _ _ _ _ _ _ hr O=>by
 unfold jZ;walk_at "t";walk_at "pp";refine(uK O ?_ ?_);walk_at "pp"
theorem qc(F:bq K "multiple_of" "multiple_of" (top 12) dv f fd)(T:Txt K mg)(Pk:dE P w K mg base 1 "common" 2 (aB 6 jZ)):aY P w K mg base (bW P w) 2 f fd ["numbers"] (dW 1 fH) :=
 F.gf ["numbers", "multiple", "number"] λnd _ _ _ _ _ _ hr O=>by
 unfold fM;walk_at "t";walk_at "pp";refine(bF (g:=(aJ 2)) O rfl (dy ?_) cz (aO (i:=2) nd) bp ?_);walk_at "pp"
theorem rf(F:bq K "product_of" "product_of" (top 13) dv f fd)(T:Txt K mg)  : aY P w K mg base (bW P w) 1 f fd ["numbers"] (dW 1 gC) :=
 F.gf ["numbers", "product", "number"] λnd _ _ _ _ _ _ hr O=>by
 unfold gB;walk_at "t";walk_at "pp";refine(bF (g:=(aJ 2)) O rfl (dy ?_) cz (aO (i:=2) nd) bp ?_);walk_at "pp"
theorem qX:((["other"]:List Str)++(["place"]:List Str)).Nodup:=by decide +kernel
theorem ve(F:bq K "unit_row" "unit_row" (top 14) dv f fd)(T:Txt K mg)  : aY P w K mg base (bW P w) 1 f fd ["length", "place"] (dW 2 jr) :=
 F.gf ["length", "place"] λnd _ _ _ _ _ _ hr O=>by
 unfold jv;walk_at "t";walk_at "pp";refine(cZ (bH (g:=(aJ 0)) (ts:=["other"]) (fs:=["place"]) (js:=[1]) rfl rfl rfl rfl rfl rfl (.cons rfl .nil) (.cons rfl rfl (by walk_at "l") rfl rfl .nil) (eJ (by rfl) T.eh ?_) fV (λ_ _ _ _ _=>(aO (i:=0) qX)) (λ_=>bp) bK (λ_ _ _ _ _=>?_)));walk_at "pp"
theorem kG:((["number", "other"]:List Str)++([]:List Str)).Nodup:=by decide +kernel
theorem vV(F:bq K "rest_sum" "rest_sum" (top 15) dv f fd)(T:Txt K mg)  : aY P w K mg base (bW P w) 1 f fd ["numbers", "others", "by"] (dW 3 jq) :=
 F.gf ["numbers", "others", "by"] λnd _ _ _ _ _ _ hr O=>by
 unfold jc;walk_at "t";walk_at "pp";refine(cZ (bH (g:=(iF K 2 (br (aJ 0) (br (aJ 1) iM)))) (ts:=["number", "other"]) (fs:=[]) (js:=[]) (cl:=[]) rfl rfl rfl rfl rfl rfl .nil .nil (jX (by rfl) T.jE ?_) ik (λ_ _ _ _ _=>(dc (n:=2) rfl (aH (aO (i:=0) kG) (aH (aO (i:=1) kG) cx)))) (λ_=>cV) c7 (λ_ _ _ _ _=>?_)));walk_at "pp"
theorem sR(F:bq K "is_within" "is_within" (top 24) dv f fd)(T:Txt K mg)(OQ:dE P w K mg base 1 "is_whole" 1 (aB 1 jw)):aY P w K mg base (bW P w) 2 f fd ["thing", "least", "most"] (dW 3 dj) :=
 F.gf ["thing", "least", "most"] λnd _ _ _ _ _ _ hr O=>by
 unfold eG;walk_at "t";walk_at "pp";refine(CD ?_ (Dp ?_));walk_at "pp";refine(vt vc qb vc qb ?_ ?_ ?_);walk_at "pp"
theorem qR(F:bq K "need_sizes" "need_sizes" (top 25) dv f fd)(T:Txt K mg)(Pt:qS P w K mg base eS "NoDial" "dial")(Ot:dE P w K mg base 2 "is_within" 3 (aB 3 eG)):aY P w K mg base (bW P w) 3 f fd ["sizes"] (dW 1 gL) :=
 F.gf ["sizes", "dial", "size"] λnd _ _ _ _ _ _ hr O=>by
 unfold gM;walk_at "t";walk_at "pp";refine(bF (g:=(iF K 2 (br (aJ 1) (br (aJ 2) iM)))) O rfl (kR (by rfl) T.cS ?_) jx (dc (n:=2) rfl (aH (aO (i:=1) nd) (aH (aO (i:=2) nd) cx))) cV ?_);walk_at "pp"
theorem o8(F:bq K "need_levers" "need_levers" (top 26) dv f fd)(T:Txt K mg)(Pl:dE P w K mg base 2 "is_row" 2 (aB 2 jN))(P9:qS P w K mg base gU "NoLever" "lever"):aY P w K mg base (bW P w) 3 f fd ["levers", "dials"] (dW 2 fN) :=
 F.gf ["levers", "dials", "place", "lever"] λnd _ _ _ _ _ _ hr O=>by
 unfold fL;walk_at "t";walk_at "pp";refine(bF (g:=(iF K 2 (br (aJ 2) (br (aJ 3) iM)))) O rfl (kR (by rfl) T.cS ?_) jx (dc (n:=2) rfl (aH (aO (i:=2) nd) (aH (aO (i:=3) nd) cx))) cV ?_);walk_at "pp"
theorem qQ(F:bq K "prices_for" "prices_for" (top 27) dv f fd)(T:Txt K mg)(P_:qS P w K mg base fw "NoPrice" "lever")(Ot:dE P w K mg base 2 "is_within" 3 (aB 3 eG)):aY P w K mg base (bW P w) 3 f fd ["levers", "prices"] (dW 2 gN) :=
 F.gf ["levers", "prices", "place"] λnd _ _ _ _ _ _ hr O=>by
 unfold gD;walk_at "t";walk_at "pp";refine(bF (g:=(aJ 2)) O rfl (eJ (by rfl) T.eh ?_) fV (aO (i:=2) nd) bp ?_);walk_at "pp";refine(jW (ze rfl) ES (by rfl) T.F7 Iy ?_);walk_at "pp";refine(vo ?_ (qi ?_)).pt;walk_at "pp"
theorem qx:((["number", "size"]:List Str)++([]:List Str)).Nodup:=by decide +kernel
theorem Bs(F:bq K "rests" "rests" (top 28) dv f fd)(T:Txt K mg)  : aY P w K mg base (bW P w) 1 f fd ["numbers", "sizes"] (dW 2 jh) :=
 F.gf ["numbers", "sizes"] λnd _ _ _ _ _ _ hr O=>by
 unfold ki;walk_at "t";walk_at "pp";refine(cZ (bH (g:=(iF K 2 (br (aJ 0) (br (aJ 1) iM)))) (ts:=["number", "size"]) (fs:=[]) (js:=[]) (cl:=[]) rfl rfl rfl rfl rfl rfl .nil .nil (jX (by rfl) T.jE ?_) ik (λ_ _ _ _ _=>(dc (n:=2) rfl (aH (aO (i:=0) qx) (aH (aO (i:=1) qx) cx)))) (λ_=>cV) c7 (λ_ _ _ _ _=>?_)));walk_at "pp"
theorem pY:((["one", "two"]:List Str)++(["times", "others"]:List Str)).Nodup:=by decide +kernel
theorem B8(F:bq K "mixed" "mixed" (top 36) dv f fd)(T:Txt K mg)  : aY P w K mg base (bW P w) 1 f fd ["row", "times", "other", "others"] (dW 4 kj) :=
 F.gf ["row", "times", "other", "others"] λnd _ _ _ _ _ _ hr O=>by
 unfold lJ;walk_at "t";walk_at "pp";refine(cZ (bH (g:=(iF K 2 (br (aJ 0) (br (aJ 1) iM)))) (ts:=["one", "two"]) (fs:=["times", "others"]) (js:=[1,3]) rfl rfl rfl rfl rfl rfl (.cons rfl (.cons rfl .nil)) (.cons rfl rfl (by walk_at "l") rfl rfl (.cons rfl rfl (by walk_at "l") rfl rfl .nil)) (jX (by rfl) T.jE ?_) ik (λ_ _ _ _ _=>(dc (n:=2) rfl (aH (aO (i:=0) pY) (aH (aO (i:=1) pY) cx)))) (λ_=>cV) c7 (λ_ _ _ _ _=>?_)));walk_at "pp"
theorem qU(F:bq K "mixed_made" "mixed_made" (top 37) dv f fd)(T:Txt K mg)(PK:dE P w K mg base 1 "mixed" 4 (aB 4 lJ))(O1:dE P w K mg base 1 "rests" 2 (aB 2 ki)):aY P w K mg base (bW P w) 2 f fd ["sizes", "made", "times", "other", "others"] (dW 5 dM) :=
 F.gf ["sizes", "made", "times", "other", "others", "doing"] λnd _ _ _ _ _ _ hr O=>by
 unfold e9;walk_at "t";walk_at "pp"
theorem tf(F:bq K "step_size" "step_size" (top 40) dv f fd)(T:Txt K mg)  : aY P w K mg base (bW P w) 1 f fd ["sizes", "made_rows", "dial"] (dW 3 dz) :=
 F.gf ["sizes", "made_rows", "dial", "notch"] λnd _ _ _ _ _ _ hr O=>by
 unfold eI;walk_at "t";walk_at "pp"
theorem vI(F:bq K "taken_in" "taken_in" (top 41) dv f fd)(T:Txt K mg)(Ou:dE P w K mg base 1 "step_size" 3 (aB 4 eI))(Pk:dE P w K mg base 1 "common" 2 (aB 6 jZ))(OG:dE P w K mg base 2 "mixed_made" 5 (aB 6 e9)):aY P w K mg base (bW P w) 3 f fd ["sizes", "made_rows", "left"] (dW 3 jl) :=
 F.gf ["sizes", "made_rows", "left", "wider", "dial", "made", "step", "notch", "found"] λnd _ _ _ _ _ _ hr O=>by
 unfold jB;walk_at "t";walk_at "pp";refine(bF (g:=(iF K 2 (br (aJ 4) (br (aJ 5) iM)))) O rfl (kR (by rfl) T.cS ?_) jx (dc (n:=2) rfl (aH (aO (i:=4) nd) (aH (aO (i:=5) nd) cx))) cV ?_);walk_at "pp"
theorem xh(F:bq K "lowered" "lowered" (top 42) dv f fd)(T:Txt K mg)(Ou:dE P w K mg base 1 "step_size" 3 (aB 4 eI))(OG:dE P w K mg base 2 "mixed_made" 5 (aB 6 e9)):aY P w K mg base (bW P w) 3 f fd ["sizes", "made_rows", "made", "first"] (dW 4 fq) :=
 F.gf ["sizes", "made_rows", "made", "first", "dial", "times"] λnd _ _ _ _ _ _ hr O=>by
 unfold i0;walk_at "t";walk_at "pp";refine(bF (g:=(aJ 4)) O rfl (Ae (by rfl) T.eh ?_) Ds (aO (i:=4) nd) bp ?_);walk_at "pp"
theorem vC(F:bq K "in_spans" "in_spans" (top 43) dv f fd)(T:Txt K mg)(PK:dE P w K mg base 1 "mixed" 4 (aB 4 lJ)):aY P w K mg base (bW P w) 2 f fd ["pulls", "idle_rows"] (dW 2 g8) :=
 F.gf ["pulls", "idle_rows", "lever", "row"] λnd _ _ _ _ _ _ hr O=>by
 unfold g9;walk_at "t";walk_at "pp";refine(bF (g:=(aJ 2)) O rfl (rF (by rfl) T.eh ?_) vP (aO (i:=2) nd) bp ?_);walk_at "pp"
theorem uq(F:bq K "_law_cell" "_law_cell" (top 53) dv f fd)(T:Txt K mg)  : aY P w K mg base (bW P w) 1 f fd ["_law_script", "_law_k"] (dW 2 iz) :=
 F.gf ["_law_script", "_law_k"] λnd _ _ _ _ _ _ hr O=>by
 unfold iA;walk_at "t";walk_at "pp"
theorem u7(F:bq K "_law_mix" "_law_mix" (top 54) dv f fd)(T:Txt K mg)  : aY P w K mg base (bW P w) 1 f fd ["_law_cell_here", "_law_k"] (dW 2 dC) :=
 F.gf ["_law_cell_here", "_law_k", "_law_number"] λnd _ _ _ _ _ _ hr O=>by
 unfold fj;walk_at "t";walk_at "pp"
theorem oM(F:bq K "_law_digits" "_law_digits" (top 55) dv f fd)(T:Txt K mg)  : aY P w K mg base (bW P w) 1 f fd ["_law_cell_here", "_law_sizes_here"] (dW 2 cG) :=
 F.gf ["_law_cell_here", "_law_sizes_here", "_law_row", "_law_size_here"] λnd _ _ _ _ _ _ hr O=>by
 unfold da;walk_at "t";walk_at "pp";refine(bF (g:=(aJ 3)) O rfl (dy ?_) cz (aO (i:=3) nd) bp ?_);walk_at "pp"
theorem uC(F:bq K "_law_size" "_law_size" (top 56) dv f fd)(T:Txt K mg)  : aY P w K mg base (bW P w) 1 f fd ["_law_number"] (dW 1 eH) :=
 F.gf ["_law_number"] λnd _ _ _ _ _ _ hr O=>by
 unfold ir;walk_at "t";walk_at "pp";exact(n_ [2,3,4,6,8,9,12]);walk_at "pp";exact(n_ [1,2,5,10,30]);walk_at "pp"
theorem nQ:((["_law_number"]:List Str)++([]:List Str)).Nodup:=by decide +kernel
theorem nM:((["_law_k"]:List Str)++(["_law_cell_here"]:List Str)).Nodup:=by decide +kernel
theorem qY(F:bq K "_law_sizes" "_law_sizes" (top 57) dv f fd)(T:Txt K mg)(Oi:dE P w K mg base 1 "_law_digits" 2 (aB 4 da))(Oy:dE P w K mg base 1 "_law_mix" 2 (aB 3 fj))(PC:dE P w K mg base 1 "_law_size" 1 (aB 1 ir)):aY P w K mg base (bW P w) 2 f fd ["_law_cell_here"] (dW 1 gJ) :=
 F.gf ["_law_cell_here", "_law_many"] λnd _ _ _ _ _ _ hr O=>by
 unfold gS;walk_at "t";walk_at "pp";refine(cZ (bH (g:=(aJ 0)) (ts:=["_law_number"]) (fs:=[]) (js:=[]) (cl:=[]) rfl rfl rfl rfl rfl rfl .nil .nil (dy ?_) cz (λ_ _ _ _ _=>(aO (i:=0) nQ)) (λ_=>bp) bK (λ_ _ _ _ _=>?_)));walk_at "pp";exact(n_ [1,2,3,4,2,3,5,6]);walk_at "pp";refine(cZ (bH (g:=(aJ 0)) (ts:=["_law_k"]) (fs:=["_law_cell_here"]) (js:=[0]) rfl rfl rfl rfl rfl rfl (.cons rfl .nil) (.cons rfl rfl (by walk_at "l") rfl rfl .nil) (eJ (by rfl) T.eh ?_) fV (λ_ _ _ _ _=>(aO (i:=0) nM)) (λ_=>bp) bK (λ_ _ _ _ _=>?_)));walk_at "pp"
theorem qP(F:bq K "_law_lever" "_law_lever" (top 58) dv f fd)(T:Txt K mg)(Oi:dE P w K mg base 1 "_law_digits" 2 (aB 4 da))(Oy:dE P w K mg base 1 "_law_mix" 2 (aB 3 fj)):aY P w K mg base (bW P w) 2 f fd ["_law_cell_here", "_law_sizes_here"] (dW 2 dR) :=
 F.gf ["_law_cell_here", "_law_sizes_here", "_law_factor", "_law_row", "_law_k", "_law_size_here", "_law_number"] λnd _ _ _ _ _ _ hr O=>by
 unfold gP;walk_at "t";walk_at "pp";exact(n_ [1,2,3,6,12,30]);walk_at "pp";refine(bF (g:=(iF K 2 (br (aJ 4) (br (aJ 5) iM)))) O rfl (kR (by rfl) T.cS ?_) jx (dc (n:=2) rfl (aH (aO (i:=4) nd) (aH (aO (i:=5) nd) cx))) cV ?_);walk_at "pp"
theorem qD(F:bq K "_law_round" "_law_round" (top 59) dv f fd)(T:Txt K mg)  : aY P w K mg base (bW P w) 1 f fd ["_law_sizes_here"] (dW 1 gQ) :=
 F.gf ["_law_sizes_here", "_law_found", "_law_size_here", "_law_one", "_law_other"] λnd _ _ _ _ _ _ hr O=>by
 unfold gT;walk_at "t";walk_at "pp";refine(bF (g:=(aJ 2)) O rfl (dy ?_) cz (aO (i:=2) nd) bp ?_);walk_at "pp";refine(uK O ?_ ?_);walk_at "pp";refine(HY (i:=3) (j:=4) rfl nd rfl rfl (by decide) rfl rfl ?_ ?_);walk_at "pp";exact rfl;walk_at "pp"
theorem gk:((["_law_weight", "_law_notch", "_law_size_here"]:List Str)++(["_law_around"]:List Str)).Nodup:=by decide +kernel
theorem qE(F:bq K "_law_weigh" "_law_weigh" (top 60) dv f fd)(T:Txt K mg)(Pf:dE P w K mg base 1 "_law_round" 1 (aB 5 gT)):aY P w K mg base (bW P w) 2 f fd ["_law_weights", "_law_setting_here", "_law_sizes_here"] (dW 3 gR) :=
 F.gf ["_law_weights", "_law_setting_here", "_law_sizes_here", "_law_around"] λnd _ _ _ _ _ _ hr O=>by
 unfold gH;walk_at "t";walk_at "pp";refine(cZ (bH (g:=(iF K 3 (br (aJ 0) (br (aJ 1) (br (aJ 2) iM))))) (ts:=["_law_weight", "_law_notch", "_law_size_here"]) (fs:=["_law_around"]) (js:=[3]) rfl rfl rfl rfl rfl rfl (.cons rfl .nil) (.cons rfl rfl (by walk_at "l") rfl rfl .nil) (sU (by rfl) T.jE ?_) pG (λ_ _ _ _ _=>(dc (n:=3) rfl (aH (aO (i:=0) gk) (aH (aO (i:=1) gk) (aH (aO (i:=2) gk) cx))))) (λ_=>ug) qu (λ_ _ _ _ _=>?_)));walk_at "pp"
theorem nW(F:bq K "_law_product" "_law_product" (top 61) dv f fd)(T:Txt K mg)  : aY P w K mg base (bW P w) 1 f fd ["_law_numbers"] (dW 1 cv) :=
 F.gf ["_law_numbers", "_law_found", "_law_number"] λnd _ _ _ _ _ _ hr O=>by
 unfold eW;walk_at "t";walk_at "pp";refine(bF (g:=(aJ 2)) O rfl (dy ?_) cz (aO (i:=2) nd) bp ?_);walk_at "pp"
theorem rA(F:bq K "_law_still" "_law_still" (top 62) dv f fd)(T:Txt K mg)(Ph:dE P w K mg base 2 "_law_weigh" 3 (aB 4 gH)):aY P w K mg base (bW P w) 3 f fd ["_law_weights", "_law_levers", "_law_sizes_here"] (dW 3 bY) :=
 F.gf ["_law_weights", "_law_levers", "_law_sizes_here", "_law_lever_here"] λnd _ _ _ _ _ _ hr O=>by
 unfold eO;walk_at "t";walk_at "pp";refine(bF (g:=(aJ 3)) O rfl (dy ?_) cz (aO (i:=3) nd) bp ?_);walk_at "pp"
theorem eN:((["_law_here", "_law_more", "_law_size_here"]:List Str)++(["_law_many"]:List Str)).Nodup:=by decide +kernel
theorem nv(F:bq K "_law_setting" "_law_setting" (top 63) dv f fd)(T:Txt K mg)(Oi:dE P w K mg base 1 "_law_digits" 2 (aB 4 da))(Oy:dE P w K mg base 1 "_law_mix" 2 (aB 3 fj)):aY P w K mg base (bW P w) 2 f fd ["_law_cell_here", "_law_levers", "_law_sizes_here"] (dW 3 e6) :=
 F.gf ["_law_cell_here", "_law_levers", "_law_sizes_here", "_law_found", "_law_k", "_law_lever_here", "_law_many", "_law_at"] λnd _ _ _ _ _ _ hr O=>by
 unfold eR;walk_at "t";walk_at "pp";refine(FD (by rfl) T.wG ?_);walk_at "pp";refine(Bv ?_ ?_);walk_at "pp";refine(bF (g:=(iF K 2 (br (aJ 4) (br (aJ 5) iM)))) O rfl (kR (by rfl) T.cS ?_) jx (dc (n:=2) rfl (aH (aO (i:=4) nd) (aH (aO (i:=5) nd) cx))) cV ?_);walk_at "pp";refine(yM 3 (i:=3) (g:=(iF K 3 (br (aJ 0) (br (aJ 1) (br (aJ 2) iM))))) (ts:=["_law_here", "_law_more", "_law_size_here"]) (fs:=["_law_many"]) (js:=[6]) rfl rfl rfl rfl rfl rfl (.cons rfl .nil) (.cons rfl rfl (by walk_at "l") rfl rfl .nil) (sU (by rfl) T.jE ?_) pG (λ_ _ _ _ _=>(dc (n:=3) rfl (aH (aO (i:=0) eN) (aH (aO (i:=1) eN) (aH (aO (i:=2) eN) cx))))) (λ_=>ug) qu (λ_ _ _ _ _=>?_) nd rfl (by walk_at "l"));walk_at "pp";refine(CP (i:=3) rfl (by first | exact .inl rfl | exact .inr (.inl rfl)) ?_ ?_);walk_at "pp";refine(uJ 3 ?_);walk_at "pp"
theorem kH:cH ["self", "sizes", "levers", "prices"] ["self", "sizes", "levers", "prices"] (bg (inClass (top 23) 0)):=.of
theorem nN:((["lever"]:List Str)++(["sizes"]:List Str)).Nodup:=by decide +kernel
theorem qV(F:bq K "__init__" "Vault.__init__" (inClass (top 23) 0) dv f fd)(T:Txt K mg)(Po:dE P w K mg base 3 "need_sizes" 1 (aB 3 gM))(O9:dE P w K mg base 3 "need_levers" 2 (aB 4 fL))(O1:dE P w K mg base 1 "rests" 2 (aB 2 ki))(Pp:dE P w K mg base 3 "prices_for" 2 (aB 3 gD))(O8:dE P w K mg base 2 "multiple_of" 1 (aB 3 fM)):aY P w K mg base (bW P w) 4 f fd ["self", "sizes", "levers", "prices"] (FU 4 aw dZ) :=
 F.NB kH (by decide) λ_ _ _ _ _ _ hr O=>by
 unfold i_;have:=kH.nd;have T2:=T;cases T2;walk_at "pp";refine(kY (i:=0) rfl (by first | exact .inl rfl | exact .inr (.inl rfl)) T.lK T.g_ ?_);walk_at "pp";refine(kY (i:=0) rfl (by first | exact .inl rfl | exact .inr (.inl rfl)) T.lK T.e8 ?_);walk_at "pp";refine(cZ (bH (g:=(aJ 0)) (ts:=["lever"]) (fs:=["sizes"]) (js:=[1]) rfl rfl rfl rfl rfl rfl (.cons rfl .nil) (.cons rfl rfl (by walk_at "l") rfl rfl .nil) (dy ?_) cz (λ_ _ _ _ _=>(aO (i:=0) nN)) (λ_=>bp) bK (λ_ _ _ _ _=>?_)));walk_at "pp";refine(kY (i:=0) rfl (by first | exact .inl rfl | exact .inr (.inl rfl)) T.lK T.fU ?_);walk_at "pp";refine(kY (i:=0) rfl (by first | exact .inl rfl | exact .inr (.inl rfl)) T.lK T.gm ?_);walk_at "pp"
theorem qg(F:bq K "sizes" "Vault.sizes" (inClass (top 23) 1) dv f fd)(T:Txt K mg)  : aY P w K mg base (bW P w) 1 f fd ["self"] (dW 1 aT) :=
 F.gf ["self"] λnd _ _ _ _ _ _ hr O=>by
 unfold bb;walk_at "t";walk_at "pp"
theorem nI(F:bq K "levers" "Vault.levers" (inClass (top 23) 2) dv f fd)(T:Txt K mg)  : aY P w K mg base (bW P w) 1 f fd ["self"] (dW 1 a_) :=
 F.gf ["self"] λnd _ _ _ _ _ _ hr O=>by
 unfold cp;walk_at "t";walk_at "pp"
theorem nu(F:bq K "around" "Vault.around" (inClass (top 23) 4) dv f fd)(T:Txt K mg)  : aY P w K mg base (bW P w) 1 f fd ["self"] (dW 1 cK) :=
 F.gf ["self"] λnd _ _ _ _ _ _ hr O=>by
 unfold dF;walk_at "t";walk_at "pp"
theorem mw:((["dial"]:List Str)++(["self", "sizes"]:List Str)).Nodup:=by decide +kernel
theorem pT(F:bq K "steps" "Rungs.steps" (inClass (top 44) 1) dv f fd)(T:Txt K mg)(N7:jQ P w K mg base aw 1 "sizes" 1 (aB 1 bb))(Ou:dE P w K mg base 1 "step_size" 3 (aB 4 eI)):aY P w K mg base (bW P w) 2 f fd ["self"] (dW 1 cD) :=
 F.gf ["self", "sizes"] λnd _ _ _ _ _ _ hr O=>by
 unfold c_;walk_at "t";walk_at "pp";refine(cZ (bH (g:=(aJ 0)) (ts:=["dial"]) (fs:=["self", "sizes"]) (js:=[0,1]) rfl rfl rfl rfl rfl rfl (.cons rfl (.cons rfl .nil)) (.cons rfl rfl (by walk_at "l") rfl rfl (.cons rfl rfl (by walk_at "l") rfl rfl .nil)) (eJ (by rfl) T.eh ?_) fV (λ_ _ _ _ _=>(aO (i:=0) mw)) (λ_=>bp) bK (λ_ _ _ _ _=>?_)));walk_at "pp"
theorem nB:((["made"]:List Str)++([]:List Str)).Nodup:=by decide +kernel
theorem qJ(F:bq K "rows" "Rungs.rows" (inClass (top 44) 2) dv f fd)(T:Txt K mg)  : aY P w K mg base (bW P w) 1 f fd ["self"] (dW 1 eT) :=
 F.gf ["self"] λnd _ _ _ _ _ _ hr O=>by
 unfold eP;walk_at "t";walk_at "pp";refine(cZ (bH (g:=(aJ 0)) (ts:=["made"]) (fs:=[]) (js:=[]) (cl:=[]) rfl rfl rfl rfl rfl rfl .nil .nil (dy ?_) cz (λ_ _ _ _ _=>(aO (i:=0) nB)) (λ_=>bp) bK (λ_ _ _ _ _=>?_)));walk_at "pp"
theorem iQ:((["lever", "row"]:List Str)++([]:List Str)).Nodup:=by decide +kernel
theorem qm(F:bq K "spans" "Rungs.spans" (inClass (top 44) 3) dv f fd)(T:Txt K mg)  : aY P w K mg base (bW P w) 1 f fd ["self"] (dW 1 fF) :=
 F.gf ["self"] λnd _ _ _ _ _ _ hr O=>by
 unfold fK;walk_at "t";walk_at "pp";refine(cZ (bH (g:=(iF K 2 (br (aJ 0) (br (aJ 1) iM)))) (ts:=["lever", "row"]) (fs:=[]) (js:=[]) (cl:=[]) rfl rfl rfl rfl rfl rfl .nil .nil (kR (by rfl) T.cS ?_) jx (λ_ _ _ _ _=>(dc (n:=2) rfl (aH (aO (i:=0) iQ) (aH (aO (i:=1) iQ) cx)))) (λ_=>cV) c7 (λ_ _ _ _ _=>?_)));walk_at "pp"
theorem zD(F:bq K "nought" "nought" (top 29) dv f fd)(T:Txt K mg)(N7:jQ P w K mg base aw 1 "sizes" 1 (aB 1 bb)):aY P w K mg base (bW P w) 2 f fd ["vault"] (dW 1 gc) :=
 F.gf ["vault"] λnd _ _ _ _ _ _ hr O=>by
 unfold gW;walk_at "t";walk_at "pp"
theorem jD:((["notch", "size"]:List Str)++([]:List Str)).Nodup:=by decide +kernel
theorem qN(F:bq K "is_setting" "is_setting" (top 30) dv f fd)(T:Txt K mg)(N7:jQ P w K mg base aw 1 "sizes" 1 (aB 1 bb))(Pl:dE P w K mg base 2 "is_row" 2 (aB 2 jN)):aY P w K mg base (bW P w) 3 f fd ["vault", "thing"] (dW 2 gO) :=
 F.gf ["vault", "thing", "sizes"] λnd _ _ _ _ _ _ hr O=>by
 unfold gF;walk_at "t";walk_at "pp";refine(vo ?_ (qi ?_)).pt;walk_at "pp";refine(xg (T := "tuple") (by rfl) T.eV (lS (v:=.ty "tuple") (by rfl) T.ua qh rfl) (by decide) wR wR ?_);walk_at "pp";refine(cZ (bH (g:=(iF K 2 (br (aJ 0) (br (aJ 1) iM)))) (ts:=["notch", "size"]) (fs:=[]) (js:=[]) (cl:=[]) rfl rfl rfl rfl rfl rfl .nil .nil (jX (by rfl) T.jE ?_) ik (λ_ _ _ _ _=>(dc (n:=2) rfl (aH (aO (i:=0) jD) (aH (aO (i:=1) jD) cx)))) (λ_=>cV) c7 (λ_ _ _ _ _=>?_)));walk_at "pp";refine(vt vc qb AF wU ?_ ?_ ?_);walk_at "pp"
theorem nU(F:bq K "need_setting" "need_setting" (top 31) dv f fd)(T:Txt K mg)(Pm:dE P w K mg base 3 "is_setting" 2 (aB 3 gF)):aY P w K mg base (bW P w) 4 f fd ["vault", "thing"] (dW 2 ck) :=
 F.gf ["vault", "thing"] λnd _ _ _ _ _ _ hr O=>by
 unfold cO;walk_at "t";walk_at "pp"
theorem ph:((["notch", "turn"]:List Str)++(["times"]:List Str)).Nodup:=by decide +kernel
theorem CC(F:bq K "added" "added" (top 32) dv f fd)(T:Txt K mg)(N7:jQ P w K mg base aw 1 "sizes" 1 (aB 1 bb))(O1:dE P w K mg base 1 "rests" 2 (aB 2 ki)):aY P w K mg base (bW P w) 2 f fd ["vault", "setting", "other", "times"] (dW 4 lB) :=
 F.gf ["vault", "setting", "other", "times", "numbers"] λnd _ _ _ _ _ _ hr O=>by
 unfold oh;walk_at "t";walk_at "pp";refine(n9 (i:=4) (g:=(iF K 2 (br (aJ 0) (br (aJ 1) iM)))) (ts:=["notch", "turn"]) (fs:=["times"]) (js:=[3]) rfl rfl rfl rfl rfl rfl (.cons rfl .nil) (.cons rfl rfl (by walk_at "l") rfl rfl .nil) (jX (by rfl) T.jE ?_) ik (λ_ _ _ _ _=>(dc (n:=2) rfl (aH (aO (i:=0) ph) (aH (aO (i:=1) ph) cx)))) (λ_=>cV) c7 (λ_ _ _ _ _=>?_) nd rfl (by walk_at "l"));walk_at "pp"
theorem pF:((["weight", "size"]:List Str)++(["around"]:List Str)).Nodup:=by decide +kernel
theorem Bl(F:bq K "weigh" "weigh" (top 34) dv f fd)(T:Txt K mg)(Og:dE P w K mg base 4 "need_setting" 2 (aB 2 cO))(Ow:jQ P w K mg base aw 1 "around" 1 (aB 1 dF))(N7:jQ P w K mg base aw 1 "sizes" 1 (aB 1 bb))(PN:dE P w K mg base 1 "rest_sum" 3 (aB 3 jc)):aY P w K mg base (bW P w) 5 f fd ["vault", "weights", "setting"] (dW 3 om) :=
 F.gf ["vault", "weights", "setting", "around", "worths"] λnd _ _ _ _ _ _ hr O=>by
 unfold oq;walk_at "t";walk_at "pp";refine(n9 (i:=4) (g:=(iF K 2 (br (aJ 0) (br (aJ 1) iM)))) (ts:=["weight", "size"]) (fs:=["around"]) (js:=[3]) rfl rfl rfl rfl rfl rfl (.cons rfl .nil) (.cons rfl rfl (by walk_at "l") rfl rfl .nil) (jX (by rfl) T.jE ?_) ik (λ_ _ _ _ _=>(dc (n:=2) rfl (aH (aO (i:=0) pF) (aH (aO (i:=1) pF) cx)))) (λ_=>cV) c7 (λ_ _ _ _ _=>?_) nd rfl (by walk_at "l"));walk_at "pp"
theorem v_(F:bq K "unpulled" "unpulled" (top 38) dv f fd)(T:Txt K mg)(Ob:jQ P w K mg base aw 1 "levers" 1 (aB 1 cp)):aY P w K mg base (bW P w) 2 f fd ["vault", "setting"] (dW 2 fx) :=
 F.gf ["vault", "setting"] λnd _ _ _ _ _ _ hr O=>by
 unfold gZ;walk_at "t";walk_at "pp"
theorem p_(F:bq K "pulled_once" "pulled_once" (top 39) dv f fd)(T:Txt K mg)(Ob:jQ P w K mg base aw 1 "levers" 1 (aB 1 cp))(PR:dE P w K mg base 1 "unit_row" 2 (aB 2 jv)):aY P w K mg base (bW P w) 2 f fd ["vault", "lever"] (dW 2 fS) :=
 F.gf ["vault", "lever", "levers"] λnd _ _ _ _ _ _ hr O=>by
 unfold fO;walk_at "t";walk_at "pp"
theorem iJ:cH ["self", "vault", "sizes", "made_rows", "idle_rows", "lever", "taken"] ["self", "vault"] (bg (inClass (top 44) 0)):=.of
theorem nq:((["size"]:List Str)++(["vault"]:List Str)).Nodup:=by decide +kernel
theorem jG:((["dial", "made"]:List Str)++(["sizes", "made_rows"]:List Str)).Nodup:=by decide +kernel
theorem qM(F:bq K "__init__" "Rungs.__init__" (inClass (top 44) 0) dv f fd)(T:Txt K mg)(N7:jQ P w K mg base aw 1 "sizes" 1 (aB 1 bb))(OC:dE P w K mg base 2 "nought" 1 (aB 1 gW))(OR:dE P w K mg base 2 "unpulled" 2 (aB 2 gZ))(Ob:jQ P w K mg base aw 1 "levers" 1 (aB 1 cp))(O_:dE P w K mg base 2 "pulled_once" 2 (aB 3 fO))(PQ:dE P w K mg base 3 "taken_in" 3 (aB 9 jB))(OP:dE P w K mg base 2 "in_spans" 2 (aB 4 g9))(O0:dE P w K mg base 3 "lowered" 4 (aB 6 i0)):aY P w K mg base (bW P w) 4 f fd ["self", "vault"] (FU 2 ar cW) :=
 F.NB iJ (by decide) λ_ _ _ _ _ _ hr O=>by
 unfold jz;have:=iJ.nd;have T2:=T;cases T2;walk_at "pp";refine(cZ (bH (g:=(aJ 0)) (ts:=["size"]) (fs:=["vault"]) (js:=[1]) rfl rfl rfl rfl rfl rfl (.cons rfl .nil) (.cons rfl rfl (by walk_at "l") rfl rfl .nil) (dy ?_) cz (λ_ _ _ _ _=>(aO (i:=0) nq)) (λ_=>bp) bK (λ_ _ _ _ _=>?_)));walk_at "pp";refine(bF (g:=(aJ 5)) O rfl (eJ (by rfl) T.eh ?_) fV (aO (i:=5) iJ.nd) bp ?_);walk_at "pp";refine(uJ 4 ?_);walk_at "pp";refine(kY (i:=0) rfl (by first | exact .inl rfl | exact .inr (.inl rfl)) T.n5 T.kL ?_);walk_at "pp";refine(kY (i:=0) rfl (by first | exact .inl rfl | exact .inr (.inl rfl)) T.n5 T.iu ?_);walk_at "pp";refine(cZ (bH (g:=(iF K 2 (br (aJ 0) (br (aJ 1) iM)))) (ts:=["dial", "made"]) (fs:=["sizes", "made_rows"]) (js:=[2,3]) rfl rfl rfl rfl rfl rfl (.cons rfl (.cons rfl .nil)) (.cons rfl rfl (by walk_at "l") rfl rfl (.cons rfl rfl (by walk_at "l") rfl rfl .nil)) (kR (by rfl) T.cS ?_) jx (λ_ _ _ _ _=>(dc (n:=2) rfl (aH (aO (i:=0) jG) (aH (aO (i:=1) jG) cx)))) (λ_=>cV) c7 (λ_ _ _ _ _=>?_)));walk_at "pp";refine(kY (i:=0) rfl (by first | exact .inl rfl | exact .inr (.inl rfl)) T.n5 T.iy ?_);walk_at "pp"
theorem jI(F:bq K "brought_down" "Rungs.brought_down" (inClass (top 44) 5) dv f fd)(T:Txt K mg)(Og:dE P w K mg base 4 "need_setting" 2 (aB 2 cO))(OR:dE P w K mg base 2 "unpulled" 2 (aB 2 gZ))(N7:jQ P w K mg base aw 1 "sizes" 1 (aB 1 bb))(O0:dE P w K mg base 3 "lowered" 4 (aB 6 i0)):aY P w K mg base (bW P w) 5 f fd ["self", "setting"] (dW 2 bA) :=
 F.gf ["self", "setting"] λnd _ _ _ _ _ _ hr O=>by
 unfold bM;walk_at "t";walk_at "pp"
theorem pV(F:bq K "least" "Rungs.least" (inClass (top 44) 6) dv f fd)(T:Txt K mg)(Od:jQ P w K mg base ar 5 "brought_down" 2 (aB 2 bM)):aY P w K mg base (bW P w) 6 f fd ["self", "setting"] (dW 2 fJ) :=
 F.gf ["self", "setting"] λnd _ _ _ _ _ _ hr O=>by
 unfold fG;walk_at "t";walk_at "pp"
theorem kC:((["times"]:List Str)++([]:List Str)).Nodup:=by decide +kernel
theorem lO(F:bq K "pulls_to" "Rungs.pulls_to" (inClass (top 44) 7) dv f fd)(T:Txt K mg)(Od:jQ P w K mg base ar 5 "brought_down" 2 (aB 2 bM))(OC:dE P w K mg base 2 "nought" 1 (aB 1 gW))(OP:dE P w K mg base 2 "in_spans" 2 (aB 4 g9)):aY P w K mg base (bW P w) 6 f fd ["self", "setting"] (dW 2 cj) :=
 F.gf ["self", "setting", "made"] λnd _ _ _ _ _ _ hr O=>by
 unfold cP;walk_at "t";walk_at "pp";refine(cZ (bH (g:=(aJ 0)) (ts:=["times"]) (fs:=[]) (js:=[]) (cl:=[]) rfl rfl rfl rfl rfl rfl .nil .nil (dy ?_) cz (λ_ _ _ _ _=>(aO (i:=0) kC)) (λ_=>bp) bK (λ_ _ _ _ _=>?_)));walk_at "pp"
theorem fg:((["size", "step"]:List Str)++([]:List Str)).Nodup:=by decide +kernel
theorem kE(F:bq K "weights_at" "Rungs.weights_at" (inClass (top 44) 8) dv f fd)(T:Txt K mg)(N7:jQ P w K mg base aw 1 "sizes" 1 (aB 1 bb))(Ot:dE P w K mg base 2 "is_within" 3 (aB 3 eG))(Pt:qS P w K mg base eS "NoDial" "dial")(Oh:jQ P w K mg base ar 2 "steps" 1 (aB 2 c_))(QG:dE P w K mg base 5 "weigh" 3 (aB 5 oq))(Ow:jQ P w K mg base aw 1 "around" 1 (aB 1 dF)):aY P w K mg base (bW P w) 6 f fd ["self", "dial"] (dW 2 bx) :=
 F.gf ["self", "dial", "sizes", "fills", "weights", "ahead", "weighed", "share"] λnd _ _ _ _ _ _ hr O=>by
 unfold cU;walk_at "t";walk_at "pp";refine(n9 (i:=3) (g:=(iF K 2 (br (aJ 0) (br (aJ 1) iM)))) (ts:=["size", "step"]) (fs:=[]) (js:=[]) (cl:=[]) rfl rfl rfl rfl rfl rfl .nil .nil (jX (by rfl) T.jE ?_) ik (λ_ _ _ _ _=>(dc (n:=2) rfl (aH (aO (i:=0) fg) (aH (aO (i:=1) fg) cx)))) (λ_=>cV) c7 (λ_ _ _ _ _=>?_) nd rfl (by walk_at "l"));walk_at "pp";refine(Bv ?_ ?_);walk_at "pp";refine(CP (i:=4) rfl (by first | exact .inl rfl | exact .inr (.inl rfl)) ?_ ?_);walk_at "pp";refine(bF (g:=(aJ 5)) O rfl (rF (by rfl) T.eh ?_) vP (aO (i:=5) nd) bp ?_);walk_at "pp";refine(uJ 4 ?_);walk_at "pp";refine(CP (i:=4) rfl (by first | exact .inl rfl | exact .inr (.inl rfl)) ?_ ?_);walk_at "pp"
theorem l4:((["reached"]:List Str)++(["vault", "row", "times"]:List Str)).Nodup:=by decide +kernel
theorem nL(F:bq K "all_together" "all_together" (top 47) dv f fd)(T:Txt K mg)(Og:dE P w K mg base 4 "need_setting" 2 (aB 2 cO))(Oe:Ao P w K mg base ar 4 "Rungs" 2 [] cW)(O6:jQ P w K mg base ar 1 "spans" 1 (aB 1 fK))(Pq:dE P w K mg base 1 "product_of" 1 (aB 3 gB))(O5:jQ P w K mg base ar 6 "least" 2 (aB 2 fG))(OE:jQ P w K mg base ar 1 "rows" 1 (aB 1 eP))(Oh:jQ P w K mg base ar 2 "steps" 1 (aB 2 c_))(N7:jQ P w K mg base aw 1 "sizes" 1 (aB 1 bb))(QF:dE P w K mg base 2 "added" 4 (aB 5 oh)):aY P w K mg base (bW P w) 7 f fd ["vault", "setting"] (dW 2 cq) :=
 F.gf ["vault", "setting", "rungs", "settings", "size", "step", "row", "wider", "times"] λnd _ _ _ _ _ _ hr O=>by
 unfold dm;walk_at "t";walk_at "pp";refine(bF (g:=(iF K 3 (br (aJ 4) (br (aJ 5) (br (aJ 6) iM))))) O rfl (sU (by rfl) T.jE ?_) pG (dc (n:=3) rfl (aH (aO (i:=4) nd) (aH (aO (i:=5) nd) (aH (aO (i:=6) nd) cx)))) ug ?_);walk_at "pp";refine(bF (g:=(aJ 8)) O rfl (eJ (by rfl) T.eh ?_) fV (aO (i:=8) nd) bp ?_);walk_at "pp";refine(yV (i:=7) rfl (by first | exact .inl rfl | exact .inr (.inl rfl)) ?_);walk_at "pp";refine(cZ (bH (g:=(aJ 0)) (ts:=["reached"]) (fs:=["vault", "row", "times"]) (js:=[0,6,8]) rfl rfl rfl rfl rfl rfl (.cons rfl (.cons rfl (.cons rfl .nil))) (.cons rfl rfl (by walk_at "l") rfl rfl (.cons rfl rfl (by walk_at "l") rfl rfl (.cons rfl rfl (by walk_at "l") rfl rfl .nil))) (dy ?_) cz (λ_ _ _ _ _=>(aO (i:=0) l4)) (λ_=>bp) bK (λ_ _ _ _ _=>?_)));walk_at "pp";refine(jW zi Eb (by rfl) T.uL zk ?_);walk_at "pp"
theorem w6:((["row"]:List Str)++(["none"]:List Str)).Nodup:=by decide +kernel
theorem BE(F:bq K "clear" "clear" (top 49) dv f fd)(T:Txt K mg)(OC:dE P w K mg base 2 "nought" 1 (aB 1 gW))(Oe:Ao P w K mg base ar 4 "Rungs" 2 [] cW)(OE:jQ P w K mg base ar 1 "rows" 1 (aB 1 eP))(N7:jQ P w K mg base aw 1 "sizes" 1 (aB 1 bb))(Ol:Ao P w K mg base aw 4 "Vault" 4 [.cJ] dZ):aY P w K mg base (bW P w) 6 f fd ["vault"] (dW 1 kf) :=
 F.gf ["vault", "none"] λnd _ _ _ _ _ _ hr O=>by
 unfold lU;walk_at "t";walk_at "pp";refine(cZ (Dg (g:=(aJ 0)) (ts:=["row"]) (fs:=["none"]) (js:=[1]) rfl rfl rfl rfl rfl rfl (.cons rfl .nil) (.cons rfl rfl (by walk_at "l") rfl rfl .nil) (dy ?_) cz (λ_ _ _ _ _=>(aO (i:=0) w6)) (λ_=>bp) bK (λ_ _ _ _ _=>?_) (λ_ _ _ _ _=>?_)));walk_at "pp"
theorem wa:((["dial"]:List Str)++(["rungs"]:List Str)).Nodup:=by decide +kernel
theorem Ai(F:bq K "stills" "stills" (top 50) dv f fd)(T:Txt K mg)(Oe:Ao P w K mg base ar 4 "Rungs" 2 [] cW)(N7:jQ P w K mg base aw 1 "sizes" 1 (aB 1 bb))(OI:jQ P w K mg base ar 6 "weights_at" 2 (aB 8 cU))(Ol:Ao P w K mg base aw 4 "Vault" 4 [.cJ] dZ)(PJ:dE P w K mg base 6 "clear" 1 (aB 2 lU)):aY P w K mg base (bW P w) 7 f fd ["vault"] (dW 1 gY) :=
 F.gf ["vault", "rungs", "sizes"] λnd _ _ _ _ _ _ hr O=>by
 unfold j0;walk_at "t";walk_at "pp";refine(cZ (bH (g:=(aJ 0)) (ts:=["dial"]) (fs:=["rungs"]) (js:=[1]) rfl rfl rfl rfl rfl rfl (.cons rfl .nil) (.cons rfl rfl (by walk_at "l") rfl rfl .nil) (eJ (by rfl) T.eh ?_) fV (λ_ _ _ _ _=>(aO (i:=0) wa)) (λ_=>bp) bK (λ_ _ _ _ _=>?_)));walk_at "pp"
theorem qT(F:bq K "all_stills" "all_stills" (top 51) dv f fd)(T:Txt K mg)(OC:dE P w K mg base 2 "nought" 1 (aB 1 gW))(Pr:dE P w K mg base 7 "stills" 1 (aB 3 j0))(OY:dE P w K mg base 7 "all_together" 2 (aB 9 dm)):aY P w K mg base (bW P w) 8 f fd ["vault"] (dW 1 dN) :=
 F.gf ["vault"] λnd _ _ _ _ _ _ hr O=>by
 unfold eU;walk_at "t";walk_at "pp"
theorem oN(F:bq K "_law_listed" "_law_listed" (top 64) dv f fd)(T:Txt K mg)(Pj:dE P w K mg base 8 "all_stills" 1 (aB 1 eU))(OF:dE P w K mg base 3 "_law_still" 3 (aB 4 eO)):aY P w K mg base (bW P w) 9 f fd ["_law_vault", "_law_levers", "_law_sizes_here", "_law_many"] (dW 4 dY) :=
 F.gf ["_law_vault", "_law_levers", "_law_sizes_here", "_law_many", "_law_told", "_law_one", "_law_other", "_law_k"] λnd _ _ _ _ _ _ hr O=>by
 unfold dX;walk_at "t";walk_at "pp";refine(GL rfl rfl (λpn E2 O2=>(Jn (i:=4) nd rfl (by walk_at "l") ?_)) (.Gx (by rfl) T.mG.mg (by decide) T.mG.ok (λea=>?_) .nil));walk_at "pp";refine(vo ?_ (qi ?_)).pt;walk_at "pp";refine(bF (g:=(iF K 2 (br (aJ 5) (br (aJ 6) iM)))) O rfl (jX (by rfl) T.jE ?_) ik (dc (n:=2) rfl (aH (aO (i:=5) nd) (aH (aO (i:=6) nd) cx))) cV ?_);walk_at "pp";refine(j_ ?_ xS (kd ?_));walk_at "pp";refine(j_ ?_ (kd ?_) xS);walk_at "pp";refine(i9 (Fh hr.units) IB ?_ ?_ (dD _));walk_at "pp";refine(bF (g:=(aJ 7)) O rfl (eJ (by rfl) T.eh ?_) fV (aO (i:=7) nd) bp ?_);walk_at "pp"
theorem AI:((["_law_cell_here"]:List Str)++(["_law_sizes_here"]:List Str)).Nodup:=by decide +kernel
theorem He(F:bq K "law" "law" (top 65) dv f fd)(T:Txt K mg)(PB:dE P w K mg base 1 "_law_cell" 2 (aB 2 iA))(Pg:dE P w K mg base 2 "_law_sizes" 1 (aB 2 gS))(Pe:dE P w K mg base 2 "_law_lever" 2 (aB 7 gP))(Ol:Ao P w K mg base aw 4 "Vault" 4 [.cJ] dZ)(Pr:dE P w K mg base 7 "stills" 1 (aB 3 j0))(Ob:jQ P w K mg base aw 1 "levers" 1 (aB 1 cp))(OF:dE P w K mg base 3 "_law_still" 3 (aB 4 eO))(PJ:dE P w K mg base 6 "clear" 1 (aB 2 lU))(Oe:Ao P w K mg base ar 4 "Rungs" 2 [] cW)(Oh:jQ P w K mg base ar 2 "steps" 1 (aB 2 c_))(OW:dE P w K mg base 1 "_law_product" 1 (aB 3 eW))(OX:dE P w K mg base 2 "_law_setting" 3 (aB 8 eR))(OL:jQ P w K mg base ar 6 "pulls_to" 2 (aB 3 cP))(O7:dE P w K mg base 9 "_law_listed" 4 (aB 8 dX)):aY P w K mg base (bW P w) 10 f fd ["_law_script"] (dW 1 sE) :=
 F.gf ["_law_script", "_law_sizes_here", "_law_levers", "_law_vault", "_law_still_here", "_law_weights", "_law_rungs", "_law_many", "_law_cell_here", "_law_setting_here"] λnd _ _ _ _ _ _ hr O=>by
 unfold AR;walk_at "t";walk_at "pp";refine(n9 (i:=2) (g:=(aJ 0)) (ts:=["_law_cell_here"]) (fs:=["_law_sizes_here"]) (js:=[1]) rfl rfl rfl rfl rfl rfl (.cons rfl .nil) (.cons rfl rfl (by walk_at "l") rfl rfl .nil) (dy ?_) cz (λ_ _ _ _ _=>(aO (i:=0) AI)) (λ_=>bp) bK (λ_ _ _ _ _=>?_) nd rfl (by walk_at "l"));walk_at "pp";refine(j_ ?_ (kd ?_) (kd ?_));walk_at "pp";refine(bF (g:=(aJ 5)) O rfl (dy ?_) cz (aO (i:=5) nd) bp ?_);walk_at "pp";refine(vo ?_ (qi ?_)).pt;walk_at "pp";refine(bF (g:=(aJ 8)) O rfl (dy ?_) cz (aO (i:=8) nd) bp ?_);walk_at "pp";refine(j_ ?_ (kd ?_) (kd ?_));walk_at "pp"
end wo
namespace wo
open PySem L2 PyProof.Rows
open PySem.W (nsIn findIn codeIn keepIn isFn mroIn specialIn takesIn hasDictIn typeIn plainGet plainOver makesIn mg_of mg_none_of fnOf excIn clsIn)
abbrev κ(w:World):PySem.W.Frag:=HD.K w.params
variable(w:World)
abbrev Hw:Value:=HD.st "dialvault.wholes" 363
abbrev zt:Value:=HD.st "dialvault.vault" 420
abbrev wq:Value:=HD.st "dialvault.rungs" 570
abbrev z8:Value:=HD.st "law_dialvault_k44_whole_stills_of_stills" 767
abbrev NL:Value:=HD.st "dialvault.papers" 562
abbrev md5:Value:=HD.st "dialvault.classes" 736
abbrev Mg:Value:=HD.st "dialvault.stills" 746
abbrev LZ:Value:=HD.st "dialvault.errors" 194
def iK:FuncData:=fnOf "__init__" "Vault.__init__" (ij (inClass (top 23) 0)) (e_ (inClass (top 23) 0)) (bg (inClass (top 23) 0)) (.ref 208) .none .none zt none (.ref 212) .none
theorem lH:bq (κ w) "__init__" "Vault.__init__" (inClass (top 23) 0) (.ref 208) 213 iK:=.of (by kernel_rfl) (by kernel_rfl) (by kernel_rfl)
def iG:FuncData:=zF "__init__" "Rungs.__init__" (inClass (top 44) 0) wq 375
theorem uE:bq (κ w) "__init__" "Rungs.__init__" (inClass (top 44) 0) .none 376 iG:=.of (by kernel_rfl) (by kernel_rfl) (by kernel_rfl)
theorem t9:Binds (κ w) iG ["self", "vault"] []:=Binds.all (LR λ_ _=>rfl)
def wW:FuncData:=zF "law" "law" (top 65) z8 533
theorem J4:bq (κ w) "law" "law" (top 65) .none 534 wW:=.of (by kernel_rfl) (by kernel_rfl) (by kernel_rfl)
theorem um:jy (κ w) h_:=⟨(by kernel_rfl),(by kernel_rfl),(by kernel_rfl),(by kernel_rfl),(by kernel_rfl),(by kernel_rfl),(by kernel_rfl),(by kernel_rfl),(by kernel_rfl)⟩
theorem xj:jy (κ w) cQ:=⟨(by kernel_rfl),(by kernel_rfl),(by kernel_rfl),(by kernel_rfl),(by kernel_rfl),(by kernel_rfl),(by kernel_rfl),(by kernel_rfl),(by kernel_rfl)⟩
theorem rZ:jy (κ w) eS:=⟨(by kernel_rfl),(by kernel_rfl),(by kernel_rfl),(by kernel_rfl),(by kernel_rfl),(by kernel_rfl),(by kernel_rfl),(by kernel_rfl),(by kernel_rfl)⟩
def iq:FuncData:=zF "__init__" "NoDial.__init__" (inClass (top 3) 0) LZ 54
theorem MO:(κ w).lookup 55=some ⟨.type "function", none,.func iq,⟨[]⟩⟩:=by kernel_rfl
theorem Nb:codeIn (κ w) (.ref 54) "NoDial.__init__" = true:=by kernel_rfl
theorem xc:Binds (κ w) iq ["self", "dial"] []:=Binds.all (LR λ_ _=>rfl)
theorem wy:cH ["self", "dial"] ["self", "dial"] (bg (inClass (top 3) 0)):=.of
theorem MD:((clsIn (κ w) 65).any λcd=>gG cd.mro)=true:=by kernel_rfl
theorem Nm:findIn (κ w) (.ref 65) "dial" = some none:=by kernel_rfl
theorem xi{P:Program}{w:World}{mg:Str->Option Value}{base:Heap}:aY P w (κ w) mg base (bW P w) 1 55 iq ["self", "dial"] (z6 (κ w) eS "dial") :=
 qt (n0 := "self") (n1 := "dial") (fl := "dial") (MO w) (Nb w) wy (rZ w) (MD w) (Nm w) (by first | exact .inl rfl | exact .inr (.inl rfl)) (by first | exact .inl rfl | exact .inr (.inl rfl)) (by decide) (by decide) (by decide) (by decide) (λ_=>rfl)
theorem oB:jy (κ w) gU:=⟨(by kernel_rfl),(by kernel_rfl),(by kernel_rfl),(by kernel_rfl),(by kernel_rfl),(by kernel_rfl),(by kernel_rfl),(by kernel_rfl),(by kernel_rfl)⟩
def gu:FuncData:=zF "__init__" "NoLever.__init__" (inClass (top 4) 0) LZ 80
theorem Mt:(κ w).lookup 81=some ⟨.type "function", none,.func gu,⟨[]⟩⟩:=by kernel_rfl
theorem Mm:codeIn (κ w) (.ref 80) "NoLever.__init__" = true:=by kernel_rfl
theorem uN:Binds (κ w) gu ["self", "lever"] []:=Binds.all (LR λ_ _=>rfl)
theorem uS:cH ["self", "lever"] ["self", "lever"] (bg (inClass (top 4) 0)):=.of
theorem Nd:((clsIn (κ w) 91).any λcd=>gG cd.mro)=true:=by kernel_rfl
theorem Me:findIn (κ w) (.ref 91) "lever" = some none:=by kernel_rfl
theorem v9{P:Program}{w:World}{mg:Str->Option Value}{base:Heap}:aY P w (κ w) mg base (bW P w) 1 81 gu ["self", "lever"] (z6 (κ w) gU "lever") :=
 qt (n0 := "self") (n1 := "lever") (fl := "lever") (Mt w) (Mm w) uS (oB w) (Nd w) (Me w) (by first | exact .inl rfl | exact .inr (.inl rfl)) (by first | exact .inl rfl | exact .inr (.inl rfl)) (by decide) (by decide) (by decide) (by decide) (λ_=>rfl)
theorem qf:jy (κ w) fw:=⟨(by kernel_rfl),(by kernel_rfl),(by kernel_rfl),(by kernel_rfl),(by kernel_rfl),(by kernel_rfl),(by kernel_rfl),(by kernel_rfl),(by kernel_rfl)⟩
def gy:FuncData:=zF "__init__" "NoPrice.__init__" (inClass (top 5) 0) LZ 106
theorem Mj:(κ w).lookup 107=some ⟨.type "function", none,.func gy,⟨[]⟩⟩:=by kernel_rfl
theorem MM:codeIn (κ w) (.ref 106) "NoPrice.__init__" = true:=by kernel_rfl
theorem uW:Binds (κ w) gy ["self", "lever"] []:=Binds.all (LR λ_ _=>rfl)
theorem vW:cH ["self", "lever"] ["self", "lever"] (bg (inClass (top 5) 0)):=.of
theorem M_:((clsIn (κ w) 117).any λcd=>gG cd.mro)=true:=by kernel_rfl
theorem MW:findIn (κ w) (.ref 117) "lever" = some none:=by kernel_rfl
theorem vm{P:Program}{w:World}{mg:Str->Option Value}{base:Heap}:aY P w (κ w) mg base (bW P w) 1 107 gy ["self", "lever"] (z6 (κ w) fw "lever") :=
 qt (n0 := "self") (n1 := "lever") (fl := "lever") (Mj w) (MM w) vW (qf w) (M_ w) (MW w) (by first | exact .inl rfl | exact .inr (.inl rfl)) (by first | exact .inl rfl | exact .inr (.inl rfl)) (by decide) (by decide) (by decide) (by decide) (λ_=>rfl)
theorem dH:ma (κ w) ar:=⟨(by kernel_rfl),(by kernel_rfl),(by kernel_rfl),(by kernel_rfl)⟩
theorem f7:ma (κ w) aw:=⟨(by kernel_rfl),(by kernel_rfl),(by kernel_rfl),(by kernel_rfl)⟩
theorem Kv:findIn (κ w) (.ref 425) "idle_rows" = some none:=by kernel_rfl
theorem Kh:findIn (κ w) (.ref 425) "made_rows" = some none:=by kernel_rfl
theorem Lw:findIn (κ w) (.ref 425) "vault" = some none:=by kernel_rfl
theorem K5:findIn (κ w) (.ref 244) "dial_sizes" = some none:=by kernel_rfl
theorem KR:findIn (κ w) (.ref 244) "least_round" = some none:=by kernel_rfl
theorem Kk:findIn (κ w) (.ref 244) "lever_prices" = some none:=by kernel_rfl
theorem KH:findIn (κ w) (.ref 244) "lever_settings" = some none:=by kernel_rfl
theorem M7:nsIn (κ w) mainGlobals "LEAST_PRICE" = some (some (.int 1 430)):=by kernel_rfl
theorem MK:nsIn (κ w) mainGlobals "LEAST_SIZE" = some (some (.int 2 424)):=by kernel_rfl
theorem Mf:nsIn (κ w) mainGlobals "MOST_DIALS" = some (some (.int 6 422)):=by kernel_rfl
theorem MS:nsIn (κ w) mainGlobals "MOST_LEVERS" = some (some (.int 8 428)):=by kernel_rfl
theorem Mo:nsIn (κ w) mainGlobals "MOST_PRICE" = some (some (.int 1000 432)):=by kernel_rfl
theorem MG:nsIn (κ w) mainGlobals "MOST_SETTINGS" = some (some (.int 1024 738)):=by kernel_rfl
theorem L8:nsIn (κ w) mainGlobals "MOST_SIZE" = some (some (.int 360 426)):=by kernel_rfl
theorem M1:nsIn (κ w) mainGlobals "TooMany" = some (some (.ref 155)):=by kernel_rfl
theorem MZ:LP (λC=>PySem.W.exmOne (κ w) (.ref C) (.ref cQ)) ja jj=true:=by kernel_rfl
theorem ML:(κ w).lookup 208=some (HD.tu [.none]):=by kernel_rfl
theorem t7:Binds (κ w) iK ["self", "sizes", "levers", "prices"] [.none]:=(lH w).binds (ML w) rfl λ_ _ _ _ _ _ us hl=>by obtain⟨a,b,c,rfl⟩:=NW (show _=3 from (by simpa using hl));exact⟨_,rfl,rfl⟩
variable{h:Heap}
theorem txt{w:World}{mg:Str->Option Value}(X:PySem.W.Frag.In (κ w) h)(G:h.Ns mainGlobals mg):Txt (κ w) mg where
 J2:=mg_none_of X G (by kernel_rfl)
 BN:=mg_none_of X G (by kernel_rfl)
 cS:=mg_none_of X G (by kernel_rfl)
 Gn:=mg_none_of X G (by kernel_rfl)
 eV:=mg_none_of X G (by kernel_rfl)
 Kl:=mg_none_of X G (by kernel_rfl)
 wG:=mg_none_of X G (by kernel_rfl)
 F7:=mg_none_of X G (by kernel_rfl)
 eh:=mg_none_of X G (by kernel_rfl)
 uL:=mg_none_of X G (by kernel_rfl)
 Lr:=mg_none_of X G (by kernel_rfl)
 ua:=mg_none_of X G (by kernel_rfl)
 jE:=mg_none_of X G (by kernel_rfl)
 rn:=⟨_,mg_of X G (M7 w),⟨_,rfl⟩⟩
 tK:=⟨_,mg_of X G (MK w),⟨_,rfl⟩⟩
 uA:=⟨_,mg_of X G (Mf w),⟨_,rfl⟩⟩
 qA:=⟨_,mg_of X G (MS w),⟨_,rfl⟩⟩
 uw:=⟨_,mg_of X G (Mo w),⟨_,rfl⟩⟩
 nG:=⟨_,mg_of X G (MG w),⟨_,rfl⟩⟩
 vX:=⟨_,mg_of X G (L8 w),⟨_,rfl⟩⟩
 n5:=dH w
 lK:=f7 w
 wj:=⟨(by kernel_rfl),um w,(by kernel_rfl),(by kernel_rfl),mg_of X G (by kernel_rfl)⟩
 zL:=⟨(by kernel_rfl),xj w,(by kernel_rfl),(by kernel_rfl),mg_of X G (by kernel_rfl)⟩
 mG:=.of (mg_of X G (M1 w)) (MZ w)
 iy:=(Kv w)
 iu:=(Kh w)
 kL:=(Lw w)
 g_:=(K5 w)
 gm:=(KR w)
 fU:=(Kk w)
 e8:=(KH w)
 uB:=λC h=>by obtain rfl:=eq_of_beq h;exact⟨f7 w,(K5 w)⟩
 vU:=λC h=>by obtain rfl:=eq_of_beq h;exact⟨dH w,(Kv w)⟩
 qH:=λC h=>by obtain rfl:=eq_of_beq h;exact⟨f7 w,(KR w)⟩
 pU:=λC h=>by obtain rfl:=eq_of_beq h;exact⟨f7 w,(Kk w)⟩
 mi:=λC h=>by obtain rfl:=eq_of_beq h;exact⟨f7 w,(KH w)⟩
 vg:=λC h=>by obtain rfl:=eq_of_beq h;exact⟨dH w,(Kh w)⟩
 EU:=λC h=>by obtain rfl:=eq_of_beq h;exact⟨dH w,(Lw w)⟩
theorem IK{P:Program}{w:World}{mg:Str->Option Value}(X:PySem.W.Frag.In (κ w) h)(G:h.Ns mainGlobals mg)(base:Heap):aY P w (κ w) mg base (bW P w) 10 534 wW ["_law_script"] (dW 1 sE):=by
 have T:=txt X G;have Pt:qS P w (κ w) mg base eS "NoDial" "dial" := ⟨⟨55,iq,["self", "dial"],(by kernel_rfl),(by kernel_rfl),xi,xc w⟩,rZ w,(by kernel_rfl),(by kernel_rfl),mg_of X G (by kernel_rfl)⟩
 have P9:qS P w (κ w) mg base gU "NoLever" "lever" := ⟨⟨81,gu,["self", "lever"],(by kernel_rfl),(by kernel_rfl),v9,uN w⟩,oB w,(by kernel_rfl),(by kernel_rfl),mg_of X G (by kernel_rfl)⟩
 have P_:qS P w (κ w) mg base fw "NoPrice" "lever" := ⟨⟨107,gy,["self", "lever"],(by kernel_rfl),(by kernel_rfl),vm,uW w⟩,qf w,(by kernel_rfl),(by kernel_rfl),mg_of X G (by kernel_rfl)⟩
 have OQ:=iW P w base X G 164 163 Hw λD=>uP D T;have Pl:=iW P w base X G 169 168 Hw λD=>zC D T OQ;have Pk:=iW P w base X G 176 175 Hw λD=>yN D T;have O8:=iW P w base X G 183 182 Hw λD=>qc D T Pk;have Pq:=iW P w base X G 190 189 Hw λD=>rf D T;have PR:=iW P w base X G 195 194 Hw λD=>ve D T;have PN:=iW P w base X G 200 199 Hw λD=>vV D T;have Ot:=iW P w base X G 255 254 zt λD=>sR D T OQ;have Po:=iW P w base X G 262 261 zt λD=>qR D T Pt Ot;have O9:=iW P w base X G 269 268 zt λD=>o8 D T Pl P9;have Pp:=iW P w base X G 276 275 zt λD=>qQ D T P_ Ot;have O1:=iW P w base X G 281 280 zt λD=>Bs D T;have PK:=iW P w base X G 315 314 wq λD=>B8 D T;have OG:=iW P w base X G 322 321 wq λD=>qU D T PK O1;have Ou:=iW P w base X G 343 342 wq λD=>tf D T;have PQ:=iW P w base X G 350 349 wq λD=>vI D T Ou Pk OG;have O0:=iW P w base X G 357 356 wq λD=>xh D T Ou OG;have OP:=iW P w base X G 364 363 wq λD=>vC D T PK;have PB:=iW P w base X G 458 457 z8 λD=>uq D T;have Oy:=iW P w base X G 465 464 z8 λD=>u7 D T;have Oi:=iW P w base X G 472 471 z8 λD=>oM D T;have PC:=iW P w base X G 479 478 z8 λD=>uC D T;have Pg:=iW P w base X G 484 483 z8 λD=>qY D T Oi Oy PC;have Pe:=iW P w base X G 491 490 z8 λD=>qP D T Oi Oy;have Pf:=iW P w base X G 498 497 z8 λD=>qD D T;have Ph:=iW P w base X G 503 502 z8 λD=>qE D T Pf;have OW:=iW P w base X G 510 509 z8 λD=>nW D T;have OF:=iW P w base X G 517 516 z8 λD=>rA D T Ph;have OX:=iW P w base X G 522 521 z8 λD=>nv D T Oi Oy;have Ol:Ao P w (κ w) mg base aw 4 "Vault" 4 [.cJ] dZ:=⟨⟨213,iK,["self", "sizes", "levers", "prices"],[.none],[.cJ],mg_of X G (by kernel_rfl),⟨(by kernel_rfl),(by kernel_rfl),(by kernel_rfl),(by kernel_rfl)⟩,t7 w,(.cons rfl .nil),λ_=>(.cons .cJ .nil),qV (lH w) T Po O9 O1 Pp O8⟩⟩
 have N7:=DJ P w base (f7 w) 220 219 zt λD=>qg D T;have Ob:=DJ P w base (f7 w) 227 226 zt λD=>nI D T;have Ow:=DJ P w base (f7 w) 241 240 zt λD=>nu D T;have Oh:=DJ P w base (dH w) 381 380 wq λD=>pT D T N7 Ou;have OE:=DJ P w base (dH w) 386 385 wq λD=>qJ D T;have O6:=DJ P w base (dH w) 391 390 wq λD=>qm D T;have OC:=iW P w base X G 288 287 zt λD=>zD D T N7;have Pm:=iW P w base X G 293 292 zt λD=>qN D T N7 Pl;have Og:=iW P w base X G 300 299 zt λD=>nU D T Pm;have QF:=iW P w base X G 305 304 zt λD=>CC D T N7 O1;have QG:=iW P w base X G 310 309 NL λD=>Bl D T Og Ow N7 PN;have OR:=iW P w base X G 329 328 wq λD=>v_ D T Ob;have O_:=iW P w base X G 336 335 wq λD=>p_ D T Ob PR;have Oe:Ao P w (κ w) mg base ar 4 "Rungs" 2 [] cW:=⟨⟨376,iG,["self", "vault"],[],[],mg_of X G (by kernel_rfl),⟨(by kernel_rfl),(by kernel_rfl),(by kernel_rfl),(by kernel_rfl)⟩,t9 w,.nil,λ_=>.nil,qM (uE w) T N7 OC OR Ob O_ PQ OP O0⟩⟩
 have Od:=DJ P w base (dH w) 405 404 wq λD=>jI D T Og OR N7 O0;have O5:=DJ P w base (dH w) 412 411 wq λD=>pV D T Od;have OL:=DJ P w base (dH w) 417 416 wq λD=>lO D T Od OC OP;have OI:=DJ P w base (dH w) 422 421 wq λD=>kE D T N7 Ot Pt Oh QG Ow;have OY:=iW P w base X G 434 433 md5 λD=>nL D T Og Oe O6 Pq O5 OE Oh N7 QF;have PJ:=iW P w base X G 439 438 Mg λD=>BE D T OC Oe OE N7 Ol;have Pr:=iW P w base X G 444 443 Mg λD=>Ai D T Oe N7 OI Ol PJ;have Pj:=iW P w base X G 451 450 Mg λD=>qT D T OC Pr OY;have O7:=iW P w base X G 529 528 z8 λD=>oN D T Pj OF;exact He (J4 w) T PB Pg Pe Ol Pr Ob OF PJ Oe Oh OW OX OL O7
theorem Mx:yt (κ w)=true:=by kernel_rfl
theorem MU:nsIn (κ w) mainGlobals "law" = some (some (.ref 534)):=by kernel_rfl
end wo
open PySem PySem.W
theorem wo.hold(said:PySem.Challenge.rw_dialvault_k44_whole_stills_of_stills.wellSaid=true)(RO:∀ ns:List Int,ns.length<=63->(∀ i∈ns,Xs i<=1048576)->wo.sE [.jV (ns.map L2.PV.int)]=L2.M.ok (.bl true)):PySem.Challenge.rw_dialvault_k44_whole_stills_of_stills.Holds:=by
 refine holds_law said λsaid=>?_;refine holds_open (q:=HD.vw) (loose:=HD.loose) (Xt:=HD.Xt) (XP:=XL HD.vw []) (Yf:=Hook.obs HD.hook) (Ya:=Hook.val HD.hook) (YP:=Hook.says HD.hook) HD.K7 (Hook.of HD.hook) (Hook.keeps HD.hook) (λs e=>xl_of s (Xf.mp e).1) XL.keeps (by rfl) (by rfl) (by rfl) (λs e=>recFacts_of (Xf.mp e).2) (by rfl) said (by decide +kernel) ⟨rfl,rfl,rfl,rfl,rfl,by decide +kernel⟩ ?hw ?hc
 case hw=>w_witness2
 refine L2.xt (l:=PySem.Challenge.rw_dialvault_k44_whole_stills_of_stills) (n:=63) (k:=10) (x := "_law_script") (K:=HD.K) (sem:=wo.sE) rfl (by decide) rfl ⟨rfl,by decide,by decide⟩ (λw h Y=>PySem.W.kIn_of Y) (λw=>wo.Mx w) (λw mg fa h X G hmg=>?_) RO;have e:=hmg.symm.trans (PySem.W.mg_of X G (wo.MU w));cases e;exact⟨wo.wW,λs v=>.of_eq rfl,λbase X' G'=>wo.IK X' G' base⟩
namespace Eu
theorem sq(a b:Int)(hb:b≠0):(a-a.fdiv b*b).natAbs<b.natAbs/\0<=(a-a.fdiv b*b)*b/\(0<=a*b->a.natAbs=(a.fdiv b).natAbs*b.natAbs+(a-a.fdiv b*b).natAbs):=by
 have pos:∀ (a b:Int),0<b->(a-a/b*b).natAbs<b.natAbs/\0<=(a-a/b*b)*b/\(0<=a*b->a.natAbs=(a/b).natAbs*b.natAbs+(a-a/b*b).natAbs):=by
  intro a b hb;have e:a-a/b*b=a%b:=by
   have h:=YR a b;rw[Vn] at h;lia
  have h0:=Tz a (by lia:b≠0);have h1:=To a hb;rw[e];refine⟨by lia,Y3 h0 (by lia),λhab=>?_⟩;have ha:0<=a:=by
   rcases YB a 0 with h | h
   .have:=Int.mul_neg_of_neg_of_pos h hb;lia
   .exact h
  have hq:0<=a/b:=U4 ha (by lia);have h2:=YR a b;have h3:((a/b).natAbs*b.natAbs:Nat)=(b*(a/b)).natAbs:=by
   rw[Vq,Xw]
  rw[h3];have h4:0<=b*(a/b):=Y3 (by lia) hq;lia
 rcases YB 0 b with h | h
 .rw[Wm a (by lia)];exact pos a b h
 .have h':0 < -b:=by lia
  have e:a.fdiv b=(-a)/(-b):=by
   rw[<- Wm (-a) (by lia:0<=-b),Int.neg_fdiv_neg]
  obtain⟨p1,p2,p3⟩:=pos (-a) (-b) h';have e2:-a-(-a)/(-b)*(-b)=-(a-a.fdiv b*b):=by
   rw[<- e,Y4];lia
  rw[e2] at p1 p2 p3;rw[<- e] at p3;simp only[WU,Int.neg_mul_neg] at p1 p2 p3;exact⟨p1,p2,p3⟩
structure St (a b:Int) (r s t r' s' t':Int):Prop where
 c0:r=s*a+t*b
 c1:r'=s'*a+t'*b
 dv:∀ d:Int,d∣r->d∣r'->d∣a/\d∣b
 bd:s'.natAbs*r.natAbs+s.natAbs*r'.natAbs<=b.natAbs
 sg:s'=0\/0<=r*r'
 b0:s.natAbs<=b.natAbs+1
 b1:s'.natAbs<=b.natAbs+1
 d0:t.natAbs<=a.natAbs+(b.natAbs+1)*a.natAbs+b.natAbs+1
 d1:t'.natAbs<=a.natAbs+(b.natAbs+1)*a.natAbs+b.natAbs+1
 m0:r.natAbs<=a.natAbs+b.natAbs
 m1:r'.natAbs<=b.natAbs
theorem start(a b:Int):St a b a 1 0 b 0 1 where
 c0:=by lia
 c1:=by lia
 dv:=λd h1 h2=>⟨h1,h2⟩
 bd:=by simp
 sg:=.inl rfl
 b0:=by lia
 b1:=by lia
 d0:=by simp
 d1:=by lia
 m0:=by lia
 m1:=by lia
theorem turn{a b r s t r' s' t':Int}(h:St a b r s t r' s' t')(h0:r'≠0) :
  St a b r' s' t' (r-r.fdiv r'*r') (s-r.fdiv r'*s') (t-r.fdiv r'*t')/\(r-r.fdiv r'*r').natAbs<r'.natAbs:=by
 obtain⟨f1,f2,f3⟩:=sq r r' h0;generalize hq:r.fdiv r'=q at *;have hb:b≠0:=by
  intro z;have:=h.m1;lia
 have hr':1<=r'.natAbs:=by lia
 have c1':r-q*r'=(s-q*s')*a+(t-q*t')*b:=by
  rw[h.c0,h.c1,Int.sub_mul,Int.sub_mul,Int.mul_add,Vo,Vo];lia
 have bd':(s-q*s').natAbs*r'.natAbs+s'.natAbs*(r-q*r').natAbs<=b.natAbs:=by
  have rg:(s-q*s').natAbs<=s.natAbs+q.natAbs*s'.natAbs:=by
   rw[<- Vq];lia
  have hbd:=h.bd;rcases h.sg with z | z
  .subst z;simp only[Vp,WV,Int.natAbs_zero,Nat.zero_mul,YC,Xz] at hbd ⊢;exact hbd
  .have e:=f3 z;have k1:(s-q*s').natAbs*r'.natAbs<=(s.natAbs+q.natAbs*s'.natAbs)*r'.natAbs:=Wn _ rg;have k2:(s.natAbs+q.natAbs*s'.natAbs)*r'.natAbs+s'.natAbs*(r-q*r').natAbs=s'.natAbs*r.natAbs+s.natAbs*r'.natAbs:=by
    rw[e,Nat.add_mul,Nat.mul_add,Xw q.natAbs s'.natAbs,Nat.mul_assoc];lia
   lia
 have b1':(s-q*s').natAbs<=b.natAbs:=by
  have:(s-q*s').natAbs*1<=(s-q*s').natAbs*r'.natAbs:=WB _ hr';lia
 have mm:(r-q*r').natAbs<=b.natAbs:=by
  have:=h.m1;lia
 have d1':(t-q*t').natAbs<=a.natAbs+(b.natAbs+1)*a.natAbs+b.natAbs+1:=by
  have e:(t-q*t')*b=(r-q*r')-(s-q*s')*a:=by lia
  have e1:((t-q*t')*b).natAbs<=(r-q*r').natAbs+((s-q*s')*a).natAbs:=by lia
  rw[Vq,Vq] at e1;have k1:(t-q*t').natAbs*1<=(t-q*t').natAbs*b.natAbs:=WB _ (by lia);have k2:(s-q*s').natAbs*a.natAbs<=(b.natAbs+1)*a.natAbs:=Wn _ (by lia);lia
 refine⟨⟨h.c1,c1',λd e1 e2=>?_,bd',?_,h.b1,by lia,h.d1,d1',?_,mm⟩,f1⟩
 .refine h.dv d ?_ e1;have e3:d∣q*r':=UP e1 (UT _ _);have e4:=VT e2 e3
  rwa [XT] at e4
 .exact .inr (by rw[Vn];exact f2)
 .have:=h.m1;lia
theorem done{a b r s t s' t':Int}(h:St a b r s t 0 s' t'):r∣a/\r∣b:=h.dv r (YD r) (Uz r)
end Eu
namespace Lc
def Dt(ns:List Nat):Nat:=ns.foldl VO 1
theorem xN:∀ (ns:List Nat) (m:Nat),m∣ns.foldl VO m/\(∀ n∈ns,n∣ns.foldl VO m)/\(∀ k,m∣k->(∀ n∈ns,n∣k)->ns.foldl VO m∣k)
 | [],m=>⟨Nat.dvd_refl m,(λ_ h=>nomatch h),λk h _=>h⟩
 | n::ns,m=>by
  obtain⟨h1,h2,h3⟩:=xN ns (VO m n);refine⟨Nat.dvd_trans (Nat.dvd_lcm_left m n) h1,λx hx=>?_,λk hm hk=>?_⟩
  .rcases Tt.mp hx with e | hx
   .rw[e];exact Nat.dvd_trans (Nat.dvd_lcm_right m n) h1
   .exact h2 x hx
  .exact h3 k (Z6 hm (hk n Tp)) λx hx=>hk x (Tf _ hx)
variable{ns:List Nat}
theorem lcm_dvd{n:Nat}(h:n∈ns):n∣Dt ns:=(xN ns 1).2.1 n h
theorem mY:∀ (ns:List Nat) (m:Nat),0<m->(∀ n∈ns,0<n)->0<ns.foldl VO m
 | [],m,h,_=>h
 | n::ns,m,h,hp=>mY ns (VO m n) (Z7 h (hp n Tp)) λx hx=>hp x (Tf _ hx)
theorem lcm_pos(h:∀ n∈ns,0<n):0<Dt ns:=mY ns 1 (by decide) h
theorem qw(B:Nat):∀ (ns:List Nat) (m k:Nat),0<m->m<=2^k->(∀ n∈ns,0<n/\n<=2^B)->ns.foldl VO m<=2^(k+B*ns.length)
 | [],m,k,_,h,_=>by simpa using h
 | n::ns,m,k,h0,h,hp=>by
  have hn:=hp n Tp;have h1:VO m n<=2^(k+B):=by
   have:VO m n<=m*n:=X9 (Nat.mul_pos h0 hn.1) (Z6 (ZM m n) (ZY n m));rw[Z8];exact TJ this (V5 h hn.2)
  have h2:=qw B ns (VO m n) (k+B) (Z7 h0 hn.1) h1 λx hx=>hp x (Tf _ hx);have e:k+B*(n::ns).length=k+B+B*ns.length:=by
   rw[T5,Nat.mul_succ];lia
  rw[e];exact h2
theorem Bc(m n:Nat):m/Nat.gcd m n*n=VO m n:=by
 unfold VO;rw[Nat.div_mul_right_comm (Nat.gcd_dvd_left m n)]
end Lc
namespace Rg
abbrev bN:=Nat->Int
def aL(s:bN)(D:Nat->bN)(d:Nat):Int:=if D d d=0 then s d else D d d
def G(n:Nat)(s:bN)(D:Nat->bN):Nat->Nat->bN->Prop
 | 0,_,v=>∀ i,i<n->s i∣v i
 | k+1,d,v=>aL s D d∣v d/\G n s D k (d+1) λi=>v i-v d/aL s D d*D d i
def U(i:Nat)(c:Int):bN:=λj=>if j=i then c else 0
variable{D:Nat->bN}{s:bN}{n:Nat}
theorem G.ext:∀ {k d:Nat} {v w:bN},d+k=n->(∀ i,i<n->v i=w i)->G n s D k d v->G n s D k d w
 | 0,d,v,w,_,e,h=>λi hi=>by rw[<- e i hi];exact h i hi
 | k+1,d,v,w,hn,e,h=>by
  have ed:=e d (by lia);refine⟨by rw[<- ed];exact h.1,G.ext (by lia) (λi hi=>?_) h.2⟩;rw[e i hi,ed]
theorem G.add:∀ {k d:Nat} {v w:bN},d+k=n->G n s D k d v->G n s D k d w->G n s D k d λi=>v i+w i
 | 0,d,v,w,_,h,h'=>λi hi=>VT (h i hi) (h' i hi)
 | k+1,d,v,w,hn,h,h'=>by
  refine⟨VT h.1 h'.1,G.ext (by lia) (λi hi=>?_) (G.add (by lia) h.2 h'.2)⟩;show _=v i+w i-(v d+w d)/aL s D d*D d i;rw[Int.add_ediv_of_dvd_left h.1,Int.add_mul];lia
theorem G.mul(c:Int):∀ {k d:Nat} {v:bN},d+k=n->G n s D k d v->G n s D k d λi=>c*v i
 | 0,d,v,_,h=>λi hi=>UP (h i hi) (UT _ _)
 | k+1,d,v,hn,h=>by
  refine⟨UP h.1 (UT _ _),G.ext (by lia) (λi hi=>?_) (G.mul c (by lia) h.2)⟩;show _=c*v i-c*v d/aL s D d*D d i;rw[Zr c h.1,Z9,Vo]
theorem G.zero:∀ {k d:Nat},d+k=n->G n s D k d λ_=>0
 | 0,d,_=>λi _=>Uz _
 | k+1,d,hn=>⟨Uz _,G.ext (by lia) (λi hi=>by simp) (G.zero (k:=k) (d:=d+1) (by lia))⟩
theorem G.skip{v:bN}:∀ {j k d:Nat},d+(j+k)=n->(∀ i,d<=i->i<d+j->v i=0)->G n s D k (d+j) v->G n s D (j+k) d v
 | 0,k,d,_,_,h=>by rw[YC];exact h
 | j+1,k,d,hn,hz,h=>by
  rw[show j+1+k=(j+k)+1 by lia];have z:=hz d (SX _) (by lia);refine⟨by rw[z];exact Uz _,G.ext (v:=v) (by lia) (λi hi=>by rw[z];simp) (G.skip (by lia) (λi h1 h2=>hz i (by lia) (by lia)) (by rw[show d+1+j=d+(j+1) by lia];exact h))⟩
structure Good (n:Nat) (s:bN) (D:Nat->bN):Prop where
 sp:∀ i,i<n->0<s i
 hZ:∀ d,d<n->∀ i,i<n->0<=D d i/\D d i<s i
 rg:∀ d,d<n->∀ i,i<d->D d i=0
 dv:∀ d,d<n->aL s D d∣s d
 Kf:∀ d k,d+(k+1)=n->G n s D k (d+1) λi=>s d/aL s D d*D d i
variable{d:Nat}
variable{v:bN}{k:Nat}
theorem Good.pos(g:Good n s D)(h:d<n):0<aL s D d/\aL s D d<=s d:=by
 have h1:=g.hZ d h d h;have h2:=g.sp d h;unfold aL
 split <;> lia
theorem Good.diag(g:Good n s D)(h:d<n):s d∣D d d-aL s D d:=by
 unfold aL
 split
 .rename_i z;rw[z];exact⟨-1,by lia⟩
 .rw[YE];exact Uz _
theorem Good.turn(g:Good n s D):∀ {k d i:Nat} (c:Int),d+k=n->i<n->G n s D k d (U i (c*s i))
 | 0,d,i,c,_,hi=>λj hj=>by
  unfold U
  split
  .rename_i z;rw[z];exact UT _ _
  .exact Uz _
 | k+1,d,i,c,hn,hi=>by
  have hd:d<n:=by lia
  by_cases z:i=d
  .subst z;have dv:=g.dv i hi;refine⟨by show _∣U i _ i;rw[U,if_pos rfl];exact UP dv (UT _ _),?_⟩;refine G.ext (by lia) (λj hj=>?_) (G.add (by lia) (g.turn (k:=k) (d:=i+1) (i:=i) c (by lia) hi) (G.mul (-c) (by lia) (g.Kf i k hn)));show U i (c*s i) j+-c*(s i/aL s D i*D i j)=U i (c*s i) j-U i (c*s i) i/aL s D i*D i j;rw[show U i (c*s i) i=c*s i by rw[U,if_pos rfl],Zr c dv,Xh,Vo];lia
  .have u0:U i (c*s i) d=0:=by rw[U,if_neg (Vb z)]
   refine⟨by rw[u0];exact Uz _,G.ext (by lia) (λj hj=>?_) (g.turn (k:=k) (d:=d+1) (i:=i) c (by lia) hi)⟩;rw[u0];simp
theorem G.nr{w:bN}(ht:∀ i c,i<n->G n s D k d (U i (c*s i)))(hn:d+k=n)(h:∀ i,i<n->s i∣w i-v i)(hv:G n s D k d v):G n s D k d w:=by
 have key:∀ m,m<=n->G n s D k d λi=>if i<m then w i else v i:=by
  intro m
  induction m with
  | zero=>intro _;exact G.ext hn (λi _=>by simp) hv
  | succ m ih =>
   intro hm;obtain⟨c,hc⟩:=h m (by lia);refine G.ext hn (λi hi=>?_) (G.add hn (ih (by lia)) (ht m c (by lia)));show (if i<m then w i else v i)+U m (c*s m) i=if i<m+1 then w i else v i;unfold U
   by_cases z:i=m
   .subst z;rw[if_neg (by lia),if_pos rfl,if_pos (by lia),Vn c];lia
   .rw[if_neg z]
    by_cases q:i<m
    .rw[if_pos q,if_pos (by lia)];lia
    .rw[if_neg q,if_neg (by lia)];lia
 exact G.ext hn (λi hi=>by simp[hi]) (key n (SX _))
theorem Good.nr(g:Good n s D){k d:Nat}{v w:bN}(hn:d+k=n)(h:∀ i,i<n->s i∣w i-v i)(hv:G n s D k d v):G n s D k d w :=
 G.nr (λi c hi=>g.turn c hn hi) hn h hv
theorem Good.sub(g:Good n s D){w:bN}(hn:d+k=n)(hv:G n s D k d v)(hw:G n s D k d w):G n s D k d λi=>v i-w i :=
 G.ext hn (λi _=>by lia) (G.add hn hv (G.mul (-1) hn hw))
theorem Good.own(g:Good n s D)(hn:d+(k+1)=n):G n s D (k+1) d (D d):=by
 have hd:d<n:=by lia
 by_cases z:D d d=0
 .have e:aL s D d=s d:=by unfold aL;rw[if_pos z]
  have c:=g.Kf d k hn;rw[e] at c;refine⟨by rw[z];exact Uz _,G.ext (by lia) (λi hi=>?_) c⟩;rw[z,Zh (by have:=g.sp d hd;lia)];simp
 .have e:aL s D d=D d d:=by unfold aL;rw[if_neg z]
  refine⟨by rw[e];exact YD _,G.ext (by lia) (λi hi=>?_) (G.zero (k:=k) (d:=d+1) (by lia))⟩;rw[e,Zh z];lia
theorem Good.row(g:Good n s D)(hd:d<n):∀ {k e:Nat},e+k=n->e<=d->G n s D k e (D d):=by
 intro k e hn he;have h:=g.own (d:=d) (k:=n-d-1) (by lia);have:=G.skip (n:=n) (s:=s) (D:=D) (v:=D d) (j:=d-e) (k:=n-d-1+1) (d:=e) (by lia) (λi h1 h2=>g.rg d hd i (by lia)) (by rw[show e+(d-e)=d by lia];exact h);rw[show d-e+(n-d-1+1)=k by lia] at this;exact this
structure Tk (n:Nat) (s:bN) (D D' L:Nat->bN) (u v g:Nat->Int):Prop where
 gp:∀ d,d<n->0<g d
 bz:∀ d,d<n->u d*aL s D d+v d*L d d=g d
 g1:∀ d,d<n->g d∣aL s D d
 g2:∀ d,d<n->g d∣L d d
 qO:∀ d,d<n->∀ i,i<n->D' d i=(u d*D d i+v d*L d i)%s i
 Kx:∀ d,d<n->∀ i,i<n->L (d+1) i=(aL s D d/g d*L d i+-(L d d/g d)*D d i)%s i
 l0:∀ i,i<n->0<=L 0 i/\L 0 i<s i
variable{b:Int}
section
variable{D' L:Nat->bN}{u v g:Nat->Int}
theorem dr(a b:Int):b∣a%b-a:=⟨-(a/b),by have:=WW a b;rw[Y4];lia⟩
theorem mJ(a b:Int):b∣a-a%b:=⟨a/b,by have:=WW a b;lia⟩
theorem Tk.kept(t:Tk n s D D' L u v g)(G:Good n s D):∀ d,d<=n->∀ i,i<n->0<=L d i/\L d i<s i:=by
 intro d hd i hi;cases d with
 | zero=>exact t.l0 i hi
 | succ d =>
  rw[t.Kx d (by lia) i hi];have:=G.sp i hi;exact⟨Tz _ (by lia),To _ this⟩
theorem iZ{a:Int}(h0:0<=a)(h1:a<b)(h:b∣a):a=0:=by
 obtain⟨c,rfl⟩:=h;rcases YB 0 c with hc | hc
 .have:b*1<=b*c:=T8 hc (by lia);lia
 .have:b*c<=0:=WI (by lia) hc;lia
theorem Tk.zero(t:Tk n s D D' L u v g)(G:Good n s D):∀ d,d<=n->∀ i,i<d->L d i=0:=by
 intro d
 induction d with
 | zero=>intro _ i hi;lia
 | succ d ih =>
  intro hd i hi;have Rz:d<n:=by lia
  have k:=t.kept G (d+1) hd i (by lia);refine iZ k.1 k.2 ?_;rw[t.Kx d Rz i (by lia)];rcases TV i d with h | h
  .rw[ih (by lia) i h,G.rg d Rz i h];simp
  .obtain rfl:i=d:=by lia
   refine UP ?_ (YD _);obtain⟨c,hc⟩:=G.diag Rz;obtain⟨a,ha⟩:=t.g1 i Rz;obtain⟨b,hb⟩:=t.g2 i Rz;have gp:=t.gp i Rz;have e1:aL s D i/g i=a:=by rw[ha];exact Th a (by lia)
   have e2:L i i/g i=b:=by rw[hb];exact Th b (by lia)
   rw[e1,e2];have e3:a*L i i+-b*D i i=s i*(-b*c):=by
    have:D i i=aL s D i+s i*c:=by lia
    rw[this,ha,hb];grind
   rw[e3,Int.mul_emod_right];exact Uz _
theorem Tk.step(t:Tk n s D D' L u v g)(G:Good n s D)(hd:d<n):aL s D' d=g d:=by
 obtain⟨c,hc⟩:=G.diag hd;have gp:=t.gp d hd;have sp:=G.sp d hd;have st:=G.pos hd;have le:g d<=aL s D d:=Int.le_of_dvd st.1 (t.g1 d hd);have e:D' d d=g d%s d:=by
  rw[t.qO d hd d hd,<- t.bz d hd];have:D d d=aL s D d+s d*c:=by lia
  rw[this,show u d*(aL s D d+s d*c)+v d*L d d=(u d*aL s D d+v d*L d d)+s d*(u d*c) by grind,Int.add_mul_emod_self_left]
 unfold aL;rw[e]
 by_cases z:g d=s d
 .rw[z,Int.emod_self,if_pos rfl]
 .rw[UY (by lia) (by lia),if_neg (by lia)]
theorem Tk.main(t:Tk n s D D' L u v g)(Gd:Good n s D):∀ k d,d+k=n->(∀ w,G n s D k d w->G n s D' k d w)/\G n s D' k d (L d)
 | 0,d,hn=>by
  refine⟨λw h=>h,λi hi=>?_⟩;rw[t.zero Gd d (by lia) i (by lia)];exact Uz _
 | k+1,d,hn=>by
  obtain⟨i1,i2⟩:=t.main Gd k (d+1) (by lia);have hd:d<n:=by lia
  have turn:∀ i c,i<n->G n s D' k (d+1) (U i (c*s i)):=λi c hi=>i1 _ (Gd.turn c (by lia) hi);have st:=t.step Gd hd;have gp:=t.gp d hd;obtain⟨a,ha⟩:=t.g1 d hd;obtain⟨b,hb⟩:=t.g2 d hd;have e1:aL s D d/g d=a:=by rw[ha];exact Th a (by lia)
  have e2:L d d/g d=b:=by rw[hb];exact Th b (by lia)
  have bz:u d*a+v d*b=1:=by
   have:=t.bz d hd;rw[ha,hb,show u d*(g d*a)+v d*(g d*b)=g d*(u d*a+v d*b) by grind] at this;have h2:g d*(u d*a+v d*b)=g d*1:=by lia
   exact TZ (by lia) h2
  have w1:∀ i,i<n->∃ c,D' d i=u d*D d i+v d*L d i+s i*c:=λi hi=>by
   obtain⟨c,hc⟩:=dr (u d*D d i+v d*L d i) (s i);exact⟨c,by rw[t.qO d hd i hi];lia⟩
  have w2:∀ i,i<n->∃ c,L (d+1) i=a*L d i+-b*D d i+s i*c:=λi hi=>by
   obtain⟨c,hc⟩:=dr (a*L d i+-b*D d i) (s i);exact⟨c,by rw[t.Kx d hd i hi,e1,e2];lia⟩
  constructor
  .intro w h;obtain⟨h1,h2⟩:=h;refine⟨by rw[st];exact UP (t.g1 d hd) h1,?_⟩;obtain⟨q,hq⟩:=h1;have sp:=(Gd.pos hd).1;have q1:w d/aL s D d=q:=by rw[hq];exact Th q (by lia)
   have q2:w d/aL s D' d=q*a:=by
    rw[st,hq,ha,show g d*a*q=g d*(q*a) by grind];exact Th _ (by lia)
   rw[q2];rw[q1] at h2;refine G.nr turn (by lia) (λi hi=>?_) (G.add (by lia) (i1 _ h2) (G.mul (q*-(v d)) (by lia) i2));obtain⟨c1,hc1⟩:=w1 i hi;obtain⟨c2,QN⟩:=w2 i hi;refine⟨q*(v d*c2-a*c1),?_⟩;rw[hc1,QN];grind
  .refine⟨by rw[st];exact t.g2 d hd,?_⟩;rw[st,e2];refine G.nr turn (by lia) (λi hi=>?_) (G.mul (u d) (by lia) i2);obtain⟨c1,hc1⟩:=w1 i hi;obtain⟨c2,QN⟩:=w2 i hi;refine⟨-(b*c1)-u d*c2,?_⟩;rw[hc1,QN];grind
theorem Tk.good(t:Tk n s D D' L u v g)(Gd:Good n s D):Good n s D' where
 sp:=Gd.sp
 hZ:=λd hd i hi=>by
  rw[t.qO d hd i hi];have:=Gd.sp i hi;exact⟨Tz _ (by lia),To _ this⟩
 rg:=λd hd i hi=>by
  rw[t.qO d hd i (by lia),Gd.rg d hd i hi,t.zero Gd d (by lia) i hi];simp
 dv:=λd hd=>by
  rw[t.step Gd hd];exact UP (t.g1 d hd) (Gd.dv d hd)
 Kf:=λd k hn=>by
  have hd:d<n:=by lia
  have h1:=(t.main Gd (k+1) d hn).1 _ (Gd.turn (i:=d) 1 hn hd);have h2:=(t.main Gd k (d+1) (by lia)).1 _ (Gd.turn (i:=d) 1 (by lia) hd);have h3:=h1.2;have ud:U d (1*s d) d=s d:=by rw[U,if_pos rfl,WK]
  rw[ud] at h3;refine G.ext (by lia) (λi hi=>?_) (G.add (by lia) h2 (G.mul (-1) (by lia) h3));show U d (1*s d) i+-1*(U d (1*s d) i-s d/aL s D' d*D' d i)=_;lia
end
variable{W:Nat->bN}
variable{i:Nat}
section
variable{D':Nat->bN}
theorem Good.En(Gd:Good n s D)(hZ:∀ d,d<n->∀ i,i<n->0<=D' d i/\D' d i<s i)(rg:∀ d,d<n->∀ i,i<d->D' d i=0)(dv:∀ d,d<n->aL s D' d∣s d)
  (h:∀ k d,d+k=n->∀ w,G n s D k d w->G n s D' k d w):Good n s D' where
 sp:=Gd.sp
 hZ:=hZ
 rg:=rg
 dv:=dv
 Kf:=λd k hn=>by
  have hd:d<n:=by lia
  have h1:=h (k+1) d hn _ (Gd.turn (i:=d) 1 hn hd);have h2:=h k (d+1) (by lia) _ (Gd.turn (i:=d) 1 (by lia) hd);have h3:=h1.2;have ud:U d (1*s d) d=s d:=by rw[U,if_pos rfl,WK]
  rw[ud] at h3;refine G.ext (by lia) (λi hi=>?_) (G.add (by lia) h2 (G.mul (-1) (by lia) h3));show U d (1*s d) i+-1*(U d (1*s d) i-s d/aL s D' d*D' d i)=_;lia
structure Dn (n:Nat) (s:bN) (D:Nat->bN) (f:Nat) (W:Nat->bN):Prop where
 w0:∀ i,i<n->0<=W f i/\W f i<s i
 ws:∀ d,f<=d->d<n->∀ i,i<n->W (d+1) i=(1*W d i+-(W d d/aL s D d)*D d i)%s i
variable{f:Nat}
theorem Dn.kept(h:Dn n s D f W)(Gd:Good n s D):∀ d,f<=d->d<=n->∀ i,i<n->0<=W d i/\W d i<s i:=by
 intro d hf hd i hi;rcases TV f d with q | q
 .obtain⟨e,rfl⟩:∃ e,d=e+1:=⟨d-1,by lia⟩
  rw[h.ws e (by lia) (by lia) i hi];have:=Gd.sp i hi;exact⟨Tz _ (by lia),To _ this⟩
 .obtain rfl:d=f:=by lia
  exact h.w0 i hi
theorem Dn.ahead(h:Dn n s D f W)(Gd:Good n s D)(hf:f<=d)(hd:d<n)(hi:i<d):W (d+1) i=W d i:=by
 have k:=h.kept Gd d hf (by lia) i (by lia);rw[h.ws d hf hd i (by lia),Gd.rg d hd i hi,Vp,WX,WK,UY k.1 k.2]
theorem Dn.at_(h:Dn n s D f W)(Gd:Good n s D)(hf:f<=d)(hd:d<n):W (d+1) d=W d d%aL s D d:=by
 have k:=h.kept Gd d hf (by lia) d hd;have p:=Gd.pos hd;rw[h.ws d hf hd d hd];have e:=WW (W d d) (aL s D d);have q0:=Tz (W d d) (show aL s D d≠0 by lia);have q1:=To (W d d) p.1
 by_cases z:D d d=0
 .have st:aL s D d=s d:=by unfold aL;rw[if_pos z]
  rw[z,st,UY k.1 k.2,Vp,WX,WK,UY k.1 k.2]
 .have st:aL s D d=D d d:=by unfold aL;rw[if_neg z]
  rw[<- st,show 1*W d d+-(W d d/aL s D d)*aL s D d=W d d%aL s D d by rw[e];grind];exact UY q0 (by lia)
theorem Dn.low(h:Dn n s D f W)(Gd:Good n s D):∀ d,f<=d->d<=n->∀ e,f<=e->e<d->0<=W d e/\W d e<aL s D e:=by
 intro d
 induction d with
 | zero=>intro _ _ e _ he;lia
 | succ d ih =>
  intro hf hd e he hed;rcases TV e d with q | q
  .rw[h.ahead Gd (by lia) (by lia) q];exact ih (by lia) (by lia) e he q
  .obtain rfl:e=d:=by lia
   have p:=Gd.pos (show e<n by lia);rw[h.at_ Gd he (by lia)];exact⟨Tz _ (by lia),To _ p.1⟩
theorem Dn.front(h:Dn n s D f W)(Gd:Good n s D):∀ d,f<=d->d<=n->∀ i,i<f->W d i=W f i:=by
 intro d
 induction d with
 | zero=>intro h1 _ i hi;lia
 | succ d ih =>
  intro hf hd i hi;rcases TV d f with q | q
  .rw[show d+1=f by lia]
  .rw[h.ahead Gd q (by lia) (by lia)];exact ih q (by lia) i hi
theorem Dn.run(h:Dn n s D f W)(Gd:Good n s D):∀ k d,f<=d->d+k=n->G n s D k d (W d)->∀ i,i<n->W n i=0
 | 0,d,hf,hn,g,i,hi=>by
  rw[Xz] at hn;subst hn;have k:=h.kept Gd d hf (SX _) i hi;exact iZ k.1 k.2 (g i hi)
 | k+1,d,hf,hn,g,i,hi=>by
  refine h.run Gd k (d+1) (by lia) (by lia) (Gd.nr (by lia) (λj hj=>?_) g.2) i hi;rw[h.ws d hf (by lia) j hj];have:=dr (1*W d j+-(W d d/aL s D d)*D d j) (s j);rw[show 1*W d j+-(W d d/aL s D d)*D d j=W d j-W d d/aL s D d*D d j by grind] at this;rw[show 1*W d j+-(W d d/aL s D d)*D d j=W d j-W d d/aL s D d*D d j by grind];exact this
theorem Dn.away(h:Dn n s D f W)(Gd:Good n s D):∀ d,f<=d->d<=n->∀ k,f+k=n->G n s D k f λi=>W f i-W d i:=by
 intro d
 induction d with
 | zero =>
  intro hf _ k hn;obtain rfl:f=0:=by lia
  exact G.ext hn (λi _=>by lia) (G.zero hn)
 | succ d ih =>
  intro hf hd k hn;rcases TV d f with q | q
  .rw[show d+1=f by lia];exact G.ext hn (λi _=>by lia) (G.zero hn)
  .refine Gd.nr hn (λi hi=>?_) (G.add hn (ih q (by lia) k hn) (G.mul (W d d/aL s D d) hn (Gd.row (show d<n by lia) hn q)));rw[h.ws d q (by lia) i hi];have:=mJ (1*W d i+-(W d d/aL s D d)*D d i) (s i);obtain⟨c,hc⟩:=this;exact⟨c,by rw[<- hc];grind⟩
theorem G.small(Gd:Good n s D):∀ k d (v:bN),d+k=n->(∀ i,i<n->0<=v i/\v i<s i)->(∀ i,d<=i->i<n->v i<aL s D i)->G n s D k d v->∀ i,i<n->v i=0
 | 0,d,v,hn,h0,_,g,i,hi=>iZ (h0 i hi).1 (h0 i hi).2 (g i hi)
 | k+1,d,v,hn,h0,h1,g,i,hi=>by
  have z:v d=0:=iZ (h0 d (by lia)).1 (h1 d (SX _) (by lia)) g.1;refine G.small Gd k (d+1) v (by lia) h0 (λj hj=>h1 j (by lia)) (G.ext (by lia) (λj hj=>?_) g.2) i hi;rw[z];simp
theorem uM(Gd:Good n s D)(W:Nat->Nat->bN)(hW:∀ d,d<n->Dn n s D (d+1) (W d))(h0:∀ d,d<n->∀ i,i<n->W d (d+1) i=D d i)(hD:∀ d,d<n->∀ i,i<n->D' d i=W d n i) :
  Good n s D'/\(∀ d,d<n->aL s D' d=aL s D d)/\(∀ d,d<n->∀ e,d<e->e<n->D' d e<aL s D e)/\(∀ d,d<n->D' d d=0->∀ i,i<n->D' d i=0)/\(∀ k d,d+k=n->∀ w,G n s D k d w->G n s D' k d w):=by
 have dg:∀ d,d<n->∀ i,i<=d->D' d i=D d i:=λd hd i hi=>by
  rw[hD d hd i (by lia),(hW d hd).front Gd n (by lia) (SX _) i (by lia),h0 d hd i (by lia)]
 have st:∀ d,d<n->aL s D' d=aL s D d:=λd hd=>by
  unfold aL;rw[dg d hd d (SX _)]
 have SH:∀ k d,d+k=n->∀ w,G n s D k d w->G n s D' k d w:=by
  intro k
  induction k with
  | zero=>intro d _ w h;exact h
  | succ k ih =>
   intro d hn w h;have hd:d<n:=by lia
   refine⟨by rw[st d hd];exact h.1,ih (d+1) (by lia) _ ?_⟩;rw[st d hd];refine G.ext (by lia) (λi hi=>?_) (G.add (by lia) h.2 (G.mul (w d/aL s D d) (by lia) ((hW d hd).away Gd n (by lia) (SX _) k (by lia))));show w i-w d/aL s D d*D d i+w d/aL s D d*(W d (d+1) i-W d n i)=_;rw[h0 d hd i hi,hD d hd i hi];grind
 have good:Good n s D':=Gd.En (λd hd i hi=>by rw[hD d hd i hi];exact(hW d hd).kept Gd n (by lia) (SX _) i hi) (λd hd i hi=>by rw[dg d hd i (by lia)];exact Gd.rg d hd i hi) (λd hd=>by rw[st d hd];exact Gd.dv d hd) SH;have lt:∀ d,d<n->∀ e,d<e->e<n->D' d e<aL s D e:=λd hd e he hen=>by
  rw[hD d hd e hen];exact((hW d hd).low Gd n (by lia) (SX _) e (by lia) hen).2
 refine⟨good,st,lt,λd hd z=>?_,SH⟩;have h1:=good.own (d:=d) (k:=n-d-1) (by lia);have h2:=h1.2;refine G.small good (n-d-1) (d+1) (D' d) (by lia) (good.hZ d hd) (λi h1 h2=>by rw[st i h2];exact lt d hd i (by lia) h2) (G.ext (by lia) (λi hi=>?_) h2);rw[z];simp
end
def bS:Nat->(Nat->Int)->Int
 | 0,_=>0
 | m+1,f=>bS m f+f m
theorem hG(a b:Int)(f g h:Nat->Int):∀ m,(∀ l,l<m->h l=a*f l+b*g l)->bS m h=a*bS m f+b*bS m g
 | 0,_=>by simp[bS]
 | m+1,e=>by
  rw[bS,bS,bS,hG a b f g h m λl hl=>e l (by lia),e m (by lia)];grind
theorem dI{f g:Nat->Int}:∀ {m:Nat},(∀ l,l<m->f l=g l)->bS m f=bS m g
 | 0,_=>rfl
 | m+1,e=>by rw[bS,bS,dI λl hl=>e l (by lia),e m (by lia)]
theorem fu:∀ m,bS m (λ_=>0)=0
 | 0=>rfl
 | m+1=>by rw[bS,fu m];rfl
theorem dP(k:Nat)(a:Int):∀ m,k<m->∀ f:Nat->Int,(∀ l,l<m->f l=if l=k then a else 0)->bS m f=a
 | 0,h,_,_=>by lia
 | m+1,h,f,e=>by
  rw[bS]
  by_cases z:k=m
  .subst z;rw[dI (g:=λ_=>0) λl hl=>by rw[e l (by lia),if_neg (by lia)],fu,e k (by lia),if_pos rfl];lia
  .rw[dP k a m (by lia) f λl hl=>e l (by lia),e m (by lia),if_neg (by lia)];lia
def Led(n:Nat)(s:bN)(m:Nat)(A:Nat->bN)(v P:bN):Prop:=∀ i,i<n->s i∣v i-bS m λl=>P l*A l i
variable{m:Nat}
theorem Led.mix{A:Nat->bN}{w x P Q R:bN}{a:Int}(h1:Led n s m A v P)(h2:Led n s m A w Q)(hx:∀ i,i<n->s i∣x i-(a*v i+b*w i))(hR:∀ l,l<m->R l=a*P l+b*Q l):Led n s m A x R:=λi hi=>by
 obtain⟨c1,e1⟩:=h1 i hi;obtain⟨c2,e2⟩:=h2 i hi;obtain⟨c3,e3⟩:=hx i hi;rw[hG a b (λl=>P l*A l i) (λl=>Q l*A l i) (λl=>R l*A l i) m λl hl=>by rw[hR l hl];grind];exact⟨a*c1+b*c2+c3,by grind⟩
def aC:Nat->(Nat->Int)->Int
 | 0,_=>1
 | m+1,f=>aC m f*f m
theorem mF{f g h:Nat->Int}:∀ {m:Nat},(∀ l,l<m->f l=g l*h l)->aC m f=aC m g*aC m h
 | 0,_=>rfl
 | m+1,e=>by rw[aC,aC,aC,mF λl hl=>e l (by lia),e m (by lia)];grind
theorem dQ{f g:Nat->Int}:∀ {m:Nat},(∀ l,l<m->f l=g l)->aC m f=aC m g
 | 0,_=>rfl
 | m+1,e=>by rw[aC,aC,dQ λl hl=>e l (by lia),e m (by lia)]
theorem dO{f:Nat->Int}:∀ {m:Nat},(∀ l,l<m->0<f l)->0<aC m f
 | 0,_=>(by decide:(0:Int)<1)
 | m+1,e=>Y5 (dO λl hl=>e l (by lia)) (e m (by lia))
def vf(xs:List Int):bN:=λi=>xs.getD i 0
variable{xs:List Int}
theorem aV(h:i<xs.length):vf xs i=xs[i]:=by
 unfold vf;rw[S6,SW h];rfl
theorem pN(h:xs.length<=i):vf xs i=0:=by
 unfold vf;rw[S6,W5 h];rfl
def nR(xs:List Int)(a:Int)(ys:List Int)(b:Int):List Int:=(xs.zip ys).map λz=>a*z.1+b*z.2
def zh(xs N4:List Int):List Int:=(xs.zip N4).map λz=>z.1%z.2
variable{ys:List Int}
theorem bT{a:Int}:(nR xs a ys b).length=min xs.length ys.length:=by simp[nR]
theorem iT:(zh xs ys).length=min xs.length ys.length:=by simp[zh]
theorem fy{a:Int}(h1:i<xs.length)(h2:i<ys.length):vf (nR xs a ys b) i=a*vf xs i+b*vf ys i:=by
 rw[aV (by rw[bT];lia),aV h1,aV h2];simp[nR]
theorem jm(h1:i<xs.length)(h2:i<ys.length):vf (zh xs ys) i=vf xs i%vf ys i:=by
 rw[aV (by rw[iT];lia),aV h1,aV h2];simp[zh]
theorem uu(hl:xs.length=ys.length)(h:∀ i,i<xs.length->vf xs i=vf ys i):xs=ys:=by
 refine Yk hl λi h1 h2=>?_;have:=h i h1
 rwa [aV h1,aV h2] at this
theorem fz(n:Nat)(i:Nat):vf (SS n 0) i=0:=by
 rcases TV i n with h | h
 .rw[aV (by simpa using h)];simp
 .rw[pN (by simpa using h)]
def Bd(B:Nat)(xs:List Int):Prop:=∀ x∈xs,x.natAbs<2^B
theorem Bd.mono{B C:Nat}(h:Bd B xs)(hc:B<=C):Bd C xs:=λx hx=>S_ (h x hx) (Uv (by decide) hc)
theorem Bd.vf{B:Nat}{xs:List Int}(h:Bd B xs)(i:Nat):(vf xs i).natAbs<2^B:=by
 rcases TV i xs.length with q | q
 .rw[aV q];exact h _ (T6 q)
 .rw[pN q];exact Vx B
theorem wZ{a:Int}{A B:Nat}(ha:a.natAbs<2^A)(hb:b.natAbs<2^B):(a*b).natAbs<2^(A+B):=by
 rw[Vq,Z8];have h0:0<2^A:=Vx A;have h1:0<2^B:=Vx B;exact Nat.mul_lt_mul_of_lt_of_le ha (VS hb) h1
theorem HP{a:Int}{A:Nat}(ha:a.natAbs<2^A)(hb:b.natAbs<2^A):(a+b).natAbs<2^(A+1):=by
 rw[ZN];lia
theorem Bd.mix{A B:Nat}{a:Int}(hx:Bd B xs)(hy:Bd B ys)(ha:a.natAbs<2^A)(hb:b.natAbs<2^A):Bd (A+B+1) (nR xs a ys b):=by
 intro z hz;obtain⟨w,hw,rfl⟩:=T_.mp hz;have:=UO (a:=w.1) (b:=w.2) hw;exact HP (wZ ha (hx _ this.1)) (wZ hb (hy _ this.2))
abbrev Row:=List Int×List Int
def row(rows:List Row)(d:Nat):Row:=rows.getD d ([],[])
def DD(rows:List Row):Nat->bN:=λd=>vf (row rows d).1
def PP(rows:List Row):Nat->bN:=λd=>vf (row rows d).2
structure Wf (n m:Nat) (rows:List Row):Prop where
 len:rows.length=n
 l1:∀ r∈rows,r.1.length=n
 l2:∀ r∈rows,r.2.length=m
variable{rows:List Row}
theorem eY(h:d<rows.length):row rows d=rows[d]:=by
 unfold row;rw[S6,SW h];rfl
theorem Wf.ly(w:Wf n m rows)(h:d<n):(row rows d).1.length=n:=by
 rw[eY (by rw[w.len];exact h)];exact w.l1 _ (T6 _)
theorem Wf.at2(w:Wf n m rows)(h:d<n):(row rows d).2.length=m:=by
 rw[eY (by rw[w.len];exact h)];exact w.l2 _ (T6 _)
def qz(N4:List Int)(r:Row)(a:Int)(q:Row)(b:Int):Row:=(zh (nR r.1 a q.1 b) N4,nR r.2 a q.2 b)
def aA(c:Int->Int->Int×Int)(N4:List Int)(rows:List Row)(left:Row):Nat->Row
 | 0=>left
 | d+1 =>
  let l:=aA c N4 rows left d
  let st:=aL (vf N4) (DD rows) d
  let nt:=vf l.1 d
  qz N4 l (st/(TF st nt:Nat)) (row rows d) (-(nt/(TF st nt:Nat)))
def eB(c:Int->Int->Int×Int)(N4:List Int)(rows:List Row)(left:Row)(d:Nat):Row :=
 let l:=aA c N4 rows left d
 let st:=aL (vf N4) (DD rows) d
 let nt:=vf l.1 d
 qz N4 (row rows d) (c st nt).1 l (c st nt).2
def cC(c:Int->Int->Int×Int)(N4:List Int)(rows:List Row)(left:Row)(n:Nat):List Row:=(Tg n).map (eB c N4 rows left)
variable{left:Row}{N4:List Int}{c:Int->Int->Int×Int}
theorem c8(w:Wf n m rows)(hs:N4.length=n)(h1:left.1.length=n)(h2:left.2.length=m):∀ d,d<=n->(aA c N4 rows left d).1.length=n/\(aA c N4 rows left d).2.length=m
 | 0,_=>⟨h1,h2⟩
 | d+1,hd=>by
  obtain⟨i1,i2⟩:=c8 w hs h1 h2 d (by lia);have e1:=w.ly (d:=d) (by lia);have e2:=w.at2 (d:=d) (by lia);simp only[aA,qz];rw[iT,bT,bT];exact⟨by lia,by lia⟩
theorem j9(h:d<n):row (cC c N4 rows left n) d=eB c N4 rows left d:=by
 rw[eY (by simp[cC,h])];simp[cC]
theorem AM(w:Wf n m rows)(hs:N4.length=n)(h1:left.1.length=n)(h2:left.2.length=m):Wf n m (cC c N4 rows left n):=by
 have key:∀ d,d<n->(eB c N4 rows left d).1.length=n/\(eB c N4 rows left d).2.length=m:=λd hd=>by
  obtain⟨i1,i2⟩:=c8 (c:=c) w hs h1 h2 d (by lia);have e1:=w.ly (d:=d) hd;have e2:=w.at2 (d:=d) hd;simp only[eB,qz];rw[iT,bT,bT];exact⟨by lia,by lia⟩
 refine⟨by simp[cC],λr hr=>?_,λr hr=>?_⟩
 .obtain⟨d,hd,rfl⟩:=T_.mp hr;exact(key d (UA.mp hd)).1
 .obtain⟨d,hd,rfl⟩:=T_.mp hr;exact(key d (UA.mp hd)).2
theorem gI{a:Int}(h:0<a):0<(TF a b:Int):=by
 have:=Int.gcd_pos_of_ne_zero_left b (show a≠0 by lia);lia
theorem K2(w:Wf n m rows)(hs:N4.length=n)(h1:left.1.length=n)(h2:left.2.length=m)(Gd:Good n (vf N4) (DD rows))(h0:∀ i,i<n->0<=vf left.1 i/\vf left.1 i<vf N4 i)
  (hc:∀ d,d<n->(c (aL (vf N4) (DD rows) d) (vf (aA c N4 rows left d).1 d)).1*aL (vf N4) (DD rows) d+(c (aL (vf N4) (DD rows) d) (vf (aA c N4 rows left d).1 d)).2*vf (aA c N4 rows left d).1 d=(TF (aL (vf N4) (DD rows) d) (vf (aA c N4 rows left d).1 d):Nat)) :
  Tk n (vf N4) (DD rows) (DD (cC c N4 rows left n)) (λd=>vf (aA c N4 rows left d).1) (λd=>(c (aL (vf N4) (DD rows) d) (vf (aA c N4 rows left d).1 d)).1) (λd=>(c (aL (vf N4) (DD rows) d) (vf (aA c N4 rows left d).1 d)).2) (λd=>(TF (aL (vf N4) (DD rows) d) (vf (aA c N4 rows left d).1 d):Nat)) where
 gp:=λd hd=>gI (Gd.pos hd).1
 bz:=hc
 g1:=λd hd=>VD ..
 g2:=λd hd=>ZO ..
 qO:=λd hd i hi=>by
  obtain⟨i1,i2⟩:=c8 (c:=c) w hs h1 h2 d (by lia);have e1:=w.ly (d:=d) hd;show vf (row (cC c N4 rows left n) d).1 i=_;rw[j9 hd];simp only[eB,qz];rw[jm (by rw[bT];lia) (by lia),fy (by lia) (by lia)];rfl
 Kx:=λd hd i hi=>by
  obtain⟨i1,i2⟩:=c8 (c:=c) w hs h1 h2 d (by lia);have e1:=w.ly (d:=d) hd;simp only[aA,qz];rw[jm (by rw[bT];lia) (by lia),fy (by lia) (by lia)];rfl
 l0:=h0
section
variable{A:Nat->bN}
def CB(c:Int->Int->Int×Int):Prop:=∀ a b:Int,0<a->a<=360->0<=b->b<=360->(c a b).1*a+(c a b).2*b=(TF a b:Nat)/\(c a b).1.natAbs<2^20/\(c a b).2.natAbs<2^20
theorem j4{a:Int}(h:0<a)(h2:a<=360):0<a/(TF a b:Nat)/\a/(TF a b:Nat)<=360:=by
 have g:=gI (b:=b) h;obtain⟨q,hq⟩:((TF a b:Nat):Int)∣a:=VD ..;have e:a/(TF a b:Nat)=q:=by
  have:((TF a b:Nat):Int)≠0:=by lia
  exact Int.ediv_eq_of_eq_mul_right this hq
 rw[e];have q0:0<q:=by
  rcases YB 0 q with z | z
  .exact z
  .have:=WI (WY g) z;lia
 refine⟨q0,?_⟩;have:1*q<=(TF a b:Nat)*q:=Vi (by lia) (by lia);lia
theorem lL{a:Int}(h:0<a)(h1:0<=b)(h2:b<=360):0<=b/(TF a b:Nat)/\b/(TF a b:Nat)<=360:=by
 have g:=gI (b:=b) h;exact⟨U4 h1 (by lia),YF (Wv _ h1) h2⟩
def Zf(k m:Nat)(P:bN):Prop:=∀ l,k<=l->l<m->P l=0
structure St (n m:Nat) (N4:List Int) (A:Nat->bN) (k:Nat) (rows:List Row):Prop where
 wf:Wf n m rows
 hs:N4.length=n
 sm:∀ i,i<n->vf N4 i<=360
 gd:Good n (vf N4) (DD rows)
 led:∀ d,d<n->Led n (vf N4) m A (DD rows d) (PP rows d)
 zf:∀ d,d<n->Zf k m (PP rows d)
 bd:∀ d,d<n->Bd (150*k+1) (row rows d).2
 cl:∀ l,l<k->G n (vf N4) (DD rows) n 0 (A l)
structure Lv (n m:Nat) (N4:List Int) (A:Nat->bN) (k:Nat) (left:Row):Prop where
 l1:left.1.length=n
 l2:left.2.length=m
 km:k<m
 at_:∀ i,i<n->vf left.1 i=A k i
 hZ:∀ i,i<n->0<=A k i/\A k i<vf N4 i
 un:∀ l,l<m->vf left.2 l=if l=k then 1 else 0
theorem ke(h:St n m N4 A k rows)(L:Lv n m N4 A k left):∀ d,d<=n->∀ i,i<n->0<=vf (aA c N4 rows left d).1 i/\vf (aA c N4 rows left d).1 i<vf N4 i
 | 0,_,i,hi=>by show 0<=vf left.1 i/\vf left.1 i<vf N4 i;rw[L.at_ i hi];exact L.hZ i hi
 | d+1,hd,i,hi=>by
  obtain⟨i1,i2⟩:=c8 (c:=c) h.wf h.hs L.l1 L.l2 d (by lia);have e1:=h.wf.ly (d:=d) (by lia);have hs:=h.hs;simp only[aA,qz];rw[jm (by rw[bT];lia) (by lia)];have:=h.gd.sp i hi;exact⟨Tz _ (by lia),To _ this⟩
theorem St.tk(h:St n m N4 A k rows)(L:Lv n m N4 A k left)(cb:CB c):Tk n (vf N4) (DD rows) (DD (cC c N4 rows left n)) (λd=>vf (aA c N4 rows left d).1) (λd=>(c (aL (vf N4) (DD rows) d) (vf (aA c N4 rows left d).1 d)).1) (λd=>(c (aL (vf N4) (DD rows) d) (vf (aA c N4 rows left d).1 d)).2) (λd=>(TF (aL (vf N4) (DD rows) d) (vf (aA c N4 rows left d).1 d):Nat)) :=
 K2 h.wf h.hs L.l1 L.l2 h.gd (λi hi=>by rw[L.at_ i hi];exact L.hZ i hi) λd hd=>by
  have p:=h.gd.pos hd;have q:=ke (c:=c) h L d (by lia) d hd;have s:=h.sm d hd;exact(cb _ _ p.1 (by lia) q.1 (by lia)).1
theorem pS(h:St n m N4 A k rows)(L:Lv n m N4 A k left):∀ d,d<=n->Led n (vf N4) m A (vf (aA c N4 rows left d).1) (vf (aA c N4 rows left d).2)
 | 0,_=>λi hi=>by
  show vf N4 i∣vf left.1 i-bS m λl=>vf left.2 l*A l i;rw[L.at_ i hi,dP k (A k i) m L.km (λl=>vf left.2 l*A l i) λl hl=>by
   rw[L.un l hl]
   by_cases z:l=k
   .subst z;rw[if_pos rfl,if_pos rfl,WK]
   .rw[if_neg z,if_neg z,YG]]
  rw[YE];exact Uz _
 | d+1,hd=>by
  obtain⟨i1,i2⟩:=c8 (c:=c) h.wf h.hs L.l1 L.l2 d (by lia);have e1:=h.wf.ly (d:=d) (by lia);have e2:=h.wf.at2 (d:=d) (by lia);have hs:=h.hs;refine Led.mix (a:=aL (vf N4) (DD rows) d/(TF (aL (vf N4) (DD rows) d) (vf (aA c N4 rows left d).1 d):Nat)) (b:=-(vf (aA c N4 rows left d).1 d/(TF (aL (vf N4) (DD rows) d) (vf (aA c N4 rows left d).1 d):Nat))) (pS h L d (by lia)) (h.led d (by lia)) (λi hi=>?_) λl hl=>?_
  .simp only[aA,qz];rw[jm (by rw[bT];lia) (by lia),fy (by lia) (by lia)];exact dr _ _
  .simp only[aA,qz];rw[fy (by lia) (by lia)];rfl
theorem uc(h:St n m N4 A k rows)(L:Lv n m N4 A k left):∀ d,d<=n->Zf (k+1) m (vf (aA c N4 rows left d).2)/\vf (aA c N4 rows left d).2 k=aC d λe=>aL (vf N4) (DD rows) e/(TF (aL (vf N4) (DD rows) e) (vf (aA c N4 rows left e).1 e):Nat)
 | 0,_=>⟨λl h1 h2=>by show vf left.2 l=0;rw[L.un l h2,if_neg (by lia)],by show vf left.2 k=1;rw[L.un k L.km,if_pos rfl]⟩
 | d+1,hd=>by
  obtain⟨i1,i2⟩:=c8 (c:=c) h.wf h.hs L.l1 L.l2 d (by lia);have e2:=h.wf.at2 (d:=d) (by lia);obtain⟨j1,j2⟩:=uc h L d (by lia);have z:=h.zf d (by lia);have km:=L.km;constructor
  .intro l h1 h2;simp only[aA,qz];rw[fy (by lia) (by lia),j1 l h1 h2,show vf (row rows d).2 l=0 from z l (by lia) h2];simp
  .rw[aC,<- j2];simp only[aA,qz];rw[fy (by lia) (by lia),show vf (row rows d).2 k=0 from z k (SX _) km]
   grind
theorem oo(h:St n m N4 A k rows)(L:Lv n m N4 A k left)(hn:n<=6):∀ d,d<=n->Bd (150*k+1+11*d) (aA c N4 rows left d).2
 | 0,_=>λx hx=>by
  have hx:x∈left.2:=hx;obtain⟨i,hi,rfl⟩:=S8.mp hx;have hm:i<m:=by rw[<- L.l2];exact hi
  have e:=L.un i hm;rw[aV hi] at e;show (left.2[i]).natAbs<_;rw[e];have:2^1<=2^(150*k+1+11*0):=Uv (by decide) (by lia);refine S_ ?_ this
  split
  .decide
  .decide
 | d+1,hd=>by
  have p:=h.gd.pos (show d<n by lia);have s:=h.sm d (by lia);have q:=ke (c:=c) h L d (by lia) d (by lia);have a1:=j4 (b:=vf (aA c N4 rows left d).1 d) p.1 (by lia);have a2:=lL (b:=vf (aA c N4 rows left d).1 d) p.1 q.1 (by lia);have:=Bd.mix (A:=9+1) (oo h L hn d (by lia)) ((h.bd d (by lia)).mono (show 150*k+1<=150*k+1+11*d by lia)) (a:=aL (vf N4) (DD rows) d/(TF (aL (vf N4) (DD rows) d) (vf (aA c N4 rows left d).1 d):Nat)) (b:=-(vf (aA c N4 rows left d).1 d/(TF (aL (vf N4) (DD rows) d) (vf (aA c N4 rows left d).1 d):Nat))) (by lia) (by lia);exact this.mono (by lia)
theorem St.next(h:St n m N4 A k rows)(L:Lv n m N4 A k left)(cb:CB c)(hn:n<=6):St n m N4 A (k+1) (cC c N4 rows left n):=by
 have T:=h.tk L cb;have hs:=h.hs;refine⟨AM h.wf h.hs L.l1 L.l2,h.hs,h.sm,T.good h.gd,λd hd=>?_,λd hd=>?_,λd hd=>?_,λl hl=>?_⟩
 .obtain⟨i1,i2⟩:=c8 (c:=c) h.wf h.hs L.l1 L.l2 d (by lia);have e1:=h.wf.ly (d:=d) hd;have e2:=h.wf.at2 (d:=d) hd;unfold DD PP;rw[j9 hd];refine Led.mix (a:=(c (aL (vf N4) (DD rows) d) (vf (aA c N4 rows left d).1 d)).1) (b:=(c (aL (vf N4) (DD rows) d) (vf (aA c N4 rows left d).1 d)).2) (h.led d hd) (pS (c:=c) h L d (by lia)) (λi hi=>?_) λl hl=>?_
  .simp only[eB,qz];rw[jm (by rw[bT];lia) (by lia),fy (by lia) (by lia)];exact dr _ _
  .simp only[eB,qz];rw[fy (by lia) (by lia)];rfl
 .obtain⟨i1,i2⟩:=c8 (c:=c) h.wf h.hs L.l1 L.l2 d (by lia);have e2:=h.wf.at2 (d:=d) hd;intro l h1 h2;unfold PP;rw[j9 hd];simp only[eB,qz];rw[fy (by lia) (by lia),(uc (c:=c) h L d (by lia)).1 l h1 h2,show vf (row rows d).2 l=0 from h.zf d hd l (by lia) h2];simp
 .rw[j9 hd];have p:=h.gd.pos hd;have s:=h.sm d hd;have q:=ke (c:=c) h L d (by lia) d hd;have b:=cb (aL (vf N4) (DD rows) d) (vf (aA c N4 rows left d).1 d) p.1 (by lia) q.1 (by lia);have:=Bd.mix (A:=20) ((h.bd d hd).mono (show 150*k+1<=150*k+1+11*d by lia)) (oo (c:=c) h L hn d (by lia)) b.2.1 b.2.2;exact this.mono (by lia)
 .rcases TV l k with q | q
  .exact(T.main h.gd n 0 (by lia)).1 _ (h.cl l q)
  .obtain rfl:l=k:=by lia
   exact G.ext (by lia) (λi hi=>L.at_ i hi) (T.main h.gd n 0 (by lia)).2
end
def aZ(N6:List (List Int))(k:Nat)(P:List Int):Nat->List Int
 | 0=>P
 | c+1 =>
  let z:=aZ N6 k P c
  let r:=N6.getD (k-1-c) []
  nR z 1 r (-(vf z (k-1-c)/vf r (k-1-c)))
def II(N6:List (List Int)):Nat->bN:=λj=>vf (N6.getD j [])
structure yu (n m:Nat) (s:bN) (A:Nat->bN) (k:Nat) (N6:List (List Int)):Prop where
 len:N6.length=k
 l2:∀ j,j<k->(N6.getD j []).length=m
 pos:∀ j,j<k->0<II N6 j j
 le:∀ j,j<k->II N6 j j<2^60
 zero:∀ j,j<k->∀ l,j<l->l<m->II N6 j l=0
 nf:∀ j,j<k->∀ l,l<j->0<=II N6 j l/\II N6 j l<II N6 l l
 qC:∀ j,j<k->Led n s m A (λ_=>0) (II N6 j)
variable{N6:List (List Int)}
variable{j:Nat}
section
variable{A:Nat->bN}{P:List Int}
theorem yu.bd(h:yu n m s A k N6)(hj:j<k)(hm:k<=m):Bd 60 (N6.getD j []):=λx hx=>by
 obtain⟨l,hl,rfl⟩:=S8.mp hx;rw[h.l2 j hj] at hl;have e:II N6 j l=(N6.getD j [])[l]'(by rw[h.l2 j hj];exact hl):=aV _;rw[<- e];rcases TV l j with q | q
 .have h1:=h.nf j hj l q;have h2:=h.le l (by lia);lia
 .rcases TV j l with q2 | q2
  .rw[h.zero j hj l q2 hl];exact Vx _
  .obtain rfl:l=j:=by lia
   have h1:=h.pos l hj;have h2:=h.le l hj;lia
theorem span_len(h:yu n m s A k N6)(hP:P.length=m):∀ c,c<=k->(aZ N6 k P c).length=m
 | 0,_=>hP
 | c+1,hc=>by
  simp only[aZ];rw[bT,span_len h hP c (by lia),h.l2 _ (by lia)];lia
theorem oy(h:yu n m s A k N6)(hP:P.length=m){c l:Nat}(hc:c<k)(hl:l<m):vf (aZ N6 k P (c+1)) l=vf (aZ N6 k P c) l-vf (aZ N6 k P c) (k-1-c)/II N6 (k-1-c) (k-1-c)*II N6 (k-1-c) l:=by
 simp only[aZ];rw[fy (by rw[span_len h hP c (by lia)];exact hl) (by rw[h.l2 _ (by lia)];exact hl)];unfold II
 grind
theorem vF(h:yu n m s A k N6)(hP:P.length=m):∀ c,c<=k->∀ l,k<=l->l<m->vf (aZ N6 k P c) l=vf P l
 | 0,_,_,_,_=>rfl
 | c+1,hc,l,h1,h2=>by
  rw[oy h hP (by lia) h2,h.zero _ (by lia) l (by lia) h2,vF h hP c (by lia) l h1 h2];simp
theorem ux(h:yu n m s A k N6)(hP:P.length=m)(hm:k<=m):∀ c,c<=k->∀ l,k-c<=l->l<k->0<=vf (aZ N6 k P c) l/\vf (aZ N6 k P c) l<II N6 l l
 | 0,_,l,h1,h2=>by lia
 | c+1,hc,l,h1,h2=>by
  rw[oy h hP (by lia) (by lia)];rcases TV (k-1-c) l with q | q
  .rw[h.zero _ (by lia) l q (by lia),Vp,WV];exact ux h hP hm c (by lia) l (by lia) h2
  .obtain rfl:l=k-1-c:=by lia
   have p:=h.pos (k-1-c) (by lia);have e:=WW (vf (aZ N6 k P c) (k-1-c)) (II N6 (k-1-c) (k-1-c));rw[Vn (vf (aZ N6 k P c) (k-1-c)/_),<- e];exact⟨Tz _ (by lia),To _ p⟩
theorem pJ(h:yu n m s A k N6)(hP:P.length=m){v:bN}(hv:Led n s m A v (vf P)):∀ c,c<=k->Led n s m A v (vf (aZ N6 k P c))
 | 0,_=>hv
 | c+1,hc=>by
  refine Led.mix (a:=1) (b:=-(vf (aZ N6 k P c) (k-1-c)/II N6 (k-1-c) (k-1-c))) (pJ h hP hv c (by lia)) (h.qC (k-1-c) (by lia)) (λi hi=>?_) λl hl=>?_
  .rw[Vp,WX,WK,YE];exact Uz _
  .rw[oy h hP (by lia) hl];grind
theorem xK(h:yu n m s A k N6)(hP:P.length=m)(hm:k<=m){B:Nat}(hB:60<=B)(hb:Bd B P):∀ c,c<=k->Bd (B+62*c) (aZ N6 k P c)
 | 0,_=>hb
 | c+1,hc=>by
  have ih:=xK h hP hm hB hb c (by lia);intro x hx;obtain⟨l,hl,rfl⟩:=S8.mp hx;rw[span_len h hP (c+1) hc] at hl;rw[<- aV,oy h hP (by lia) hl];have p:=h.pos (k-1-c) (by lia);have q1:(vf (aZ N6 k P c) (k-1-c)/II N6 (k-1-c) (k-1-c)).natAbs<2^(B+62*c+1):=by
   have h1:=ih.vf (k-1-c);have h2:=X3 (vf (aZ N6 k P c) (k-1-c)) (II N6 (k-1-c) (k-1-c));rw[ZN];lia
  have q2:(II N6 (k-1-c) l).natAbs<2^60:=(h.bd (j:=k-1-c) (by lia) hm).vf l;have q3:=wZ q1 q2;have q4:=ih.vf l;have q5:2^(B+62*c)<=2^(B+62*c+1+60):=Uv (by decide) (by lia);have q6:(2:Nat)^(B+62*(c+1))=2^(B+62*c+1+60)*2:=by rw[<- ZN];congr 1
  rw[q6];lia
end
section
variable{A:Nat->bN}
theorem Tk.order{s:bN}{D D' L:Nat->bN}{u v g:Nat->Int}(t:Tk n s D D' L u v g)(Gd:Good n s D):∀ (k d:Nat) (x:Int),d+k=n->G n s D k d (λi=>x*L d i)->aC n (λe=>aL s D e/g e)∣x*aC d (λe=>aL s D e/g e)
 | 0,d,x,hn,h=>by
  obtain rfl:d=n:=by lia
  exact UT _ _
 | k+1,d,x,hn,h=>by
  have hd:d<n:=by lia
  obtain⟨a,ha⟩:=t.g1 d hd;obtain⟨b,hb⟩:=t.g2 d hd;have gp:=t.gp d hd;have sp:=(Gd.pos hd).1;have e1:aL s D d/g d=a:=by rw[ha];exact Th a (by lia)
  have e2:L d d/g d=b:=by rw[hb];exact Th b (by lia)
  have bz:u d*a+v d*b=1:=by
   have:=t.bz d hd;rw[ha,hb,show u d*(g d*a)+v d*(g d*b)=g d*(u d*a+v d*b) by grind] at this;have h2:g d*(u d*a+v d*b)=g d*1:=by lia
   exact TZ (by lia) h2
  obtain⟨q,hq⟩:=h.1;have hax:a∣x:=by
   have h3:g d*(x*b)=g d*(a*q):=by
    have:x*L d d=aL s D d*q:=hq;rw[hb,ha] at this;grind
   have h4:x*b=a*q:=TZ (by lia) h3;exact⟨u d*x+v d*q,by
    have:x=x*(u d*a+v d*b):=by rw[bz,YV]
    rw[this];have:x*(u d*a+v d*b)=a*(u d*x)+v d*(x*b):=by grind
    rw[this,h4];grind⟩
  obtain⟨y,hy⟩:=hax;have OO:q=b*y:=by
   have h3:g d*(a*q)=g d*(a*(b*y)):=by
    have:x*L d d=aL s D d*q:=hq;rw[hb,ha,hy] at this;grind
   have ap:a≠0:=by intro z;rw[z,Vp] at ha;lia
   exact TZ ap (TZ (by lia) h3)
  have h2:=h.2;have q1:x*L d d/aL s D d=q:=by
   show x*L d d/aL s D d=q;rw[show x*L d d=aL s D d*q from hq];exact Th q (by lia)
  have:=t.order Gd k (d+1) y (by lia) (Gd.nr (by lia) (λi hi=>?_) h2)
  .rw[aC,e1] at this;rw[hy,show a*y*aC d (λe=>aL s D e/g e)=y*(aC d (λe=>aL s D e/g e)*a) by grind];exact this
  .show s i∣y*L (d+1) i-(x*L d i-x*L d d/aL s D d*D d i);rw[q1,t.Kx d hd i hi,e1,e2];obtain⟨z,hz⟩:=dr (a*L d i+-b*D d i) (s i);refine⟨y*z,?_⟩;have:(a*L d i+-b*D d i)%s i=a*L d i+-b*D d i+s i*z:=by lia
   rw[this,hy,OO];grind
theorem G.sum(Gd:Good n (vf N4) (DD rows)){P:bN}:∀ k',(∀ l,l<k'->G n (vf N4) (DD rows) n 0 (A l))->G n (vf N4) (DD rows) n 0 (λi=>bS k' λl=>P l*A l i)
 | 0,_=>G.zero (by lia)
 | k'+1,h=>G.ext (by lia) (λi _=>rfl) (G.add (by lia) (G.sum Gd k' λl hl=>h l (by lia)) (G.mul (P k') (by lia) (h k' (by lia))))
end
def mT(m k:Nat):List Int:=(Tg m).map λl=>if l=k then 1 else 0
theorem va{l:Nat}(h:l<m):vf (mT m k) l=if l=k then 1 else 0:=by
 rw[aV (by simp[mT,h])];simp[mT]
def AA(Ls:List (List Int)):Nat->bN:=λl=>vf (Ls.getD l [])
def bP(Ls:List (List Int))(m k:Nat):Row:=(Ls.getD k [],mT m k)
def RK(c:Int->Int->Int×Int)(N4:List Int)(Ls:List (List Int))(n m:Nat):Nat->List Row×List (List Int)
 | 0=>(SS n (SS n 0,SS m 0),[])
 | k+1 =>
  (cC c N4 (RK c N4 Ls n m k).1 (bP Ls m k) n,(RK c N4 Ls n m k).2++[aZ (RK c N4 Ls n m k).2 k (aA c N4 (RK c N4 Ls n m k).1 (bP Ls m k) n).2 k])
structure Le (n m:Nat) (N4:List Int) (Ls:List (List Int)):Prop where
 len:Ls.length=m
 at_:∀ l,l<m->(Ls.getD l []).length=n
 hZ:∀ l,l<m->∀ i,i<n->0<=AA Ls l i/\AA Ls l i<vf N4 i
structure Cc (n m:Nat) (N4:List Int) (Ls:List (List Int)) (k:Nat) (r:List Row×List (List Int)):Prop where
 st:St n m N4 (AA Ls) k r.1
 qC:yu n m (vf N4) (AA Ls) k r.2
 pr:aC k (λj=>II r.2 j j)*aC n (aL (vf N4) (DD r.1))=aC n (vf N4)
 ord:∀ j,j<k->∀ P:bN,Zf (j+1) m P->Led n (vf N4) m (AA Ls) (λ_=>0) P->II r.2 j j∣P j
variable{x:List Int}
section
variable{Ls:List (List Int)}
theorem iD(h:j<N6.length):II (N6++[x]) j=II N6 j:=by
 unfold II;rw[S6,TH h,<- S6]
theorem jO:II (N6++[x]) N6.length=vf x:=by
 unfold II;rw[S6,Tj (SX _)];simp
theorem AQ(h:j<N6.length):(N6++[x]).getD j []=N6.getD j []:=by
 rw[S6,TH h,<- S6]
theorem DA:(N6++[x]).getD N6.length []=x:=by
 rw[S6,Tj (SX _)];simp
theorem pM{f:Nat->Int}{k:Nat}:∀ {m:Nat},k<m->(∀ l,k<l->l<m->f l=0)->bS m f=bS k f+f k
 | 0,h,_=>by lia
 | m+1,h,e=>by
  rw[bS]
  by_cases z:k=m
  .subst z;rfl
  .rw[pM (m:=m) (by lia) λl h1 h2=>e l h1 (by lia),e m (by lia) (by lia)];lia
theorem uR:∀ {n:Nat} {f:Nat->Int},(∀ i,i<n->0<f i/\f i<=360)->aC n f<=360^n
 | 0,f,_=>by simp[aC]
 | n+1,f,h=>by
  rw[aC,Int.pow_succ];exact Y6 (uR λi hi=>h i (by lia)) (h n (by lia)).2 (by have:=(h n (by lia)).1;lia) (Int.pow_nonneg (by decide))
theorem Nl(h:n<=6):(360:Int)^n<=360^6:=by
 have:n=0\/n=1\/n=2\/n=3\/n=4\/n=5\/n=6:=by lia
 rcases this with rfl | rfl | rfl | rfl | rfl | rfl | rfl <;> decide
theorem Cc.next{r:List Row×List (List Int)}(h:Cc n m N4 Ls k r)(LL:Le n m N4 Ls)(cb:CB c)(hn:n<=6)(hk:k<m) :
  Cc n m N4 Ls (k+1) (cC c N4 r.1 (bP Ls m k) n,r.2++[aZ r.2 k (aA c N4 r.1 (bP Ls m k) n).2 k]):=by
 have L:Lv n m N4 (AA Ls) k (bP Ls m k):=⟨LL.at_ k hk,by simp[bP,mT],hk,λi hi=>rfl,LL.hZ k hk,λl hl=>va hl⟩
 have T:=h.st.tk L cb;have ll:=c8 (c:=c) h.st.wf h.st.hs L.l1 L.l2 n (SX _);have zf:=uc (c:=c) h.st L n (SX _);have led:=pS (c:=c) h.st L n (SX _);have l0:=T.zero h.st.gd n (SX _);have il:r.2.length=k:=h.qC.len;have out:=vF h.qC ll.2 k (SX _);have jk:vf (aZ r.2 k (aA c N4 r.1 (bP Ls m k) n).2 k) k=aC n λe=>aL (vf N4) (DD r.1) e/(TF (aL (vf N4) (DD r.1) e) (vf (aA c N4 r.1 (bP Ls m k) e).1 e):Nat):=by
  rw[out k (SX _) hk];exact zf.2
 have pos:∀ e,e<n->0<aL (vf N4) (DD r.1) e/(TF (aL (vf N4) (DD r.1) e) (vf (aA c N4 r.1 (bP Ls m k) e).1 e):Nat):=λe he=>by
  have p:=h.st.gd.pos he;have s:=h.st.sm e he;exact(j4 p.1 (by lia)).1
 have pr:aC (k+1) (λj=>II (r.2++[aZ r.2 k (aA c N4 r.1 (bP Ls m k) n).2 k]) j j)*aC n (aL (vf N4) (DD (cC c N4 r.1 (bP Ls m k) n)))=aC n (vf N4):=by
  rw[aC,show II (r.2++[aZ r.2 k (aA c N4 r.1 (bP Ls m k) n).2 k]) k=vf (aZ r.2 k (aA c N4 r.1 (bP Ls m k) n).2 k) by rw[<- il];exact jO];rw[dQ (g:=λj=>II r.2 j j) λj hj=>by rw[iD (by lia)],<- h.pr,jk];rw[dQ (g:=λd=>((TF (aL (vf N4) (DD r.1) d) (vf (aA c N4 r.1 (bP Ls m k) d).1 d):Nat):Int)) λd hd=>T.step h.st.gd hd];rw[mF (f:=aL (vf N4) (DD r.1)) (g:=λd=>((TF (aL (vf N4) (DD r.1) d) (vf (aA c N4 r.1 (bP Ls m k) d).1 d):Nat):Int)) (h:=λe=>aL (vf N4) (DD r.1) e/(TF (aL (vf N4) (DD r.1) e) (vf (aA c N4 r.1 (bP Ls m k) e).1 e):Nat)) λd hd=>(Int.mul_ediv_cancel' (VD ..)).symm]
  grind
 have jpos:0<vf (aZ r.2 k (aA c N4 r.1 (bP Ls m k) n).2 k) k:=by rw[jk];exact dO pos
 have St':=h.st.next L cb hn;have jle:vf (aZ r.2 k (aA c N4 r.1 (bP Ls m k) n).2 k) k<2^60:=by
  have b:aC n (vf N4)<=360^n:=uR λi hi=>⟨h.st.gd.sp i hi,h.st.sm i hi⟩
  have b2:(360:Int)^n<=360^6:=Nl hn;have b3:(360:Int)^6<2^60:=by decide
  rw[aC,show II (r.2++[aZ r.2 k (aA c N4 r.1 (bP Ls m k) n).2 k]) k=vf (aZ r.2 k (aA c N4 r.1 (bP Ls m k) n).2 k) by rw[<- il];exact jO] at pr;have p1:0<aC k (λj=>II (r.2++[aZ r.2 k (aA c N4 r.1 (bP Ls m k) n).2 k]) j j):=dO λj hj=>by rw[iD (by lia)];exact h.qC.pos j hj
  have p2:0<aC n (aL (vf N4) (DD (cC c N4 r.1 (bP Ls m k) n))):=dO λd hd=>(St'.gd.pos hd).1;generalize aC k (λj=>II (r.2++[aZ r.2 k (aA c N4 r.1 (bP Ls m k) n).2 k]) j j)=a at *;generalize aC n (aL (vf N4) (DD (cC c N4 r.1 (bP Ls m k) n)))=b' at *;generalize vf (aZ r.2 k (aA c N4 r.1 (bP Ls m k) n).2 k) k=x at *;have e1:1*x<=a*x:=Vi (by lia) (by lia);have e2:a*x*1<=a*x*b':=T8 (by lia) (by lia);lia
 refine⟨St',⟨by simp[il],λj hj=>?_,λj hj=>?_,λj hj=>?_,λj hj l h1 h2=>?_,λj hj l hl=>?_,λj hj=>?_⟩,pr,λj hj P hz hP=>?_⟩
 all_goals
  rcases TV j k with q | q
 .rw[AQ (by lia)];exact h.qC.l2 j q
 .obtain rfl:j=r.2.length:=by lia
  rw[DA];exact span_len h.qC ll.2 k (SX _)
 .rw[iD (by lia)];exact h.qC.pos j q
 .obtain rfl:j=r.2.length:=by lia
  rw[jO,il];exact jpos
 .rw[iD (by lia)];exact h.qC.le j q
 .obtain rfl:j=r.2.length:=by lia
  rw[jO,il];exact jle
 .rw[iD (by lia)];exact h.qC.zero j q l h1 h2
 .obtain rfl:j=r.2.length:=by lia
  rw[jO,out l (by lia) h2];exact zf.1 l (by lia) h2
 .rw[iD (by lia),iD (by lia)];exact h.qC.nf j q l hl
 .obtain rfl:j=r.2.length:=by lia
  rw[jO,iD (by lia)];exact ux h.qC ll.2 (by lia) k (SX _) l (by lia) (by lia)
 .rw[iD (by lia)];exact h.qC.qC j q
 .obtain rfl:j=r.2.length:=by lia
  rw[jO];refine pJ h.qC ll.2 (λi hi=>?_) k (SX _);have:=led i hi;rw[show vf (aA c N4 r.1 (bP Ls m k) n).1 i=0 from l0 i hi] at this;exact this
 .rw[iD (by lia)];exact h.ord j q P hz hP
 .obtain rfl:j=k:=by lia
  rw[show II (r.2++[aZ r.2 j (aA c N4 r.1 (bP Ls m j) n).2 j]) j=vf (aZ r.2 j (aA c N4 r.1 (bP Ls m j) n).2 j) by rw[<- il];exact jO,jk];have:=T.order h.st.gd n 0 (P j) (by lia) ?_
  .rwa [aC,YV] at this
  .refine h.st.gd.nr (by lia) (λi hi=>?_) (G.mul (-1) (by lia) (G.sum (A:=AA Ls) (P:=P) h.st.gd j h.st.cl));have e:=hP i hi;rw[pM hk λl h1 h2=>by rw[hz l (by lia) h2,YG]] at e;obtain⟨x,hx⟩:=e;have hx:(0:Int)-(bS j (λl=>P l*AA Ls l i)+P j*AA Ls j i)=vf N4 i*x:=hx;show vf N4 i∣P j*AA Ls j i - -1*bS j λl=>P l*AA Ls l i;exact⟨-x,by rw[Y4];lia⟩
theorem Cc.start(hs:N4.length=n)(hp:∀ i,i<n->0<vf N4 i/\vf N4 i<=360):Cc n m N4 Ls 0 (SS n (SS n 0,SS m 0),[]):=by
 have rw0:∀ d,d<n->row (SS n (SS n 0,SS m 0)) d=(SS n 0,SS m 0):=λd hd=>by
  rw[eY (by simpa using hd)];simp
 have D0:∀ d,d<n->∀ i,DD (SS n (SS n 0,SS m 0)) d i=0:=λd hd i=>by
  unfold DD;rw[rw0 d hd];exact fz n i
 have P0:∀ d,d<n->∀ i,PP (SS n (SS n 0,SS m 0)) d i=0:=λd hd i=>by
  unfold PP;rw[rw0 d hd];exact fz m i
 have st:∀ d,d<n->aL (vf N4) (DD (SS n (SS n 0,SS m 0))) d=vf N4 d:=λd hd=>by
  unfold aL;rw[if_pos (D0 d hd d)]
 refine⟨⟨⟨by simp,λr hr=>by rw[U3 hr];simp,λr hr=>by rw[U3 hr];simp⟩,hs,λi hi=>(hp i hi).2,⟨λi hi=>(hp i hi).1,λd hd i hi=>?_,λd hd i hi=>D0 d hd i,λd hd=>by rw[st d hd];exact YD _,λd k hn=>?_⟩,λd hd i hi=>?_,λd hd l _ _=>P0 d hd l,λd hd=>?_,λl hl=>by lia⟩,⟨rfl,λj hj=>by lia,λj hj=>by lia,λj hj=>by lia,λj hj=>by lia,λj hj=>by lia,λj hj=>by lia⟩,?_,λj hj=>by lia⟩
 .rw[D0 d hd i];have:=(hp i hi).1;lia
 .exact G.ext (by lia) (λi hi=>by rw[D0 d (by lia) i,Vp]) (G.zero (by lia))
 .rw[D0 d hd i,dI (g:=λ_=>0) λl hl=>by rw[P0 d hd l,YG],fu];exact Uz _
 .rw[rw0 d hd];intro x hx;rw[U3 hx];exact Vx _
 .rw[aC,WK];exact dQ λd hd=>st d hd
theorem Cc.all(hs:N4.length=n)(hp:∀ i,i<n->0<vf N4 i/\vf N4 i<=360)(LL:Le n m N4 Ls)(cb:CB c)(hn:n<=6):∀ k,k<=m->Cc n m N4 Ls k (RK c N4 Ls n m k)
 | 0,_=>Cc.start hs hp
 | k+1,hk=>(Cc.all hs hp LL cb hn k (by lia)).next LL cb hn (by lia)
end
theorem sJ{a:Int}(h:b∣a)(h1:-b<a)(h2:a<b):a=0:=by
 obtain⟨c,rfl⟩:=h;rcases Vt c 0 with q | q | q
 .have:b*c<=b*(-1):=T8 (by lia) (by lia);lia
 .rw[q,Vp]
 .have:b*1<=b*c:=T8 (by lia) (by lia);lia
theorem G.diff(Gd:Good n s D):∀ k d (v:bN),d+k=n->(∀ i,i<n->-(s i)<v i/\v i<s i)->(∀ i,d<=i->i<n->-(aL s D i)<v i/\v i<aL s D i)->G n s D k d v->∀ i,i<n->v i=0
 | 0,d,v,hn,h0,_,g,i,hi=>sJ (g i hi) (h0 i hi).1 (h0 i hi).2
 | k+1,d,v,hn,h0,h1,g,i,hi=>by
  have z:=sJ g.1 (h1 d (SX _) (by lia)).1 (h1 d (SX _) (by lia)).2;refine G.diff Gd k (d+1) v (by lia) h0 (λi hi=>h1 i (by lia)) (G.ext (by lia) (λi _=>?_) g.2) i hi;show v i-v d/aL s D d*D d i=v i;rw[z];simp
def d_(n:Nat)(s:bN)(Q:Int)(w v:bN):Int:=bS n λi=>w i*v i*(Q/s i)
variable{u:bN}{Q:Int}
variable{Oc:Nat}
section
variable{D:Nat->bN}{w:bN}
theorem l9(a b:Int){x:bN}(h:∀ i,i<n->x i=a*v i+b*u i):d_ n s Q w x=a*d_ n s Q w v+b*d_ n s Q w u :=
 hG a b _ _ _ n λi hi=>by rw[h i hi];grind
theorem vx{f:Nat->Int}{q:Int}:∀ {m:Nat},(∀ l,l<m->q∣f l)->q∣bS m f
 | 0,_=>Uz _
 | m+1,h=>VT (vx λl hl=>h l (by lia)) (h m (by lia))
theorem xP(hq:∀ i,i<n->s i∣Q)(h:∀ i,i<n->s i∣v i):Q∣d_ n s Q w v:=vx λi hi=>by
 obtain⟨c,hc⟩:=h i hi;obtain⟨e,he⟩:=hq i hi
 by_cases z:s i=0
 .rw[hc,z];simp
 .rw[hc,he,Th _ z];exact⟨w i*c,by grind⟩
theorem u4(hq:∀ i,i<n->s i∣Q)(h:∀ i,i<n->s i∣v i-u i):Q∣d_ n s Q w v-d_ n s Q w u:=by
 have:=l9 (s:=s) (Q:=Q) (w:=w) (n:=n) 1 (-1) (v:=v) (u:=u) (x:=λi=>v i-u i) λi _=>by lia
 have h2:=xP (w:=w) hq h;rw[this] at h2;rw[show d_ n s Q w v-d_ n s Q w u=1*d_ n s Q w v+-1*d_ n s Q w u by lia];exact h2
theorem rS(hq:∀ i,i<n->s i∣Q):∀ (k d:Nat) (v:bN),d+k=n->(∀ b,d<=b->b<n->Q∣d_ n s Q w (D b))->G n s D k d v->Q∣d_ n s Q w v
 | 0,d,v,_,_,g=>xP hq g
 | k+1,d,v,hn,hD,g=>by
  have h1:=rS hq k (d+1) _ (by lia) (λb h1 h2=>hD b (by lia) h2) g.2;have h2:=hD d (SX _) (by lia);have e:=l9 (s:=s) (Q:=Q) (w:=w) (n:=n) 1 (v d/aL s D d) (v:=λi=>v i-v d/aL s D d*D d i) (u:=D d) (x:=v) λi _=>by lia
  rw[e];exact VT (UP h1 (UT _ _)) (UP h2 (UT _ _))
theorem E8{c:Nat}(hc:c<n){x:Int}{w':bN}(h0:w c=0)(h1:w' c=x)(h2:∀ i,i<n->i≠c->w' i=w i):d_ n s Q w' v=d_ n s Q w v+x*v c*(Q/s c):=by
 have e1:d_ n s Q w' v=1*d_ n s Q w v+1*bS n λi=>if i=c then x*v c*(Q/s c) else 0:=hG 1 1 _ _ _ n λi hi=>by
  by_cases z:i=c
  .rw[z,h1,h0];simp
  .rw[h2 i hi z];simp[z]
 have e2:=dP c (x*v c*(Q/s c)) n hc (λi=>if i=c then x*v c*(Q/s c) else 0) λ_ _=>rfl;rw[e1,e2];lia
theorem vq(h:∀ i,i<n->w i*v i=0):d_ n s Q w v=0:=by
 unfold d_;rw[dI (g:=λ_=>0) λi hi=>by rw[h i hi];simp,fu]
def cF(s:bN)(D:Nat->bN)(d:Nat):Int:=s d/aL s D d
theorem ip(g:Good n s D)(h:d<n):cF s D d*aL s D d=s d/\0<cF s D d/\cF s D d<=s d:=by
 have p:=g.pos h;obtain⟨c,hc⟩:=g.dv d h;have e:cF s D d=c:=by unfold cF;rw[hc,Th _ (by lia)]
 have sp:=g.sp d h;have c0:0<c:=by
  rcases Vt c 0 with q | q | q
  .have:=Vc p.1 q;lia
  .rw[q] at hc;lia
  .exact q
 refine⟨by rw[e,hc,Vn],by lia,?_⟩;rw[e];have:1*c<=aL s D d*c:=Vi (by lia) (by lia);lia
structure Wk (n:Nat) (s:bN) (D:Nat->bN) (Q:Int) (Oc a:Nat) (w:bN):Prop where
 beh:∀ i,Oc<i->i<n->w i=0
 at_:w Oc=cF s D Oc%s Oc
 ah:∀ i,a<=i->i<Oc->0<=w i/\w i<cF s D i
 no:∀ i,i<a->w i=0
 kill:∀ b,a<=b->b<n->Q∣d_ n s Q w (D b)
theorem Wk.start(g:Good n s D)(hq:∀ i,i<n->s i∣Q)(hd:Oc<n){w:bN}(h:∀ i,i<n->w i=if i=Oc then cF s D Oc%s Oc else 0):Wk n s D Q Oc Oc w where
 beh:=λi h1 h2=>by rw[h i h2,if_neg (by lia)]
 at_:=by rw[h Oc hd,if_pos rfl]
 ah:=λi h1 h2=>by lia
 no:=λi hi=>by rw[h i (by lia),if_neg (by lia)]
 kill:=λb h1 h2=>by
  by_cases z:b=Oc
  .subst z;obtain⟨f1,f2,f3⟩:=ip g h2;obtain⟨e,he⟩:=hq b h2;obtain⟨x,hx⟩:=g.diag h2;obtain⟨y,hy⟩:=dr (cF s D b) (s b);have sp:=g.sp b h2;have e1:d_ n s Q w (D b)=1*bS n (λi=>if i=b then (cF s D b%s b)*D b b*(Q/s b) else 0)+0*0:=by
    have:=hG 1 0 (λi=>if i=b then (cF s D b%s b)*D b b*(Q/s b) else 0) (λ_=>0) (λi=>w i*D b i*(Q/s i)) n λi hi=>by
     rw[h i hi]
     by_cases z:i=b
     .subst z;simp
     .simp[z]
    rw[show d_ n s Q w (D b)=bS n λi=>w i*D b i*(Q/s i) from rfl,this];lia
   rw[e1,dP b _ n h2 _ λ_ _=>rfl,he,Th _ (by lia)];have hy':cF s D b%s b=cF s D b+s b*y:=by lia
   have Sy:D b b=aL s D b+s b*x:=by lia
   refine⟨1+cF s D b*x+y*D b b,?_⟩;rw[hy',Sy];generalize cF s D b=F at *;generalize aL s D b=T at *;generalize s b=S at *;subst f1
   grind
  .rw[vq λi hi=>?_]
   .exact Uz _
   .rcases TV i b with q | q
    .rw[g.rg b h2 i q];simp
    .rw[h i hi,if_neg (by lia)];simp
theorem Wk.next(g:Good n s D)(hQ:0<Q)(hq:∀ i,i<n->s i∣Q){c:Nat}(hd:Oc<n){w w':bN}(W:Wk n s D Q Oc (c+1) w)(hc:c<Oc)(h1:w' c=-(d_ n s Q w (D c)%Q/(Q/cF s D c))%cF s D c)(h2:∀ i,i<n->i≠c->w' i=w i):Wk n s D Q Oc c w':=by
 obtain⟨f1,f2,f3⟩:=ip g (show c<n by lia);obtain⟨e,he⟩:=hq c (by lia);have sp:=g.sp c (by lia);have sh:Q/cF s D c=aL s D c*e:=by
  rw[he,<- f1,Vo,Th _ (by lia)]
 have hs:Q/s c=e:=by rw[he,Th _ (by lia)]
 have fQ:cF s D c*(aL s D c*e)=Q:=by rw[<- Vo,f1,he]
 have sh0:0<aL s D c*e:=by
  rcases Vt (aL s D c*e) 0 with q | q | q
  .have:=Vc f2 q;lia
  .rw[q] at fQ;lia
  .exact q
 have cl:=g.Kf c (n-(c+1)) (by lia);have k1:=rS (w:=w) hq (n-(c+1)) (c+1) _ (by lia) (λb h1 h2=>W.kill b h1 h2) cl;rw[l9 (s:=s) (Q:=Q) (w:=w) (n:=n) (cF s D c) 0 (v:=D c) (u:=D c) (x:=λi=>s c/aL s D c*D c i) λi _=>by unfold cF;lia] at k1;obtain⟨x,hx⟩:=k1;have dv:(aL s D c*e)∣d_ n s Q w (D c):=⟨x,by
  have:cF s D c*d_ n s Q w (D c)=cF s D c*(aL s D c*e*x):=by
   rw[<- Vo,fQ];lia
  exact TZ (by lia) this⟩
 have ed:=WW (d_ n s Q w (D c)) Q;have dv2:(aL s D c*e)∣d_ n s Q w (D c)%Q:=by
  rw[ed];exact Int.dvd_sub dv (UP ⟨cF s D c,by rw[Vn];exact fQ.symm⟩ (Int.dvd_mul_right _ _))
 obtain⟨q,Qr⟩:=dv2;rw[sh] at h1;have eq1:d_ n s Q w (D c)%Q/(aL s D c*e)=q:=by rw[Qr,Th _ (by lia)]
 rw[eq1] at h1;obtain⟨y,hy⟩:=dr (-q) (cF s D c);obtain⟨z,hz⟩:=g.diag (show c<n by lia);refine⟨λi a b=>?_,?_,λi a b=>?_,λi a=>?_,λb a1 a2=>?_⟩
 .rw[h2 i b (by lia)];exact W.beh i a b
 .rw[h2 Oc hd (by lia)];exact W.at_
 .by_cases q2:i=c
  .rw[q2,h1];exact⟨Tz _ (by lia),To _ f2⟩
  .rw[h2 i (by lia) q2];exact W.ah i (by lia) b
 .rw[h2 i (by lia) (by lia)];exact W.no i (by lia)
 .rw[E8 (w:=w) (show c<n by lia) (W.no c (by lia)) rfl h2]
  by_cases q2:b=c
  .subst q2;rw[hs];have e1:w' b=-q+cF s D b*y:=by lia
   have e2:D b b=aL s D b+s b*z:=by lia
   have e3:d_ n s Q w (D b)=Q*(d_ n s Q w (D b)/Q)+aL s D b*e*q:=by lia
   refine⟨d_ n s Q w (D b)/Q+y+w' b*z,?_⟩;rw[e2];generalize d_ n s Q w (D b)/Q=p at *;rw[e3,e1];generalize cF s D b=F at *;generalize aL s D b=T at *;generalize s b=S at *;subst f1;rw[he]
   grind
  .rw[g.rg b a2 c (by lia)];simp only[Vp,YG,WX];exact W.kill b (by lia) a2
theorem Wk.first(g:Good n s D)(hQ:0<Q)(hq:∀ i,i<n->s i∣Q)(hd:Oc<n){w l:bN}(W:Wk n s D Q Oc 0 w)(l0:∀ i,i<Oc->l i=0)(l1:0<l Oc)(l2:l Oc<aL s D Oc):¬ Q∣d_ n s Q w l:=by
 obtain⟨f1,f2,f3⟩:=ip g hd;obtain⟨e,he⟩:=hq Oc hd;have sp:=g.sp Oc hd;have lt:cF s D Oc<s Oc:=by
  rcases Int.lt_or_eq_of_le f3 with q | q
  .exact q
  .rw[q] at f1;have:aL s D Oc=1:=by
    have:s Oc*aL s D Oc=s Oc*1:=by rw[YV];exact f1
    exact TZ (by lia) this
   lia
 have wd:w Oc=cF s D Oc:=by rw[W.at_,UY (by lia) lt]
 have e1:d_ n s Q w l=bS n (λi=>if i=Oc then cF s D Oc*l Oc*e else 0):=dI λi hi=>by
  by_cases z:i=Oc
  .rw[z,wd,he,Th _ (by lia)];simp
  .rcases TV i Oc with q | q
   .rw[l0 i q];simp[z]
   .rw[W.beh i (by lia) hi];simp[z]
 rw[e1,dP Oc _ n hd _ λ_ _=>rfl];rintro⟨c,hc⟩;have e0:0<e:=by
  rcases Vt e 0 with q | q | q
  .have:=Vc sp q;lia
  .rw[q] at he;lia
  .exact q
 have e2:cF s D Oc*e*l Oc=cF s D Oc*e*(aL s D Oc*c):=by
  rw[he,<- f1] at hc
  grind
 have e3:l Oc=aL s D Oc*c:=TZ (by
  have:=Y5 f2 e0;lia) e2
 have:=iZ (a:=l Oc) (b:=aL s D Oc) (by lia) l2 ⟨c,e3⟩;lia
end
theorem dh(w v:bN):d_ n s Q w v=d_ n s Q v w:=dI λi _=>by rw[Vn (w i)]
theorem H_(g:Good n s D)(hd:d<n)(z:∀ i,d<i->i<n->u i=0):d_ n s Q u (D d)=u d*D d d*(Q/s d) :=
 dP d _ n hd _ λi hi=>by
  by_cases e:i=d
  .rw[e];simp
  .rcases TV i d with q | q
   .rw[g.rg d hd i q];simp[e]
   .rw[z i (by lia) hi];simp[e]
theorem yP(hQ:0<Q){x:Int}(hx:0<x)(h:x∣Q):0<Q/x/\Q=x*(Q/x):=by
 obtain⟨c,hc⟩:=h;have e:Q/x=c:=by rw[hc,Th _ (by lia)]
 refine⟨?_,by rw[e];exact hc⟩;rw[e];rcases Vt c 0 with q | q | q
 .have:=Vc hx q;lia
 .rw[q] at hc;lia
 .exact q
theorem Ey(g:Good n s D)(hQ:0<Q)(hq:∀ i,i<n->s i∣Q)(hd:d<n)(z:∀ i,d<i->i<n->u i=0)(k:Q∣d_ n s Q u (D d)):cF s D d∣u d:=by
 obtain⟨f1,f2,f3⟩:=ip g hd;have p:=g.pos hd
 by_cases h0:D d d=0
 .have e1:aL s D d=s d:=by unfold aL;rw[if_pos h0]
  have e2:cF s D d=1:=by
   have:cF s D d*s d=1*s d:=by rw[e1] at f1;lia
   exact XU (by have:=g.sp d hd;lia) this
  rw[e2];exact Int.one_dvd _
 .have e1:D d d=aL s D d:=by unfold aL;rw[if_neg h0]
  rw[H_ g hd z,e1] at k;obtain⟨e0,eq⟩:=yP hQ (g.sp d hd) (hq d hd);obtain⟨c,hc⟩:=k;generalize Q/s d=e at *;refine⟨c,?_⟩;have:aL s D d*e*u d=aL s D d*e*(cF s D d*c):=by
   rw[eq,<- f1] at hc
   grind
  exact TZ (by have:=Y5 p.1 e0;lia) this
theorem nY(hq:∀ i,i<n->s i∣Q){A:Nat->bN}{P w:bN}(hA:∀ l,l<m->Q∣d_ n s Q w (A l))(h:∀ i,i<n->s i∣v i-bS m λl=>P l*A l i):Q∣d_ n s Q w v:=by
 have c1:=u4 (n:=n) (s:=s) (Q:=Q) (w:=w) hq h;have key:∀ k,k<=m->Q∣d_ n s Q w (λi=>bS k λd=>P d*A d i):=λk=>by
  induction k with
  | zero =>
   intro _;rw[vq λi _=>by simp[bS]];exact Uz _
  | succ k ih =>
   intro hm;have l1:=l9 (n:=n) (s:=s) (Q:=Q) (w:=w) 1 (P k) (v:=λi=>bS k λd=>P d*A d i) (u:=A k) (x:=λi=>bS (k+1) λd=>P d*A d i) λi _=>by simp[bS]
   rw[l1];exact VT (V3 (ih (by lia))) (V3 (hA k (by lia)))
 have:=VT c1 (key m (SX _));rw[XT] at this;exact this
theorem By(hq:∀ i,i<n->s i∣Q)(hW:∀ d,d<n->Wk n s D Q d 0 (W d)){t:bN}(h:∀ i,i<n->s i∣u i-bS n λd=>t d*W d i){b:Nat}(hb:b<n):Q∣d_ n s Q u (D b):=by
 rw[dh];exact nY hq (λd hd=>by rw[dh];exact(hW d hd).kill b (S9 _) hb) h
section
variable{D':Nat->bN}
theorem k8(hq:∀ i,i<n->s i∣Q){x y:bN}{a:Int}(h:∀ i,i<n->s i∣u i-(a*x i+b*y i))(hx:Q∣d_ n s Q x v)(hy:Q∣d_ n s Q y v):Q∣d_ n s Q u v:=by
 rw[dh] at hx hy ⊢;have c:=u4 (n:=n) (s:=s) (Q:=Q) (w:=v) hq h;rw[l9 a b (v:=x) (u:=y) (x:=λi=>a*x i+b*y i) λ_ _=>rfl] at c;have:=VT c (VT (V3 (a:=Q) (b:=a) hx) (V3 (b:=b) hy))
 rwa [XT] at this
theorem kX(g:Good n s D)(hQ:0<Q)(hq:∀ i,i<n->s i∣Q)(hW:∀ d,d<n->Wk n s D Q d 0 (W d)):∀ j,j<=n->∀ u:bN,(∀ i,j<=i->i<n->u i=0)->(∀ b,b<n->Q∣d_ n s Q u (D b))->∃ t:bN,(∀ d,j<=d->t d=0)/\∀ i,i<n->s i∣u i-bS n λd=>t d*W d i
 | 0,_,u,z,_=>⟨λ_=>0,λ_ _=>rfl,λi hi=>by
   rw[z i (by lia) hi,dI (g:=λ_=>0) λd _=>by simp,fu];exact⟨0,by simp⟩⟩
 | j+1,hj,u,z,k=>by
  have Sn:j<n:=by lia
  obtain⟨q,Qr⟩:=Ey g hQ hq Sn (λi h1 h2=>z i (by lia) h2) (k j Sn);have w:=hW j Sn;have eu:∀ i,i<n->s i∣(if i<j then u i-q*W j i else 0)-(1*u i+(-q)*W j i):=λi hi=>by
   rcases WZ i j with c | c | c
   .rw[if_pos c];exact⟨0,by rw[Xh];lia⟩
   .subst c;rw[if_neg (by lia),w.at_,Qr];obtain⟨x,hx⟩:=mJ (cF s D i) (s i);refine⟨-(q*x),?_⟩;rw[show cF s D i%s i=cF s D i-s i*x by lia];generalize cF s D i=r
    grind
   .rw[if_neg (by lia),z i (by lia) hi,w.beh i c hi];exact⟨0,by simp⟩
  obtain⟨t,t0,ht⟩:=kX g hQ hq hW j (by lia) (λi=>if i<j then u i-q*W j i else 0) (λi h1 _=>if_neg (by lia)) λb hb=>k8 hq eu (k b hb) (w.kill b (S9 _) hb);refine⟨λd=>if d=j then q else t d,λd hd=>by show (if d=j then q else t d)=0;rw[if_neg (by lia)];exact t0 d (by lia),λi hi=>?_⟩;have e:bS n (λd=>(if d=j then q else t d)*W d i)=1*bS n (λd=>t d*W d i)+1*bS n (λd=>if d=j then q*W j i else 0):=hG 1 1 _ _ _ n λd hd=>by
   by_cases x:d=j
   .subst x;simp[t0 d (SX _)]
   .simp[x]
  rw[dP j (q*W j i) n Sn (λd=>if d=j then q*W j i else 0) λ_ _=>rfl] at e;obtain⟨a,ha⟩:=eu i hi;obtain⟨b,hb⟩:=ht i hi;refine⟨b-a,?_⟩;rw[Z9,<- ha,<- hb,e,Xh];lia
theorem EJ(g:Good n s D)(hQ:0<Q)(hq:∀ i,i<n->s i∣Q)(hW:∀ d,d<n->Wk n s D Q d 0 (W d)){J:Nat->bN}(pos:∀ j,j<n->0<J j j)(zero:∀ j,j<n->∀ l,j<l->l<n->J j l=0)(qC:∀ j,j<n->Led n s n W (λ_=>0) (J j))
  (ord:∀ j,j<n->∀ P:bN,Zf (j+1) n P->Led n s n W (λ_=>0) P->J j j∣P j):∀ j,j<n->J j j=aL s D j:=λj hj=>by
 have w:=hW j hj;obtain⟨f1,f2,f3⟩:=ip g hj;have p:=g.pos hj;obtain⟨x,hx⟩:=mJ (cF s D j) (s j);refine ZZ (by have:=pos j hj;lia) (by lia) ?_ ?_
 .have eu:∀ i,i<n->s i∣(if i<j then aL s D j*W j i else 0)-(aL s D j*W j i+0*W j i):=λi hi=>by
   rcases WZ i j with c | c | c
   .rw[if_pos c];exact⟨0,by lia⟩
   .subst c;rw[if_neg (by lia),w.at_];refine⟨aL s D i*x-1,?_⟩;rw[show cF s D i%s i=cF s D i-s i*x by lia]
    grind
   .rw[if_neg (by lia),w.beh i c hi];exact⟨0,by simp⟩
  obtain⟨t,t0,ht⟩:=kX g hQ hq hW j (by lia) (λi=>if i<j then aL s D j*W j i else 0) (λi h1 _=>if_neg (by lia)) λb hb=>k8 hq eu (w.kill b (S9 _) hb) (w.kill b (S9 _) hb);have:=ord j hj (λd=>(if d=j then aL s D j else 0)-t d) (λl h1 _=>by show (if l=j then aL s D j else 0)-t l=0;rw[if_neg (by lia),t0 l (by lia)];rfl) λi hi=>by
   have e:bS n (λd=>((if d=j then aL s D j else 0)-t d)*W d i)=(-1)*bS n (λd=>t d*W d i)+1*bS n (λd=>if d=j then aL s D j*W j i else 0):=hG (-1) 1 _ _ _ n λd hd=>by
    by_cases y:d=j
    .subst y;simp[t0 d (SX _)]
    .simp[y,Xh]
   rw[dP j (aL s D j*W j i) n hj (λd=>if d=j then aL s D j*W j i else 0) λ_ _=>rfl] at e;obtain⟨a,ha⟩:=eu i hi;obtain⟨b,hb⟩:=ht i hi;refine⟨a-b,?_⟩;show 0-bS n (λd=>((if d=j then aL s D j else 0)-t d)*W d i)=_;rw[Z9,<- ha,<- hb,e];lia
  simp only[if_pos,t0 j (SX _),WV] at this;exact this
 .obtain⟨y,hy⟩:=qC j hj j hj;rw[dP j (J j j*W j j) n hj _ λl hl=>by
   rcases WZ l j with c | c | c
   .rw[(hW l hl).beh j c hj,if_neg (by lia)];simp
   .subst c;rw[if_pos rfl]
   .rw[zero j hj l c hl,if_neg (by lia)];simp] at hy
  rw[w.at_,show cF s D j%s j=cF s D j-s j*x by lia] at hy;refine⟨J j j*x-y,?_⟩;have:cF s D j*J j j=cF s D j*(aL s D j*(J j j*x-y)):=by
   rw[<- Vo,f1];grind
  exact TZ (by lia) this
theorem uo(g':Good n s D')(h:∀ d,d<n->G n s D' n 0 (D d)):∀ k d (v:bN),d+k=n->G n s D k d v->G n s D' n 0 v
 | 0,d,v,_,hv=>g'.nr (by lia) (λi hi=>by rw[WV];exact hv i hi) (G.zero (by lia))
 | k+1,d,v,hn,hv=>by
  have a:=uo g' h k (d+1) _ (by lia) hv.2;exact G.ext (by lia) (λi _=>by lia) (G.add (by lia) a (G.mul (v d/aL s D d) (by lia) (h d (by lia))))
theorem G.at_{j:Nat}:∀ {k d:Nat} {v:bN},G n s D k d v->(∀ i,d<=i->i<j->v i=0)->d<=j->j<d+k->aL s D j∣v j
 | 0,d,v,_,_,h1,h2=>by lia
 | k+1,d,v,g,h0,h1,h2=>by
  rcases Zs h1 with q | q
  .have z:=h0 d (SX _) q;have e:(λi=>v i-v d/aL s D d*D d i)=v:=by funext i;rw[z];simp
   have g2:=g.2;rw[e] at g2;exact G.at_ g2 (λi a b=>h0 i (by lia) b) (by lia) (by lia)
  .subst q;exact g.1
theorem xM(g:Good n s D)(g':Good n s D')(h:∀ d,d<n->G n s D n 0 (D' d))(hd:d<n):aL s D d∣aL s D' d:=by
 have a:=G.at_ (h d hd) (j:=d) (λi _ hi=>g'.rg d hd i hi) (S9 _) (by lia);have e:aL s D' d=if D' d d=0 then s d else D' d d:=rfl;rw[e]
 split
 .exact g.dv d hd
 .exact a
theorem Cn(g:Good n s D)(g':Good n s D')(h:∀ d,d<n->G n s D n 0 (D' d))(h':∀ d,d<n->G n s D' n 0 (D d)):∀ d,d<n->aL s D d=aL s D' d:=λd hd =>
 ZZ (by have:=g.pos hd;lia) (by have:=g'.pos hd;lia) (xM g g' h hd) (xM g' g h' hd)
end
end Rg
namespace wo
open PySem L2 PyProof.Rows Rg
local macro_rules | `(tactic| dsimp? [$ts,*])=>`(tactic| simp only[cI,bu,aB,kP,ao,vK,uY,retS,bj,mL,lG,kJ,aq,M.aM,M.bind_some,M.bind_none,M.BM,M.bind_assoc,aa,aj,ai,ae,ak,DR,EO,HW,HN,Hv,HQ,GA,Iv,GD,Ib,Ho,IJ,Jk,Jy,G_,IF,eX,lq,Nf,IL,Jp,Ek,NV,zK,jH,KJ,lh,E_,itemsOf,jL,DZ,DS,zQ,E9,DV,Bw,BD,Ca,EB,ER,Be,pD,AB,ff,dq,JU,G3,List.length_cons,List.length_nil,List.map_cons,List.map_nil,List.cons_append,List.nil_append,List.replicate,List.getElem?_cons_zero,List.getElem?_cons_succ,List.getElem?_nil,List.set_cons_zero,List.set_cons_succ,List.set_nil,Nat.reduceAdd,Nat.reduceSub,if_true,if_false,Bool.not_true,Bool.not_false,Bool.false_eq_true,ite_true,ite_false,reduceIte,reduceCtorEq,Nat.sub_self,lj,cT,bZ,Option.map_some,Option.map_none,Gj,GQ,Ja,Eo,Es,DU,G1,D_,DM,Fw,qF,List.any_cons,List.any_nil,String.reduceBEq,Bool.or_false,Bool.or_true,Bool.true_or,Bool.false_or,Bool.and_true,Bool.and_false,Bool.true_and,Bool.false_and,EV,DN,wI,GZ,Et,E7,Fq,E5,B9,BY,gz,qG,List.foldl_cons,List.foldl_nil,mQ,av trivial,$(⟨ts.elemsAndSeps⟩),*])
theorem me(i:Int):fD [.int i]=M.ok (.bl true):=by rfl
variable{p:PV}{α:Type}
theorem yB{inj:α->PV}{h:α->Bool}(xs:List α)(n:Int)(hp:p=.tup (xs.map inj)\/p=.lst (xs.map inj))(H:∀ a∈xs,fD [inj a]=M.ok (.bl (h a)))(hz:xs.length<=sizeLine):f_ [p,.int n]=M.ok (.bl (decide ((xs.length:Int)=n)&&xs.all h)):=by
 have key:bG (bJ 0) none (ai fD (ae (aa 0) ak)) (xs.map inj) [none]=M.ok (xs.map λa=>.bl (h a)):=gj xs λa ha=>by dsimp? [H a ha]
 have key2:vZ [.lst (xs.map λa=>.bl (h a))]=M.ok (.bl (xs.all h)):=by
  have:=vh (xs.map h);rw[TY] at this;rw[show (λa=>PV.bl (h a))=PV.bl∘h from rfl,this];simp[List.all_map]
 unfold f_ jN;rcases hp with rfl | rfl
 all_goals
  dsimp? [S0]
  by_cases e:(xs.length:Int)=n
  .simp only[e,decide_true,Bool.not_true,M.aM,UM,if_false,vK,Zi];dsimp? [S0,av hz,key,key2]
  .simp only[e,decide_false,Bool.not_false,M.aM,if_true,uY,YU];dsimp? []
theorem De(xs:List Int)(n:Int)(hz:xs.length<=sizeLine):f_ [tI xs,.int n]=M.ok (.bl (decide ((xs.length:Int)=n))):=by
 exact(yB (p:=tI xs) (h:=λ_=>true) xs n (.inl rfl) (λa _=>me a) hz).trans (by rw[UB.mpr λ_ _=>rfl,Zj])
theorem Iq(xs:List Int)(n:Int)(hz:xs.length<=sizeLine):f_ [lI xs,.int n]=M.ok (.bl (decide ((xs.length:Int)=n))):=by
 exact(yB (p:=lI xs) (h:=λ_=>true) xs n (.inr rfl) (λa _=>me a) hz).trans (by rw[UB.mpr λ_ _=>rfl,Zj])
theorem K_{f:List Int->PV}(hf:f=tI\/f=lI)(xs:List Int)(n:Int)(hz:xs.length<=sizeLine):f_ [f xs,.int n]=M.ok (.bl (decide ((xs.length:Int)=n))):=by
 rcases hf with rfl | rfl
 .exact De xs n hz
 .exact Iq xs n hz
theorem Lm{f:List Int->PV}(hf:f=tI\/f=lI)(xs:List Int):bO (f xs)=some (xs.map PV.int):=by rcases hf with rfl | rfl <;> rfl
theorem within_int(x a b:Int):dj [.int x,.int a,.int b]=M.ok (.bl (decide (a<=x/\x<=b))):=by
 unfold dj eG;dsimp? [me]
 by_cases h:a<=x
 .simp only[h,decide_true,if_true,true_and];dsimp? []
 .simp only[h,decide_false,false_and];dsimp? []
theorem iP{xs:List PV}(h:bO p=some xs):ue p=M.ok (.int xs.length):=by
 cases p <;> first | (cases h;rfl) | cases h
theorem qW(xs:List Int)(hp:bO p=some (xs.map PV.int))(h1:1<=xs.length)(h6:xs.length<=6)(hx:∀ x∈xs,2<=x/\x<=360):gL [p]=M.ok .cJ:=by
 unfold gL gM;have a1:¬ (6:Int)<xs.length:=by lia
 have a2:¬ (xs.length:Int)=0:=by lia
 dsimp? [a1,a2,decide_false,iP hp,S0,tF xs hp];refine eK xs.zipIdx (λzs env=>(∃ b c,env=[some (.sh p),b,c])/\∀ z∈zs,2<=z.1/\z.1<=360) ⟨⟨_,_,rfl⟩,λz hz=>hx z.1 (Wo hz)⟩ ?_ ?_
 .rintro⟨a,i⟩ r env ⟨⟨b,c,rfl⟩,hz⟩;have ha:=hz (a,i) Tp;refine⟨_,[some (.sh p),some (.sh (.int i)),some (.sh (.int a))],rfl,?_,⟨_,_,rfl⟩,λz QJ=>hz z (Tf _ QJ)⟩;dsimp? [within_int,ha,and_self,decide_true]
 .rintro N_ ⟨⟨b,c,rfl⟩,_⟩;rfl
theorem pZ{f:List Int->PV}(hf:f=tI\/f=lI)(n:Nat)(xs:List (List Int))(h8:xs.length<=8)(hx:∀ x∈xs,x.length=n)(hn:n<=100):fN [.lst (xs.map f),.int n]=M.ok .cJ:=by
 unfold fN fL;have a1:¬ (8:Int)<xs.length:=by lia
 dsimp? [a1,decide_false,S0,lP];refine eK xs.zipIdx (λzs env=>(∃ b c,env=[some (.sh (.lst (xs.map f))),some (.sh (.int n)),b,c])/\∀ z∈zs,z.1.length=n) ⟨⟨_,_,rfl⟩,λz hz=>hx z.1 (Wo hz)⟩ ?_ ?_
 .rintro⟨a,i⟩ r env ⟨⟨b,c,rfl⟩,hz⟩;have ha:a.length=n:=hz (a,i) Tp;refine⟨_,[some (.sh (.lst (xs.map f))),some (.sh (.int n)),some (.sh (.int i)),some (.sh (f a))],rfl,?_,⟨_,_,rfl⟩,λz QJ=>hz z (Tf _ QJ)⟩;dsimp? [K_ hf a n (aX (by lia)),ha,decide_true]
 .rintro N_ ⟨⟨b,c,rfl⟩,_⟩;rfl
theorem lX(n:Nat)(p:PV):(SS n [p]).flatten=SS n p:=by
 induction n with
 | zero=>rfl
 | succ n ih=>rw[UI,U9,ih];rfl
theorem mul_one(p:PV)(n:Nat)(h8:n<=1000):bV (.tup [p]) (.int (n:Int))=M.ok (.tup (SS n p)):=by
 have h2:[p].length*(n:Int).toNat<=sizeLine:=by
  rw[TR];exact aX (by show 1*n<=1000;lia)
 have h3:(n:Int)<2^63:=XX (ZP.mpr h8) (by decide);have h4:-(2^63)<=(n:Int):=YF (by decide) (Zt n);rw[bV,av ⟨rfl,h4,h3,h2⟩,TR,lX]
theorem kn(xs:List PV)(h8:xs.length<=8):gN [.lst xs,.cJ]=M.ok (tI (SS xs.length 1)):=by
 unfold gN gD;dsimp? [Bh,rM,mul_one (.int 1) xs.length (by lia)];rw[tI,Vj]
def wC(xs N4:List Int):List Int:=(xs.zip N4).map λz=>z.1%z.2
theorem pP(p q:PV)(xs N4:List Int)(hp:bO p=some (xs.map PV.int))(hq:bO q=some (N4.map PV.int))(hs:∀ s∈N4,0<s)(hz:xs.length<=1000):jh [p,q]=M.ok (tI (wC xs N4)):=by
 have key:bG (cn 0 1) none (aj cY (aa 0) (aa 1)) ((xs.zip N4).map λz=>.tup [.int z.1,.int z.2]) [none,none]=M.ok ((xs.zip N4).map λz=>.int (z.1%z.2)):=by
  refine jt (p:=λz:Int×Int=>PV.int z.1) (q:=λz:Int×Int=>PV.int z.2) (xs.zip N4) λz hz=>?_;have:=hs z.2 (UO (a:=z.1) (b:=z.2) hz).2;dsimp? [aW this]
 unfold jh ki;have hl:(xs.zip N4).length<=sizeLine:=by rw[Uu];exact aX (TJ (Wb _ _) hz)
 dsimp? [f9 xs N4 hp hq,S0,av hl,key];rw[tI,wC,TY];rfl
theorem wJ(a b c:PV):aS (.tup [a,b,c]) (.int 0)=M.ok a:=bR (j:=0) rfl rfl
theorem Ic(a b c:PV):aS (.tup [a,b,c]) (.int 1)=M.ok b:=bR (j:=1) rfl rfl
theorem Ia(a b c:PV):aS (.tup [a,b,c]) (.int 2)=M.ok c:=bR (j:=2) rfl rfl
theorem rQ(a b:Int)(ha:a.natAbs<2^60)(hb:b.natAbs<2^60):∃ s t,fY [.int a,.int b]=M.ok (.tup [.int (TF a b),.int s,.int t])/\s*a+t*b=TF a b/\s.natAbs<=b.natAbs+1/\t.natAbs<=a.natAbs+(b.natAbs+1)*a.natAbs+b.natAbs+1:=by
 let J:af->Prop:=λenv=>∃ r s t r' s' t' x y,env=[some (.sh (.int a)),some (.sh (.int b)),some (.sh ((PV.tup [PV.int r,PV.int s,PV.int t]))),some (.sh ((PV.tup [PV.int r',PV.int s',PV.int t']))),x,y]/\Eu.St a b r s t r' s' t'
 let m:af->Nat:=λenv=>match env with
  | [_,_,_,some (.sh (.tup [.int r,_,_])),_,_]=>r.natAbs
  | _=>0
 have hk:(b.natAbs+1)*a.natAbs<=2^60*2^60:=V5 (by lia) (by lia);have hk2:(2:Nat)^60*2^60=2^120:=by decide
 have start:J [some (.sh (.int a)),some (.sh (.int b)),some (.sh ((PV.tup [PV.int a,PV.int 1,PV.int 0]))),some (.sh ((PV.tup [PV.int b,PV.int 0,PV.int 1]))),none,none]:=⟨_,_,_,_,_,_,_,_,rfl,Eu.start a b⟩
 have loop:=sI (u:=eX (aj ou (aj aS (aa 3) (λ_=>M.ok (.int 0))) (λ_=>M.ok (.int 0)))) (b:=(ao (bj 4 (aj bD (aj aS (aa 2) (λ_=>M.ok (.int 0))) (aj aS (aa 3) (λ_=>M.ok (.int 0)))))
  (ao (bj 5 (k4 (ae (aj nV (aj aS (aa 2) (λ_=>M.ok (.int 0))) (aj bV (aa 4) (aj aS (aa 3) (λ_=>M.ok (.int 0))))) (ae (aj nV (aj aS (aa 2) (λ_=>M.ok (.int 1))) (aj bV (aa 4) (aj aS (aa 3) (λ_=>M.ok (.int 1))))) (ae (aj nV (aj aS (aa 2) (λ_=>M.ok (.int 2))) (aj bV (aa 4) (aj aS (aa 3) (λ_=>M.ok (.int 2))))) ak)))))
  (ao (bj 2 (aa 3))
  (ao (bj 3 (aa 5))
  aq))))) J m ?_ _ start
 .obtain⟨N_,e1,⟨r,s,t,r',s',t',x,y,rfl,st⟩,e2⟩:=loop;have hr':r'=0:=by
   revert e2;dsimp? [wJ];intro e2;have:(!decide (r'=0))=false:=by injection e2 with e2;injection e2
   simpa using this
  subst hr';obtain⟨d1,d2⟩:=Eu.done st;have hg:(r.natAbs:Int)=TF a b:=by
   have h1:r.natAbs∣TF a b:=Int.dvd_gcd (Int.natAbs_dvd.mpr d1) (Int.natAbs_dvd.mpr d2);have h2:((TF a b:Nat):Int)∣r:=by
    rw[st.c0];exact VT (UP (VD ..) (UT _ _)) (UP (ZO ..) (UT _ _))
   have h3:TF a b∣r.natAbs:=Int.ofNat_dvd_left.mp h2;rw[Nat.dvd_antisymm h1 h3]
  unfold fY jZ;dsimp? [];rw[e1];dsimp? [wJ,Ic,Ia]
  by_cases hneg:r<0
  .refine⟨-s,-t,?_,?_,by rw[WU];exact st.b0,by rw[WU];exact st.d0⟩
   .simp only[hneg,decide_true,if_true];dsimp? [];rw[show -r=(TF a b:Int) by lia]
   .have:=st.c0;rw[Xh,Xh];lia
  .refine⟨s,t,?_,?_,st.b0,st.d0⟩
   .simp only[hneg,decide_false,UM,if_false];dsimp? [];rw[show r=(TF a b:Int) by lia]
   .have:=st.c0;lia
 .rintro env ⟨r,s,t,r',s',t',x,y,rfl,st⟩
  by_cases h0:r'=0
  .refine .inl ?_;dsimp? [wJ];simp[h0]
  .refine .inr ⟨?_,?_⟩
   .dsimp? [wJ];simp[h0]
   .obtain⟨Oq,lt⟩:=Eu.turn st h0;have b1:=st.m1;have b0:=st.m0;have c1:=st.b1;have c2:=st.d1;have c3:=Oq.m1;have q1:(r.fdiv r').natAbs<=r.natAbs+1:=by
     obtain⟨f1,f2,f3⟩:=Eu.sq r r' h0;generalize r.fdiv r'=q at *;have e:q*r'=r-(r-q*r'):=by lia
     have e2:(q*r').natAbs<=r.natAbs+(r-q*r').natAbs:=by lia
     rw[Vq] at e2;have:q.natAbs*1<=q.natAbs*r'.natAbs:=WB _ (by lia);rcases TV (r.natAbs+1) q.natAbs with h | h
     .have h5:(r.natAbs+2)*r'.natAbs<=q.natAbs*r'.natAbs:=Wn _ (by lia);have h6:r.natAbs*1<=r.natAbs*r'.natAbs:=WB _ (by lia);rw[Nat.add_mul] at h5;lia
     .exact h
    have q2:(r.fdiv r').natAbs<2^200:=by lia
    refine⟨[some (.sh (.int a)),some (.sh (.int b)),some (.sh ((PV.tup [PV.int r',PV.int s',PV.int t']))),some (.sh ((PV.tup [PV.int (r-r.fdiv r'*r'),PV.int (s-r.fdiv r'*s'),PV.int (t-r.fdiv r'*t')]))),some (.sh (.int (r.fdiv r'))),some (.sh ((PV.tup [PV.int (r-r.fdiv r'*r'),PV.int (s-r.fdiv r'*s'),PV.int (t-r.fdiv r'*t')])))],?_,⟨_,_,_,_,_,_,_,_,rfl,Oq⟩,lt⟩;dsimp? [wJ,Ic,Ia,rV h0 (S_ (show r'.natAbs<2^200 by lia) (Uv (by decide) (by decide))),bf (k:=200) (l:=200) q2 (show r'.natAbs<2^200 by lia),bf (k:=200) (l:=200) q2 (show s'.natAbs<2^200 by lia),bf (k:=200) (l:=200) q2 (show t'.natAbs<2^200 by lia)]
def R(N4:List Int):Int:=(Lc.Dt (N4.map XE):Nat)
structure Sz (N4:List Int):Prop where
 h1:1<=N4.length
 h6:N4.length<=6
 hx:∀ x∈N4,2<=x/\x<=360
variable{N4:List Int}
theorem sL(h:Sz N4):0<R N4:=by
 refine Int.ofNat_lt.mpr (Lc.lcm_pos λn hn=>?_);obtain⟨x,hx,rfl⟩:=T_.mp hn;have:=h.hx x hx;lia
theorem KP(h:Sz N4):R N4<2^60:=by
 have h1:=Lc.qw 9 (N4.map XE) 1 0 (by decide) (by decide) λn hn=>by
  obtain⟨x,hx,rfl⟩:=T_.mp hn;have:=h.hx x hx;lia
 have h2:(2:Nat)^(0+9*(N4.map XE).length)<=2^54:=Uv (by decide) (by rw[S0];have:=h.h6;lia);have h3:Lc.Dt (N4.map XE)<=2^54:=TJ h1 h2;unfold R;lia
variable{x:Int}
theorem KU(h:Sz N4)(hx:x∈N4):x∣R N4:=by
 have h1:=Lc.lcm_dvd (ns:=N4.map XE) (T_.mpr ⟨x,hx,rfl⟩);have h2:=Zk.mpr h1;rw[Wz (by have:=h.hx x hx;lia)] at h2;exact h2
structure Acc (N4 r:List Int) (acc:Nat):Prop where
 pos:0<acc
 le:acc<=2^(9*(6-r.length))
 len:r.length<=6
 val:(r.map XE).foldl VO acc=Lc.Dt (N4.map XE)
 hZ:∀ x∈r,2<=x/\x<=360
theorem Acc.start(h:Sz N4):Acc N4 N4 1:=⟨by decide,Nat.one_le_two_pow,h.h6,rfl,h.hx⟩
variable{acc:Nat}
theorem Acc.lt{r:List Int}(h:Acc N4 r acc):acc<2^60:=by
 have h2:(2:Nat)^(9*(6-r.length))<=2^54:=Uv (by decide) (by lia);have:=h.le;lia
theorem Acc.turn{r:List Int}(h:Acc N4 (x::r) acc):Acc N4 r (VO acc x.toNat)/\(acc:Int)/(TF acc x:Nat)*x=(VO acc x.toNat:Nat)/\(acc:Int)/(TF acc x:Nat)<=acc/\0<TF acc x:=by
 have hx:=h.hZ x Tp;have hp:=h.pos;obtain⟨n,rfl⟩:=Vu (show 0<=x by lia);have hg:TF (acc:Int) (n:Int)=Nat.gcd acc n:=rfl;refine⟨⟨Z7 hp (by lia),?_,?_,h.val,λy hy=>h.hZ y (Tf _ hy)⟩,?_,?_,?_⟩
 .have h1:VO acc n<=acc*n:=X9 (Nat.mul_pos hp (by lia)) (Z6 (ZM ..) (ZY ..));have h2:acc*n<=2^(9*(6-(r.length+1)))*2^9:=V5 h.le (by lia);have hl:r.length+1<=6:=h.len;rw[<- Z8,show 9*(6-(r.length+1))+9=9*(6-r.length) by lia] at h2;exact TJ h1 h2
 .have hl:r.length+1<=6:=h.len;lia
 .rw[hg,TR,<- Lc.Bc];norm_cast
 .rw[hg];exact ZP.mpr (Nat.div_le_self acc (Nat.gcd acc n))
 .rw[hg];exact Nat.gcd_pos_of_pos_left _ hp
theorem h9(N4:List Int)(hp:bO p=some (N4.map PV.int))(h:Sz N4):fH [p]=M.ok (.int (R N4)):=by
 unfold fH fM;dsimp? [hp];refine eK N4 (λr env=>∃ acc x,env=[some (.sh p),some (.sh (.int (acc:Nat))),x]/\Acc N4 r acc) ⟨1,_,rfl,.start h⟩ ?_ ?_
 .rintro a r env ⟨acc,x,rfl,A⟩;obtain⟨A2,e1,e2,e3⟩:=A.turn;have l1:=A.lt;have ha:=A.hZ a Tp;obtain⟨s,t,ec,_,_,_⟩:=rQ (acc:Int) a (by lia) (by lia);have g1:TF acc a<=acc:=X9 A.pos (Zk.mp (VD ..));have d0:0<=(acc:Int)/(TF acc a:Nat):=U4 (by lia) (by lia);refine⟨_,[some (.sh p),some (.sh (.int (VO acc a.toNat:Nat))),some (.sh (.int a))],rfl,?_,_,_,rfl,A2⟩;dsimp? [ec,wJ,aQ (i:=(acc:Int)) (show (0:Int)<(TF acc a:Nat) by lia) (show ((TF acc a:Nat):Int)<2^64 by lia),bf (k:=64) (l:=64) (show ((acc:Int)/(TF acc a:Nat)).natAbs<2^64 by lia) (show a.natAbs<2^64 by lia),e1]
 .rintro N_ ⟨acc,x,rfl,A⟩;dsimp? [];have:=A.val;rw[R,<- this];rfl
def qj(N4:List Int)(levers:List (List Int)):List (Str×PV):=[("dial_sizes", tI N4),("lever_settings", .tup (levers.map tI)),("lever_prices", tI (SS levers.length 1)),("least_round", .int (R N4))]
def dU(N4:List Int)(levers:List (List Int)):PV:=.obj aw (qj N4 levers)
structure DG (N4 xs:List Int):Prop where
 len:xs.length=N4.length
 hZ:∀ z∈xs.zip N4,0<=z.1/\z.1<z.2
variable{xs:List Int}
theorem p6(h:DG N4 xs):wC xs N4=xs:=by
 obtain⟨hl,hr⟩:=h;unfold wC
 induction xs generalizing N4 with
 | nil=>rfl
 | cons x r ih =>
  cases N4 with
  | nil=>cases hl
  | cons s t =>
   have h1:=hr (x,s) (by simp);rw[Uw,Tw,ih (YA hl) λz hz=>hr z (by rw[Uw];exact Tf _ hz)];rw[show ((x,s):Int×Int).1%((x,s):Int×Int).2=x from UY h1.1 h1.2]
theorem vR(f:Str)(p:PV):∀ fs:List (Str×PV),(uj f p fs).length<=fs.length+1
 | []=>by simp[uj]
 | (g,q)::r=>by
  have:=vR f p r;unfold uj
  split
  .simp
  .simp;lia
variable{n:Nat}
theorem jb{f:Str}{fs:List (Str×PV)}(h:fs.length<=n):(uj f p fs).length<=n+1:=TJ (vR f p fs) (by lia)
theorem je(a C:Addr)(f:Str)(p:PV)(fs:List (Str×PV))(r:af)(h:fs.length<1000):Dj 0 C f p (some (.bd a C fs)::r)=M.ok (.nx (some (.bd a C (uj f p fs))::r)):=by
 show cM _ _=_;rw[av ⟨rfl,h⟩];rfl
theorem Fc{f:List Int->PV}(hf:f=tI\/f=lI)(N4:List Int)(levers:List (List Int))(hp:bO p=some (N4.map PV.int))(h:Sz N4)(h8:levers.length<=8)(hl:∀ l∈levers,l.length=N4.length):f6 aw dZ [.cJ] [p,.lst (levers.map f)]=M.ok (dU N4 (levers.map λl=>wC l N4)):=by
 have key:∀ a,dZ a ([p,.lst (levers.map f)]++[.cJ])=M.ok (qj N4 (levers.map λl=>wC l N4)):=by
  intro a;have e1:bG (bJ 0) none (ai jh (ae (aa 0) (ae (aa 1) ak))) (levers.map f) [none,some (.sh p)]=M.ok (levers.map λl=>tI (wC l N4)):=by
   refine gj levers λl hm=>?_;have hs:=hl l hm;have:=pP (f l) p l N4 (Lm hf l) hp (λs hs=>by have:=h.hx s hs;lia) (by rw[hs];have:=h.h6;lia);dsimp? [this]
  unfold dZ i_;simp only[tU];rw[av (show ([p,PV.lst (levers.map f)]++[PV.cJ]).length+1=4 from rfl)];simp only[yS,yO];dsimp? [hp,iP hp,qW N4 hp h.h1 h.h6 h.hx,pZ hf N4.length levers h8 hl (by have:=h.h6;lia),kQ,hp,iP hp,S0,av (aX (show levers.length<=1000 by lia)),e1,kn _ (show (levers.map f).length<=8 by rw[S0];exact h8),h9 N4 hp h];rw[je _ _ _ _ _ _ (by simp)];dsimp? [kQ,hp,iP hp,S0,av (aX (show levers.length<=1000 by lia)),e1,kn _ (show (levers.map f).length<=8 by rw[S0];exact h8),h9 N4 hp h];rw[je _ _ _ _ _ _ (UD (jb (S9 0)) (by decide))];dsimp? [kQ,hp,iP hp,S0,av (aX (show levers.length<=1000 by lia)),e1,kn _ (show (levers.map f).length<=8 by rw[S0];exact h8),h9 N4 hp h];rw[je _ _ _ _ _ _ (UD (jb (jb (S9 0))) (by decide))];dsimp? [kQ,hp,iP hp,S0,av (aX (show levers.length<=1000 by lia)),e1,kn _ (show (levers.map f).length<=8 by rw[S0];exact h8),h9 N4 hp h];rw[je _ _ _ _ _ _ (UD (jb (jb (jb (S9 0)))) (by decide))];dsimp? [];show cM _ _=_;rw[av ⟨rfl,rfl⟩];rw[qj,TY,S0];rfl
 unfold f6;rw[Cb key];rfl
theorem Az(N4:List Int)(levers:List (List Int)):(qj N4 levers).lookup (T9 "dial_sizes")=some (tI N4):=rfl
theorem Ab(N4:List Int)(levers:List (List Int)):(qj N4 levers).lookup (T9 "lever_settings")=some (.tup (levers.map tI)):=rfl
theorem Bb(N4:List Int)(levers:List (List Int)):(qj N4 levers).lookup (T9 "least_round")=some (.int (R N4)):=rfl
theorem Lu(N4:List Int)(levers:List (List Int)):(qj N4 levers).lookup (T9 "sizes")=none:=rfl
theorem Li(N4:List Int)(levers:List (List Int)):(qj N4 levers).lookup (T9 "levers")=none:=rfl
theorem uU(N4:List Int)(levers:List (List Int)):aT [dU N4 levers]=M.ok (tI N4):=by
 unfold aT bb;dsimp? [eF,dU,beq_self_eq_true,Az]
theorem rW(N4:List Int)(levers:List (List Int)):a_ [dU N4 levers]=M.ok (.tup (levers.map tI)):=by
 unfold a_ cp;dsimp? [eF,dU,beq_self_eq_true,Ab]
variable{levers:List (List Int)}
theorem n6{g:af->M PV}{env:af}(h:g env=M.ok (dU N4 levers)):bo aw "sizes" aT g ak env=M.ok (tI N4):=by
 have:=uU N4 levers;rw[bo,h,M.aM];show cM _ (M.bind (ak env) _)=_;rw[av ⟨rfl,Lu N4 levers⟩];exact this
theorem oA{g:af->M PV}{env:af}(h:g env=M.ok (dU N4 levers)):bo aw "levers" a_ g ak env=M.ok (.tup (levers.map tI)):=by
 have:=rW N4 levers;rw[bo,h,M.aM];show cM _ (M.bind (ak env) _)=_;rw[av ⟨rfl,Li N4 levers⟩];exact this
def Ej(N4 xs:List Int):Bool:=decide ((xs.length:Int)=N4.length)&&(xs.zip N4).all λz=>decide (0<=z.1/\z.1<z.2)
theorem Fd:Ej N4 xs=true ↔ DG N4 xs:=by
 unfold Ej;constructor
 .intro h;simp only[Ud,decide_eq_true_eq,UB] at h;exact⟨by lia,h.2⟩
 .intro h;simp only[Ud,decide_eq_true_eq,UB];exact⟨by rw[h.len],h.hZ⟩
theorem A7(x s:Int):∀ env:af,env=[some (.sh (.int x)),some (.sh (.int s))]->lh Ff Ei (λ_=>M.ok (.int 0)) (aa 0) (aa 1) env=M.ok (.bl (decide (0<=x/\x<s))):=by
 rintro env rfl;dsimp? []
 by_cases h:0<=x
 .simp only[h,decide_true,if_true,true_and]
  try dsimp? []
 .simp only[h,decide_false,false_and]
  try dsimp? []
theorem Hm(h:α->Bool)(xs:List α):vZ [.lst (xs.map λa=>.bl (h a))]=M.ok (.bl (xs.all h)):=by
 have:=vh (xs.map h);rw[TY] at this;rw[show (λa=>PV.bl (h a))=PV.bl∘h from rfl,this];simp[List.all_map]
theorem xB(h:Sz N4)(xs:List Int)(hz:xs.length<=1000):gO [dU N4 levers,tI xs]=M.ok (.bl (Ej N4 xs)):=by
 have key:bG (cn 0 1) none (lh Ff Ei (λ_=>M.ok (.int 0)) (aa 0) (aa 1)) ((xs.zip N4).map λz=>.tup [.int z.1,.int z.2]) [none,none]=M.ok ((xs.zip N4).map λz=>.bl (decide (0<=z.1/\z.1<z.2))) :=
  jt (p:=λz:Int×Int=>PV.int z.1) (q:=λz:Int×Int=>PV.int z.2) (xs.zip N4) λz hz=>A7 z.1 z.2 _ rfl
 have hl:(xs.zip N4).length<=sizeLine:=by rw[Uu];exact aX (TJ (Wb _ _) hz)
 unfold gO gF;dsimp? [n6 (N4:=N4) (levers:=levers) (g:=aa 0) (env:=[some (.sh (dU N4 levers)),some (.sh (tI xs)),none]) rfl,De xs N4.length (aX hz)];unfold Ej
 by_cases e:(xs.length:Int)=N4.length
 .simp only[e,decide_true,Bool.not_true,UM,if_false,Zi];dsimp? [f9 (p:=tI xs) (q:=tI N4) xs N4 rfl rfl,S0,av hl,key,Hm]
 .simp only[e,decide_false,Bool.not_false,if_true,YU];dsimp? []
theorem lY(h:Sz N4)(hs:DG N4 xs):ck [dU N4 levers,tI xs]=M.ok .cJ:=by
 unfold ck cO;dsimp? [xB (levers:=levers) h xs (by rw[hs.len];have:=h.h6;lia),Fd.mpr hs]
variable{ys:List Int}
theorem lM{z:Int×Int}(h:z∈xs.zip ys):z.1∈xs/\z.2∈ys:=UO (a:=z.1) (b:=z.2) h
theorem sW(h:Sz N4)(hs:DG N4 xs)(hx:x∈xs):0<=x/\x<360:=by
 obtain⟨i,hi,rfl⟩:=S8.mp hx;have hj:i<N4.length:=by rw[<- hs.len];exact hi
 have:=hs.hZ (xs[i],N4[i]) (by
  rw[S8];exact⟨i,by rw[Uu];lia,by rw[VC]⟩)
 have h2:=h.hx N4[i] (T6 hj);exact⟨this.1,by have:=this.2;simp only at this;lia⟩
theorem tV(xs N4:List Int):wC xs N4=zh xs N4:=rfl
def cf(a b:Int):Int×Int:=open Classical in if h:∃ p:Int×Int,fY [.int a,.int b]=M.ok (.tup [.int (TF a b),.int p.1,.int p.2])/\p.1*a+p.2*b=TF a b/\p.1.natAbs<=b.natAbs+1/\p.2.natAbs<=a.natAbs+(b.natAbs+1)*a.natAbs+b.natAbs+1 then h.choose else (0,0)
theorem FV(a b:Int)(ha:a.natAbs<2^60)(hb:b.natAbs<2^60):fY [.int a,.int b]=M.ok (.tup [.int (TF a b),.int (cf a b).1,.int (cf a b).2])/\(cf a b).1*a+(cf a b).2*b=TF a b/\(cf a b).1.natAbs<=b.natAbs+1/\(cf a b).2.natAbs<=a.natAbs+(b.natAbs+1)*a.natAbs+b.natAbs+1:=by
 have h:∃ p:Int×Int,fY [.int a,.int b]=M.ok (.tup [.int (TF a b),.int p.1,.int p.2])/\p.1*a+p.2*b=TF a b/\p.1.natAbs<=b.natAbs+1/\p.2.natAbs<=a.natAbs+(b.natAbs+1)*a.natAbs+b.natAbs+1:=by
  obtain⟨s,t,h⟩:=rQ a b ha hb;exact⟨(s,t),h⟩
 unfold cf;rw[dif_pos h];exact h.choose_spec
theorem Bx:CB cf:=λa b h1 h2 h3 h4=>by
 obtain⟨_,e,b1,b2⟩:=FV a b (by lia) (by lia);refine⟨e,by lia,?_⟩;have:(b.natAbs+1)*a.natAbs<=361*360:=V5 (by lia) (by lia);lia
def mk(r:Row):PV:=.tup [tI r.1,tI r.2]
theorem mR(r:Row):aS (mk r) (.int 0)=M.ok (tI r.1):=bR (p:=mk r) (j:=0) rfl rfl
theorem Du(r:Row):aS (mk r) (.int 1)=M.ok (tI r.2):=bR (p:=mk r) (j:=1) rfl rfl
variable{i:Nat}
theorem jP(h:i<xs.length):aS (tI xs) (.int (i:Int))=M.ok (.int (vf xs i)) :=
 bR (p:=tI xs) rfl (by rw[Tr,SW h,aV h];rfl)
variable{d:Nat}{rows:List Row}
theorem qy(h:d<rows.length):aS (.lst (rows.map mk)) (.int (d:Int))=M.ok (mk (row rows d)) :=
 bR (p:=.lst (rows.map mk)) rfl (by rw[Tr,SW h,eY h];rfl)
theorem qo{A B:Nat}(p q:PV)(xs ys:List Int)(a b:Int)(hp:bO p=some (xs.map PV.int))(hq:bO q=some (ys.map PV.int))(hx:Bd B xs)(hy:Bd B ys)(ha:a.natAbs<2^A)(hb:b.natAbs<2^A)(hB:B<=9000)(hA:A<=9000)(hz:xs.length<=1000):kj [p,.int a,q,.int b]=M.ok (tI (nR xs a ys b)):=by
 have key:bG (cn 0 1) none (aj fW (aj bV (aa 2) (aa 0)) (aj bV (aa 3) (aa 1))) ((xs.zip ys).map λz=>.tup [.int z.1,.int z.2]) [none,none,some (.sh (.int a)),some (.sh (.int b))]=M.ok ((xs.zip ys).map λz=>.int (a*z.1+b*z.2)):=by
  refine jt (p:=λz:Int×Int=>PV.int z.1) (q:=λz:Int×Int=>PV.int z.2) (xs.zip ys) λz hz=>?_;have m:=UO (a:=z.1) (b:=z.2) hz;dsimp? [bf (k:=A) (l:=B) ha (hx _ m.1) hA hB,bf (k:=A) (l:=B) hb (hy _ m.2) hA hB]
 have hl:(xs.zip ys).length<=sizeLine:=by rw[Uu];exact aX (TJ (Wb _ _) hz)
 unfold kj lJ;dsimp? [f9 xs ys hp hq,S0,av hl,key];rw[tI,nR,TY];rfl
variable{r:Row}
theorem wK{A B:Nat}{q:Row}{a b:Int}(hs:∀ s∈N4,0<s)(h1:Bd B r.1)(h2:Bd B r.2)(h3:Bd B q.1)(h4:Bd B q.2)(ha:a.natAbs<2^A)(hb:b.natAbs<2^A)(hB:B<=9000)(hA:A<=9000)(z1:r.1.length<=100)(z2:r.2.length<=100):dM [tI N4,mk r,.int a,mk q,.int b]=M.ok (mk (qz N4 r a q b)):=by
 unfold dM e9;dsimp? [mR,Du,qo (tI r.1) (tI q.1) r.1 q.1 a b rfl rfl h1 h3 ha hb hB hA (by lia),qo (tI r.2) (tI q.2) r.2 q.2 a b rfl rfl h2 h4 ha hb hB hA (by lia),pP (tI (nR r.1 a q.1 b)) (tI N4) (nR r.1 a q.1 b) N4 rfl rfl hs (by rw[bT];lia)];rfl
variable{m:Nat}
theorem sX(w:Wf n m rows)(hs:N4.length=n)(hd:d<n):dz [tI N4,.lst (rows.map mk),.int (d:Int)]=M.ok (.int (aL (vf N4) (DD rows) d)):=by
 unfold dz eI;have e1:=w.ly hd;dsimp? [qy (rows:=rows) (d:=d) (by rw[w.len];exact hd),mR,jP (xs:=(row rows d).1) (i:=d) (by lia)];unfold aL
 by_cases z:DD rows d d=0
 .have z':vf (row rows d).1 d=0:=z;simp only[z',z,decide_true,if_true];dsimp? [jP (xs:=N4) (i:=d) (by lia)]
 .have z':¬ vf (row rows d).1 d=0:=z;simp only[z',z,decide_false,UM,if_false];dsimp? [];rfl
theorem drop_cons{xs:List α}{a:α}{r:List α}(h:xs.drop d=a::r):d<xs.length/\xs[d]?=some a/\xs.drop (d+1)=r:=by
 have hd:d<xs.length:=by
  rcases TV d xs.length with q | q
  .exact q
  .rw[Vy q] at h;cases h
 rw[VQ hd] at h;injection h with h1 h2
 exact⟨hd,by rw[SW hd,h1],h2⟩
theorem iV(env:af):lx ak env=M.ok []:=by
 simp only[lx,ak,M.aM];exact if_pos (S9 _)
theorem xH{f:af->M PV}{env:af}{xs:List PV}(h:env[i]?=some (some (.ow xs)))(hf:f env=M.ok p)(hz:xs.length<1000):pR i f env=M.ok (.nx (env.set i (some (.ow (xs++[p]))))):=by
 unfold pR;rw[h];show M.bind (f env) _=_;rw[hf,M.aM,if_pos (mn (VS hz))]
theorem sV(hl:xs.length=n)(h:∀ i,i<n->0<=vf xs i/\vf xs i<vf N4 i)(hs:∀ i,i<n->vf N4 i<=360):Bd 9 xs:=λx hx=>by
 obtain⟨i,hi,rfl⟩:=S8.mp hx;have h1:=h i (by lia);have h2:=hs i (by lia);rw[aV hi] at h1;lia
theorem Bq{a b:Int}(h1:-1000<=a)(h2:a<=1000)(h3:-1000<=b)(h4:b<=1000):zp [.int a,.int b]=M.ok ((Tg (b-a).toNat).map λ(i:Nat)=>.int (a+(i:Int))):=by
 have h:-(2^62)<=a/\a<2^62/\-(2^62)<=b/\b<2^62:=by lia
 show cM (-(2^62)<=a/\a<2^62/\-(2^62)<=b/\b<2^62) _=_;rw[av h]
variable{k:Nat}
section
variable{A:Nat->bN}{left:Row}
theorem St.A8(h:St n m N4 A k rows)(hd:d<n):Bd 9 (row rows d).1:=sV (h.wf.ly hd) (λi hi=>h.gd.hZ d hd i hi) h.sm
theorem BW(h:St n m N4 A k rows):∀ s∈N4,0<s:=λs hs=>by
 obtain⟨i,hi,rfl⟩:=S8.mp hs;have:=h.gd.sp i (by rw[<- h.hs];exact hi)
 rwa [aV hi] at this
theorem AN(h:St n m N4 A k rows)(L:Lv n m N4 A k left)(hn:n<=6)(hm:m<=8):jl [tI N4,.lst (rows.map mk),mk left]=M.ok (.tup [.lst ((cC cf N4 rows left n).map mk),tI (aA cf N4 rows left n).2]):=by
 have rl:=h.wf.len;have hkm:=L.km;unfold jl jB;dsimp? [iV,lP];refine eK rows.zipIdx (λzs env=>∃ d x4 x5 x6 x7 x8,d<=n/\rows.zipIdx.drop d=zs/\env=[some (.sh (tI N4)),some (.sh (.lst (rows.map mk))),some (.sh (mk (aA cf N4 rows left d))),some (.ow ((cC cf N4 rows left d).map mk)),x4,x5,x6,x7,x8]) ⟨0,none,none,none,none,none,S9 _,rfl,rfl⟩ ?_ ?_
 .rintro⟨a,i⟩ zs env ⟨d,x4,x5,x6,x7,x8,hd,Qq,rfl⟩;obtain⟨h1,h2,h3⟩:=drop_cons Qq;rw[VL,rl] at h1;have h4:a=row rows d/\i=d:=by
   rw[List.getElem?_zipIdx] at h2;rw[eY (by rw[rl];exact h1)];rw[SW (by rw[rl];exact h1)] at h2;simp at h2;exact⟨h2.1.symm,h2.2.symm⟩
  obtain⟨rfl,rfl⟩:=h4;have ll:=c8 (c:=cf) h.wf h.hs L.l1 L.l2 i (by lia);have lk:=ke (c:=cf) h L i (by lia);have lb:=oo (c:=cf) h L hn i (by lia);have st:=h.gd.pos h1;have sm:=h.sm i h1;have nt:=lk i h1;have e1:=h.wf.ly h1;have e2:=h.wf.at2 h1;generalize Oz:aL (vf N4) (DD rows) i=N8 at *;generalize hnt:vf (aA cf N4 rows left i).1 i=nt' at *;obtain⟨c1,c2,c3,c4⟩:=FV N8 nt' (by lia) (by lia);have cb:=Bx N8 nt' st.1 (by lia) nt.1 (by lia);have gp:=gI (b:=nt') st.1;have gl:(TF N8 nt':Int)<=N8:=Int.le_of_dvd st.1 (VD ..);have a1:=j4 (b:=nt') st.1 (by lia);have a2:=lL (b:=nt') st.1 nt.1 (by lia);have B1:Bd 1300 (row rows i).1:=(St.A8 h h1).mono (by lia);have B2:Bd 1300 (row rows i).2:=(h.bd i h1).mono (by lia);have B3:Bd 1300 (aA cf N4 rows left i).1:=(sV ll.1 lk h.sm).mono (by lia);have B4:Bd 1300 (aA cf N4 rows left i).2:=lb.mono (by lia);have w1:=wK (A:=20) (N4:=N4) (BW h) B1 B2 B3 B4 cb.2.1 cb.2.2 (by decide) (by decide) (by lia) (by lia);have w2:=wK (A:=20) (N4:=N4) (a:=N8/(TF N8 nt':Nat)) (b:=-(nt'/(TF N8 nt':Nat))) (BW h) B3 B4 B1 B2 (by lia) (by lia) (by decide) (by decide) (by lia) (by lia);have ew:eB cf N4 rows left i=qz N4 (row rows i) (cf N8 nt').1 (aA cf N4 rows left i) (cf N8 nt').2:=by
   simp only[eB,Oz,hnt]
  have el:aA cf N4 rows left (i+1)=qz N4 (aA cf N4 rows left i) (N8/(TF N8 nt':Nat)) (row rows i) (-(nt'/(TF N8 nt':Nat))):=by
   simp only[aA,Oz,hnt]
  refine⟨_,[some (.sh (tI N4)),some (.sh (.lst (rows.map mk))),some (.sh (mk (aA cf N4 rows left (i+1)))),some (.ow ((cC cf N4 rows left (i+1)).map mk)),some (.sh (.int i)),some (.sh (mk (row rows i))),some (.sh (.int N8)),some (.sh (.int nt')),some (.sh (.tup [.int (TF N8 nt'),.int (cf N8 nt').1,.int (cf N8 nt').2]))],rfl,?_,i+1,_,_,_,_,_,by lia,h3,rfl⟩;have sok:=sX h.wf h.hs h1;rw[Oz] at sok;have nok:=jP (xs:=(aA cf N4 rows left i).1) (i:=i) (by lia);rw[hnt] at nok;dsimp? [sok,mR,nok,c1];rw[xH (i:=3) rfl (p:=mk (eB cf N4 rows left i)) (by dsimp? [Ic,Ia,w1,ew]) (by simp[cC];lia)];dsimp? [wJ,aQ (i:=N8) gp (by lia),aQ (i:=nt') gp (by lia),w2,el];rw[cC,cC,List.range_succ,Xn,Xn];rfl
 .rintro env ⟨d,x4,x5,x6,x7,x8,hd,Qq,rfl⟩;have Rz:d=n:=by
   have:=congrArg Va Qq;rw[Uc,VL,rl] at this;simp at this;lia
  subst Rz;dsimp? [Du]
def bh(N4:List Int)(rows:List Row)(r:Row)(f:Nat):Nat->Row
 | 0=>r
 | c+1 =>
  let l:=bh N4 rows r f c
  qz N4 l 1 (row rows (f+c)) (-(vf l.1 (f+c)/aL (vf N4) (DD rows) (f+c)))
theorem iw(h:St n m N4 A k rows){r:Row}{f:Nat}(h1:r.1.length=n)(h2:r.2.length=m):∀ c,f+c<=n->(bh N4 rows r f c).1.length=n/\(bh N4 rows r f c).2.length=m
 | 0,_=>⟨h1,h2⟩
 | c+1,hc=>by
  obtain⟨i1,i2⟩:=iw h (f:=f) h1 h2 c (by lia);have e1:=h.wf.ly (d:=f+c) (by lia);have e2:=h.wf.at2 (d:=f+c) (by lia);have hs:=h.hs;simp only[bh,qz];rw[iT,bT,bT];exact⟨by lia,by lia⟩
theorem mz(h:St n m N4 A k rows){f:Nat}(h1:r.1.length=n)(h2:r.2.length=m)(h0:∀ i,i<n->0<=vf r.1 i/\vf r.1 i<vf N4 i):Dn n (vf N4) (DD rows) f (λd=>vf (bh N4 rows r f (d-f)).1) where
 w0:=λi hi=>by rw[XA];exact h0 i hi
 ws:=λd hf hd i hi=>by
  obtain⟨c,rfl⟩:∃ c,d=f+c:=⟨d-f,by lia⟩
  obtain⟨i1,i2⟩:=iw h (f:=f) h1 h2 c (by lia);have e1:=h.wf.ly (d:=f+c) (by lia);have hs:=h.hs;show vf (bh N4 rows r f (f+c+1-f)).1 i=_;rw[show f+c+1-f=c+1 by lia,show f+c-f=c by lia];simp only[bh,qz];rw[jm (by rw[bT];lia) (by lia),fy (by lia) (by lia)];rfl
theorem uI(h:St n m N4 A k rows){r:Row}{f:Nat}(h1:r.1.length=n)(h2:r.2.length=m){P₀:bN}{B:bN}(hl:Led n (vf N4) m A (λi=>vf r.1 i-B i) (λl=>vf r.2 l-P₀ l)):∀ c,f+c<=n->Led n (vf N4) m A (λi=>vf (bh N4 rows r f c).1 i-B i) (λl=>vf (bh N4 rows r f c).2 l-P₀ l)
 | 0,_=>hl
 | c+1,hc=>by
  obtain⟨i1,i2⟩:=iw h (f:=f) h1 h2 c (by lia);have e1:=h.wf.ly (d:=f+c) (by lia);have e2:=h.wf.at2 (d:=f+c) (by lia);have hs:=h.hs;refine Led.mix (a:=1) (b:=-(vf (bh N4 rows r f c).1 (f+c)/aL (vf N4) (DD rows) (f+c))) (uI h (f:=f) h1 h2 hl c (by lia)) (h.led (f+c) (by lia)) (λi hi=>?_) λl hl=>?_
  .simp only[bh,qz];rw[jm (by rw[bT];lia) (by lia),fy (by lia) (by lia)];obtain⟨z,hz⟩:=dr (1*vf (bh N4 rows r f c).1 i+-(vf (bh N4 rows r f c).1 (f+c)/aL (vf N4) (DD rows) (f+c))*vf (row rows (f+c)).1 i) (vf N4 i);refine⟨z,?_⟩;rw[<- hz];unfold DD
   grind
  .simp only[bh,qz];rw[fy (by lia) (by lia)];unfold PP
   grind
theorem ur(h:St n m N4 A k rows){r:Row}{f B:Nat}(h1:r.1.length=n)(h2:r.2.length=m)(h0:∀ i,i<n->0<=vf r.1 i/\vf r.1 i<vf N4 i)(hB:150*k+1<=B)(hb:Bd B r.2):∀ c,f+c<=n->Bd (B+11*c) (bh N4 rows r f c).2
 | 0,_=>hb
 | c+1,hc=>by
  have k0:=(mz h (f:=f) h1 h2 h0).kept h.gd (f+c) (by lia) (by lia) (f+c) (by lia);rw[show f+c-f=c by lia] at k0;have sm:=h.sm (f+c) (by lia);have p:=h.gd.pos (d:=f+c) (by lia);have q:=Wv (aL (vf N4) (DD rows) (f+c)) k0.1;have q0:=U4 k0.1 (WY p.1);have:=Bd.mix (A:=10) (ur h (f:=f) h1 h2 h0 hB hb c (by lia)) ((h.bd (f+c) (by lia)).mono (show 150*k+1<=B+11*c by lia)) (a:=1) (b:=-(vf (bh N4 rows r f c).1 (f+c)/aL (vf N4) (DD rows) (f+c))) (by decide) (by lia);exact this.mono (by lia)
theorem pz(h:St n m N4 A k rows){f B:Nat}(hn:n<=6)(hm:m<=8)(h1:r.1.length=n)(h2:r.2.length=m)(h0:∀ i,i<n->0<=vf r.1 i/\vf r.1 i<vf N4 i)(hB:150*k+1<=B)(hB2:B<=8000)(hb:Bd B r.2)(hf:f<=n):fq [tI N4,.lst (rows.map mk),mk r,.int (f:Int)]=M.ok (mk (bh N4 rows r f (n-f))):=by
 have hs:=h.hs;have rl:=h.wf.len;unfold fq i0;have hZ:zp [.int (f:Int),.int (N4.length:Int)]=M.ok ((Tg (n-f)).map λ(i:Nat)=>.int ((f+i:Nat):Int)):=by
  rw[Bq (by lia) (by lia) (by lia) (by lia),hs,show ((n:Int)-(f:Int)).toNat=n-f by lia];simp
 dsimp? [hZ];refine eK (Tg (n-f)) (λzs env=>∃ c x4 x5,c<=n-f/\(Tg (n-f)).drop c=zs/\env=[some (.sh (tI N4)),some (.sh (.lst (rows.map mk))),some (.sh (mk (bh N4 rows r f c))),some (.sh (.int (f:Int))),x4,x5]) ⟨0,none,none,S9 _,rfl,rfl⟩ ?_ ?_
 .rintro i zs env ⟨c,x4,x5,hc,Qq,rfl⟩;obtain⟨c1,c2,c3⟩:=drop_cons Qq;rw[Ue] at c1;obtain rfl:i=c:=by
   rw[U_ c1] at c2;exact(Ti c2).symm
  have RA:f+i<n:=by lia
  have ll:=iw h (f:=f) h1 h2 i (by lia);have lk:=(mz h (f:=f) h1 h2 h0).kept h.gd (f+i) (by lia) (by lia);rw[show f+i-f=i by lia] at lk;have k0:=lk (f+i) RA;have sm:=h.sm (f+i) RA;have p:=h.gd.pos RA;have e1:=h.wf.ly RA;have e2:=h.wf.at2 RA;have B1:Bd 8200 (row rows (f+i)).1:=(St.A8 h RA).mono (by lia);have B2:Bd 8200 (row rows (f+i)).2:=(h.bd _ RA).mono (by lia);have B3:Bd 8200 (bh N4 rows r f i).1:=(sV ll.1 lk h.sm).mono (by lia);have B4:Bd 8200 (bh N4 rows r f i).2:=(ur h (f:=f) h1 h2 h0 hB hb i (by lia)).mono (by lia);have q:=Wv (aL (vf N4) (DD rows) (f+i)) k0.1;have q0:=U4 k0.1 (WY p.1);have w:=wK (A:=20) (N4:=N4) (a:=1) (b:=-(vf (bh N4 rows r f i).1 (f+i)/aL (vf N4) (DD rows) (f+i))) (BW h) B3 B4 B1 B2 (by decide) (by lia) (by decide) (by decide) (by lia) (by lia);refine⟨_,[some (.sh (tI N4)),some (.sh (.lst (rows.map mk))),some (.sh (mk (bh N4 rows r f (i+1)))),some (.sh (.int (f:Int))),some (.sh (.int ((f+i:Nat):Int))),some (.sh (.int (vf (bh N4 rows r f i).1 (f+i)/aL (vf N4) (DD rows) (f+i))))],rfl,?_,i+1,_,_,by lia,c3,rfl⟩;dsimp? [mR,jP (xs:=(bh N4 rows r f i).1) (i:=f+i) (by lia),sX h.wf h.hs RA,aQ (i:=vf (bh N4 rows r f i).1 (f+i)) p.1 (by lia),qy (rows:=rows) (d:=f+i) (by lia),w];rfl
 .rintro env ⟨c,x4,x5,hc,Qq,rfl⟩;have:c=n-f:=by
   have:=congrArg Va Qq;rw[Uc,Ue] at this;simp at this;lia
  subst this;dsimp? []
end
theorem FE(m k:Nat)(hm:m<=1000):jr [.int (m:Int),.int (k:Int)]=M.ok (tI (mT m k)):=by
 have key:bG (bJ 0) none (zK (eX (aj wA (aa 0) (aa 1))) (λ_=>M.ok (.int 1)) (λ_=>M.ok (.int 0))) ((Tg m).map λ(i:Nat)=>.int (i:Int)) [none,some (.sh (.int (k:Int)))]=M.ok ((Tg m).map λ(i:Nat)=>.int (if i=k then 1 else 0)):=by
  refine gj (inj:=λ(i:Nat)=>PV.int (i:Int)) (Tg m) λi hi=>?_;dsimp? []
  by_cases z:i=k
  .subst z;simp only[decide_true,if_true]
  .have z':¬ (i:Int)=(k:Int):=by lia
   simp only[z,z',decide_false,UM,if_false]
 unfold jr jv;dsimp? [hU (n:=(m:Int)) (by lia) (by lia),TR,S0,Ue,av (aX hm),key];rw[tI,mT,TY];rfl
theorem sD{n:Int}(h:0<=n):TQ (n-1) (-1) (-1)=n:=by
 unfold TQ;rw[if_neg (by decide)]
 split
 .rw[show -(-1:Int)=1 from rfl,Int.ediv_one];lia
 .lia
theorem D7{n:Int}(h:0<=n)(h2:n<=1000):C3 (n-1) (-1) (-1)=true:=by
 unfold C3 Xr;have f:∀ x:Int,-(2^40)<x->x<2^40->XC x=true:=λx h1 h2=>by
  unfold XC;simp only[Ud,decide_eq_true_eq];lia
 simp only[sD h,f (n-1) (by lia) (by lia),f (-1) (by decide) (by decide),f n (by lia) (by lia),f (n-1+n*-1) (by lia) (by lia),Zj,Zi,Bool.and_self,Ud,decide_eq_true_eq];refine⟨by decide,?_⟩;rw[if_neg (by decide),f (-1+(-1+1)) (by decide) (by decide),Bool.or_true]
theorem vA(k:Nat)(hk:k<=1000):zG [.int ((k:Int)-1),.int (-1),.int (-1)]=M.ok ((Tg k).map λ(i:Nat)=>.int ((k:Int)-1+(i:Int)*-1)):=by
 show cM (C3 ((k:Int)-1) (-1) (-1)=true) _=_;rw[av (D7 (by lia) (by lia)),sD (by lia),TR]
variable{j:Nat}{N6:List (List Int)}
theorem Ec(h:j<N6.length):aS (.lst (N6.map tI)) (.int (j:Int))=M.ok (tI (N6.getD j [])) :=
 bR (p:=.lst (N6.map tI)) rfl (by rw[Tr,SW h,S6,SW h];rfl)
theorem vJ{B:Nat}{s:bN}{A:Nat->bN}{P:List Int}(h:yu n m s A k N6)(hP:P.length=m)(hm:m<=8)(hk:k<=m)(hB:60<=B)(hB2:B<=8000)(hb:Bd B P):g8 [tI P,.lst (N6.map tI)]=M.ok (tI (aZ N6 k P k)):=by
 have il:=h.len;unfold g8 g9;dsimp? [S0,il,vA k (by lia)];refine eK (Tg k) (λzs env=>∃ c x2 x3,c<=k/\(Tg k).drop c=zs/\env=[some (.sh (tI (aZ N6 k P c))),some (.sh (.lst (N6.map tI))),x2,x3]) ⟨0,none,none,S9 _,rfl,rfl⟩ ?_ ?_
 .rintro i zs env ⟨c,x2,x3,hc,Qq,rfl⟩;obtain⟨c1,c2,c3⟩:=drop_cons Qq;rw[Ue] at c1;obtain rfl:i=c:=by
   rw[U_ c1] at c2;exact(Ti c2).symm
  have hj:k-1-i<k:=by lia
  have ej:(k:Int)-1+(i:Int)*-1=((k-1-i:Nat):Int):=by lia
  have sl:=span_len h hP i (by lia);have rl:=h.l2 (k-1-i) hj;have p:=h.pos (k-1-i) hj;have pl60:=h.le (k-1-i) hj;have zb:=xK h hP hk hB hb i (by lia);have B1:Bd 8600 (aZ N6 k P i):=zb.mono (by lia);have B2:Bd 8600 (N6.getD (k-1-i) []):=(h.bd hj hk).mono (by lia);have q:(-(vf (aZ N6 k P i) (k-1-i)/vf (N6.getD (k-1-i) []) (k-1-i))).natAbs<2^8600:=by
   rw[WU];exact UD (X3 ..) (B1.vf _)
  have w:=qo (A:=8600) (tI (aZ N6 k P i)) (tI (N6.getD (k-1-i) [])) (aZ N6 k P i) (N6.getD (k-1-i) []) 1 (-(vf (aZ N6 k P i) (k-1-i)/vf (N6.getD (k-1-i) []) (k-1-i))) rfl rfl B1 B2 (Nat.one_lt_two_pow (by decide)) q (by decide) (by decide) (by lia);refine⟨_,[some (.sh (tI (aZ N6 k P (i+1)))),some (.sh (.lst (N6.map tI))),some (.sh (.int ((k-1-i:Nat):Int))),some (.sh (tI (N6.getD (k-1-i) [])))],rfl,?_,i+1,_,_,by lia,c3,rfl⟩;rw[ej];dsimp? [Ec (N6:=N6) (j:=k-1-i) (by lia),jP (xs:=aZ N6 k P i) (i:=k-1-i) (by lia),jP (xs:=N6.getD (k-1-i) []) (i:=k-1-i) (by lia),aQ (i:=vf (aZ N6 k P i) (k-1-i)) (j:=vf (N6.getD (k-1-i) []) (k-1-i)) p (by show II N6 (k-1-i) (k-1-i)<2^64;lia),w];rfl
 .rintro env ⟨c,x2,x3,hc,Qq,rfl⟩;have:c=k:=by
   have:=congrArg Va Qq;rw[Uc,Ue] at this;simp at this;lia
  subst this;dsimp? []
variable{Ls:List (List Int)}
theorem i6(h:N4.length<=6):gc [dU N4 Ls]=M.ok (tI (SS N4.length 0)):=by
 unfold gc gW;dsimp? [n6 (N4:=N4) (levers:=Ls) (g:=aa 0) (env:=[some (.sh (dU N4 Ls))]) rfl,mul_one (.int 0) N4.length (by lia)];rw[tI,Vj]
theorem m9(hm:Ls.length<=8)(xs:List Int):fx [dU N4 Ls,tI xs]=M.ok (mk (xs,SS Ls.length 0)):=by
 unfold fx gZ;dsimp? [oA (N4:=N4) (levers:=Ls) (g:=aa 0) (env:=[some (.sh (dU N4 Ls)),some (.sh (tI xs))]) rfl,S0,mul_one (.int 0) Ls.length (by lia)];rw[mk,tI,tI,Vj]
theorem Ed(hm:Ls.length<=8)(hk:k<Ls.length):fS [dU N4 Ls,.int (k:Int)]=M.ok (mk (bP Ls Ls.length k)):=by
 have e:aS (.tup (Ls.map tI)) (.int (k:Int))=M.ok (tI (Ls.getD k [])):=bR (p:=.tup (Ls.map tI)) rfl (by rw[Tr,SW hk,S6,SW hk];rfl);unfold fS fO;dsimp? [oA (N4:=N4) (levers:=Ls) (g:=aa 0) (env:=[some (.sh (dU N4 Ls)),some (.sh (.int (k:Int))),none]) rfl,S0,e,FE Ls.length k (by lia)];rfl
theorem C6:∀ xs:List Int,pI (tI xs)=true:=by
 intro xs;have:∀ ys:List Int,jo (ys.map PV.int)=true:=by
  intro ys
  induction ys with
  | nil=>rfl
  | cons a r ih=>simp[jo,pI,ih]
 exact this xs
theorem Kn(x y:PV):aS (.tup [x,y]) (.int 0)=M.ok x:=bR (j:=0) rfl rfl
theorem K0(x y:PV):aS (.tup [x,y]) (.int 1)=M.ok y:=bR (j:=1) rfl rfl
def mD(N4:List Int)(rows:List Row)(n:Nat):List Row:=(Tg n).map λd=>bh N4 rows (row rows d) (d+1) (n-(d+1))
def wc(V:PV)(rows:List Row)(N6:List (List Int)):List (Str×PV):=[("vault", V),("made_rows", .lst (rows.map mk)),("idle_rows", .lst (N6.map tI))]
theorem Dz(hn1:1<=N4.length)(hn:N4.length<=6)(hm:Ls.length<=8)(hp:∀ i,i<N4.length->0<vf N4 i/\vf N4 i<=360)(LL:Le N4.length Ls.length N4 Ls) :
  f6 ar cW [] [dU N4 Ls]=M.ok (.obj ar (wc (dU N4 Ls) (mD N4 (RK cf N4 Ls N4.length Ls.length Ls.length).1 N4.length) (RK cf N4 Ls N4.length Ls.length Ls.length).2)):=by
 have all:=λk hk=>Cc.all (c:=cf) rfl hp LL Bx hn k hk;have key:∀ a,cW a ([dU N4 Ls]++[])=M.ok (wc (dU N4 Ls) (mD N4 (RK cf N4 Ls N4.length Ls.length Ls.length).1 N4.length) (RK cf N4 Ls N4.length Ls.length Ls.length).2):=by
  intro a;have e1:bG (bJ 0) none (ai fx (ae (aa 1) (ae (ai gc (ae (aa 1) ak)) ak))) (N4.map PV.int) [none,some (.sh (dU N4 Ls))]=M.ok ((SS N4.length ((SS N4.length (0:Int)),(SS Ls.length (0:Int)))).map mk):=by
   rw[gj (h:=λ_=>mk (SS N4.length 0,SS Ls.length 0)) N4 λx _=>by dsimp? [i6 (Ls:=Ls) hn,m9 (N4:=N4) hm (SS N4.length 0)]];congr 1;rw[List.map_const',Vj]
  have e2:bG (cn 0 1) none (ai fq (ae (aa 2) (ae (aa 3) (ae (aa 1) (ae (aj fW (aa 0) (λ_=>M.ok (.int 1))) ak))))) ((RK cf N4 Ls N4.length Ls.length Ls.length).1.zipIdx.map λz=>.tup [.int (z.2:Int),mk z.1]) [none,none,some (.sh (tI N4)),some (.sh (.lst ((RK cf N4 Ls N4.length Ls.length Ls.length).1.map mk)))]=M.ok ((mD N4 (RK cf N4 Ls N4.length Ls.length Ls.length).1 N4.length).map mk):=by
   have I:=all Ls.length (SX _);generalize RK cf N4 Ls N4.length Ls.length Ls.length=rk at *;have rl:=I.st.wf.len;rw[jt (p:=λz:Row×Nat=>PV.int (z.2:Int)) (q:=λz:Row×Nat=>mk z.1) (h:=λz:Row×Nat=>mk (bh N4 rk.1 z.1 (z.2+1) (N4.length-(z.2+1)))) rk.1.zipIdx λz hz=>?_]
   .congr 1;rw[mD,TY];refine Yk (by simp[rl]) λi h1 h2=>?_;have hi:i<rk.1.length:=by simpa using h1
    simp[eY hi]
   .obtain⟨i,hi,e⟩:=S8.mp hz;rw[VL] at hi;rw[Xu] at e;have ez:z=(row rk.1 i,i):=by rw[<- e,eY hi];simp
    subst ez;have Sj:i<N4.length:=by lia
    have:=pz (f:=i+1) (B:=150*Ls.length+1) I.st hn hm (I.st.wf.ly Sj) (I.st.wf.at2 Sj) (λj hj=>I.st.gd.hZ i Sj j hj) (SX _) (by lia) (I.st.bd i Sj) (by lia);rw[show ((i+1:Nat):Int)=(i:Int)+1 by lia] at this;dsimp? [this]
  have zl:N4.length<=sizeLine:=aX (by lia);have I:=all Ls.length (SX _);have rl:=I.st.wf.len;unfold cW jz;simp only[tU];rw[av (show ([dU N4 Ls]++([]:List PV)).length+1=2 from rfl)];simp only[yS,yO];dsimp? [n6 (N4:=N4) (levers:=Ls) (g:=aa 1) (env:=[some (.bd a ar []),some (.sh (dU N4 Ls)),none,none,none,none,none]) rfl,S0,av zl,e1,iV,oA (N4:=N4) (levers:=Ls) (g:=aa 1) (env:=[some (.bd a ar []),some (.sh (dU N4 Ls)),some (.sh (tI N4)),some (.sh (.lst ((SS N4.length ((SS N4.length (0:Int)),(SS Ls.length (0:Int)))).map mk))),some (.ow []),none,none]) rfl,hU (n:=(Ls.length:Int)) (by lia) (by lia),TR];refine eK (Tg Ls.length) (λzs env=>∃ k x5 x6,k<=Ls.length/\(Tg Ls.length).drop k=zs/\env=[some (.bd a ar []),some (.sh (dU N4 Ls)),some (.sh (tI N4)),some (.sh (.lst ((RK cf N4 Ls N4.length Ls.length k).1.map mk))),some (.ow ((RK cf N4 Ls N4.length Ls.length k).2.map tI)),x5,x6]) ⟨0,none,none,S9 _,rfl,rfl⟩ ?_ ?_
  .rintro i zs env ⟨k,x5,x6,hk,Qq,rfl⟩;obtain⟨c1,c2,c3⟩:=drop_cons Qq;rw[Ue] at c1;obtain rfl:i=k:=by
    rw[U_ c1] at c2;exact(Ti c2).symm
   have J:=all i hk;have L:Lv N4.length Ls.length N4 (AA Ls) i (bP Ls Ls.length i):=⟨LL.at_ i c1,by simp[bP,mT],c1,λj hj=>rfl,LL.hZ i c1,λl hl=>va hl⟩
   have tk:=AN J.st L hn hm;have ll:=c8 (c:=cf) J.st.wf J.st.hs L.l1 L.l2 N4.length (SX _);have lb:=oo (c:=cf) J.st L hn N4.length (SX _);have sp:=vJ (B:=1400) J.qC ll.2 hm (by lia) (by decide) (by decide) (lb.mono (by lia));have il:=J.qC.len;refine⟨_,[some (.bd a ar []),some (.sh (dU N4 Ls)),some (.sh (tI N4)),some (.sh (.lst ((RK cf N4 Ls N4.length Ls.length (i+1)).1.map mk))),some (.ow ((RK cf N4 Ls N4.length Ls.length (i+1)).2.map tI)),some (.sh (.int (i:Int))),some (.sh (.tup [.lst ((cC cf N4 (RK cf N4 Ls N4.length Ls.length i).1 (bP Ls Ls.length i) N4.length).map mk),tI (aA cf N4 (RK cf N4 Ls N4.length Ls.length i).1 (bP Ls Ls.length i) N4.length).2]))],rfl,?_,i+1,_,_,by lia,c3,rfl⟩;dsimp? [Ed (N4:=N4) hm c1,tk,Kn];rw[xH (i:=4) rfl (p:=tI (aZ (RK cf N4 Ls N4.length Ls.length i).2 i (aA cf N4 (RK cf N4 Ls N4.length Ls.length i).1 (bP Ls Ls.length i) N4.length).2 i)) (by
    dsimp? [o_,ownAt,K0,sp];exact av (C6 _)) (by simp[il];lia)]
   dsimp? [RK,Xn]
  .rintro env ⟨k,x5,x6,hk,Qq,rfl⟩;have:k=Ls.length:=by
    have:=congrArg Va Qq;rw[Uc,Ue] at this;simp at this;lia
   subst this;dsimp? [kQ];rw[je _ _ _ _ _ _ (by simp)];dsimp? [kQ,lP,S0,VL,rl,av zl,e2];rw[je _ _ _ _ _ _ (UD (jb (S9 0)) (by decide))];dsimp? [kQ];rw[je _ _ _ _ _ _ (UD (jb (jb (S9 0))) (by decide))];dsimp? [];show cM _ _=_;rw[av ⟨rfl,rfl⟩];rfl
 unfold f6;rw[Cb key];rfl
section
variable{A:Nat->bN}
theorem l_(h:d<n):row (mD N4 rows n) d=bh N4 rows (row rows d) (d+1) (n-(d+1)):=by
 rw[eY (by simp[mD,h])];simp[mD]
theorem Iz(h:St n m N4 A m rows)(hn:n<=6)(hA:∀ i,A m i=0):St n m N4 A (m+1) (mD N4 rows n):=by
 have hl:∀ d,d<n->(bh N4 rows (row rows d) (d+1) (n-(d+1))).1.length=n/\(bh N4 rows (row rows d) (d+1) (n-(d+1))).2.length=m:=λd hd=>iw h (h.wf.ly hd) (h.wf.at2 hd) _ (by lia);have lg:=uM (D':=DD (mD N4 rows n)) h.gd (λd e=>vf (bh N4 rows (row rows d) (d+1) (e-(d+1))).1) (λd hd=>mz h (h.wf.ly hd) (h.wf.at2 hd) λi hi=>h.gd.hZ d hd i hi) (λd hd i hi=>by
  show vf (bh N4 rows (row rows d) (d+1) (d+1-(d+1))).1 i=_;rw[XA];rfl) λd hd i hi=>by
  unfold DD;rw[l_ hd]
 refine⟨⟨by simp[mD],λr hr=>?_,λr hr=>?_⟩,h.hs,h.sm,lg.1,λd hd=>?_,λd hd l h1 h2=>by lia,λd hd=>?_,λl hl=>?_⟩
 .obtain⟨d,hd,rfl⟩:=T_.mp hr;exact(hl d (UA.mp hd)).1
 .obtain⟨d,hd,rfl⟩:=T_.mp hr;exact(hl d (UA.mp hd)).2
 .unfold DD PP;rw[l_ hd];have:=uI h (f:=d+1) (h.wf.ly hd) (h.wf.at2 hd) (P₀:=λ_=>0) (B:=λ_=>0) (by
   have q:=h.led d hd;intro i hi;have:=q i hi;simp only[WV];exact this) (n-(d+1)) (by lia)
  intro i hi;have:=this i hi;simp only[WV] at this;exact this
 .rw[l_ hd];exact(ur h (f:=d+1) (h.wf.ly hd) (h.wf.at2 hd) (λi hi=>h.gd.hZ d hd i hi) (SX _) (h.bd d hd) (n-(d+1)) (by lia)).mono (by lia)
 .rcases TV l m with q | q
  .exact lg.2.2.2.2 n 0 (by lia) _ (h.cl l q)
  .obtain rfl:l=m:=by lia
   exact G.ext (by lia) (λi _=>(hA i).symm) (G.zero (by lia))
end
def kK(N4:List Int)(Ls:List (List Int))(R:List Row)(N6:List (List Int)):PV:=.obj ar (wc (dU N4 Ls) R N6)
section
variable{R:List Row}
theorem KN:(wc (dU N4 Ls) R N6).lookup (T9 "vault")=some (dU N4 Ls):=rfl
theorem J6:(wc (dU N4 Ls) R N6).lookup (T9 "made_rows")=some (.lst (R.map mk)):=rfl
theorem Lh:(wc (dU N4 Ls) R N6).lookup (T9 "idle_rows")=some (.lst (N6.map tI)):=rfl
theorem MR:(wc (dU N4 Ls) R N6).lookup (T9 "brought_down")=none:=rfl
theorem MH{g:af->M PV}{env:af}(h:g env=M.ok (kK N4 Ls R N6)):eF (λc=>c==ar) "vault" g env=M.ok (dU N4 Ls):=by
 rw[eF,h,M.aM];show cM _ (eZ (Vz _ _))=_;rw[av (beq_self_eq_true _),KN];rfl
theorem NQ{g:af->M PV}{env:af}(h:g env=M.ok (kK N4 Ls R N6)):eF (λc=>c==ar) "made_rows" g env=M.ok (.lst (R.map mk)):=by
 rw[eF,h,M.aM];show cM _ (eZ (Vz _ _))=_;rw[av (beq_self_eq_true _),J6];rfl
theorem NN{g:af->M PV}{env:af}(h:g env=M.ok (kK N4 Ls R N6)):eF (λc=>c==ar) "idle_rows" g env=M.ok (.lst (N6.map tI)):=by
 rw[eF,h,M.aM];show cM _ (eZ (Vz _ _))=_;rw[av (beq_self_eq_true _),Lh];rfl
theorem tX{A:Nat->bN}(S:Sz N4)(hm:Ls.length<=8)(h:St N4.length Ls.length N4 A k R)(hk:k<=9)(hx:DG N4 xs)(h0:∀ i,i<N4.length->0<=vf xs i/\vf xs i<vf N4 i) :
  bA [kK N4 Ls R N6,tI xs]=M.ok (mk (bh N4 R (xs,SS Ls.length 0) 0 N4.length)):=by
 have lo:=pz (f:=0) (B:=150*k+1) (r:=(xs,SS Ls.length 0)) h S.h6 hm hx.len (by simp) h0 (SX _) (by lia) (λx hx=>by rw[U3 hx];exact Vx _) (S9 _);rw[Yw] at lo;unfold bA bM;dsimp? [MH (N4:=N4) (Ls:=Ls) (R:=R) (N6:=N6) (g:=aa 0) (env:=[some (.sh (kK N4 Ls R N6)),some (.sh (tI xs))]) rfl,NQ (N4:=N4) (Ls:=Ls) (R:=R) (N6:=N6) (g:=aa 0) (env:=[some (.sh (kK N4 Ls R N6)),some (.sh (tI xs))]) rfl,lY (levers:=Ls) S hx,m9 (N4:=N4) hm xs,n6 (N4:=N4) (levers:=Ls) (g:=eF (λc=>c==ar) "vault" (aa 0)) (env:=[some (.sh (kK N4 Ls R N6)),some (.sh (tI xs))]) (MH (R:=R) (N6:=N6) rfl),show fq [tI N4,.lst (R.map mk),mk (xs,SS Ls.length 0),.int 0]=_ from lo]
end
def qv(xs:List Int):List Int:=xs.map λx=>-x
theorem IC(xs:List Int)(i:Nat):vf (qv xs) i=-vf xs i:=by
 rcases TV i xs.length with h | h
 .rw[aV (by simpa [qv] using h),aV h];simp[qv]
 .rw[pN (by simpa [qv] using h),pN h];rfl
theorem Jz{B:Nat}(h:Bd B xs):Bd B (qv xs):=λx hx=>by
 obtain⟨y,hy,rfl⟩:=T_.mp hx;rw[WU];exact h y hy
section
variable{R:List Row}
def told(N4:List Int)(Ls:List (List Int))(R:List Row)(N6:List (List Int))(xs:List Int):List Int:=aZ N6 Ls.length (qv (bh N4 R (xs,SS Ls.length 0) 0 N4.length).2) Ls.length
theorem BS{A:Nat->bN}(S:Sz N4)(hm:Ls.length<=8)(h:St N4.length Ls.length N4 A k R)(hk:k<=9)(I:yu N4.length Ls.length (vf N4) A Ls.length N6)(hx:DG N4 xs)(h0:∀ i,i<N4.length->0<=vf xs i/\vf xs i<vf N4 i)(hg:G N4.length (vf N4) (DD R) N4.length 0 (vf xs)) :
  cj [kK N4 Ls R N6,tI xs]=M.ok (tI (told N4 Ls R N6 xs))/\(told N4 Ls R N6 xs).length=Ls.length/\Led N4.length (vf N4) Ls.length A (vf xs) (vf (told N4 Ls R N6 xs))/\∀ l,l<Ls.length->0<=vf (told N4 Ls R N6 xs) l/\vf (told N4 Ls R N6 xs) l<II N6 l l:=by
 have l6:=S.h6;have r2:(SS Ls.length (0:Int)).length=Ls.length:=by simp
 have ll:=iw h (f:=0) (r:=(xs,SS Ls.length 0)) hx.len r2 N4.length (by lia);have dn:=mz h (f:=0) (r:=(xs,SS Ls.length 0)) hx.len r2 h0;have z:=dn.run h.gd N4.length 0 (SX _) (by lia) (by rw[XA];exact hg);rw[Yw] at z;have nz:(bh N4 R (xs,SS Ls.length 0) 0 N4.length).1=SS N4.length 0:=uu (by rw[ll.1];simp) λi hi=>by rw[z i (by lia),fz]
 have b:=ur h (f:=0) (B:=150*k+1) (r:=(xs,SS Ls.length 0)) hx.len r2 h0 (SX _) (λx hx=>by rw[U3 hx];exact Vx _) N4.length (by lia);have nl:(qv (bh N4 R (xs,SS Ls.length 0) 0 N4.length).2).length=Ls.length:=by rw[qv,S0];exact ll.2
 have sp:=vJ (B:=1500) I nl hm (SX _) (by decide) (by decide) (Jz (b.mono (by lia)));have led:=uI h (f:=0) (r:=(xs,SS Ls.length 0)) hx.len r2 (P₀:=λ_=>0) (B:=vf xs) (by
  intro i hi;rw[dI (g:=λ_=>0) λl hl=>by
   show (vf (SS Ls.length 0) l-0)*A l i=0;rw[fz];simp,fu]
  show vf N4 i∣vf xs i-vf xs i-0;rw[YE];exact Uz _) N4.length (by lia)
 have led2:Led N4.length (vf N4) Ls.length A (vf xs) (vf (qv (bh N4 R (xs,SS Ls.length 0) 0 N4.length).2)):=by
  refine Led.mix (a:=-1) (b:=0) led led (λi hi=>?_) λl hl=>?_
  .rw[z i hi];exact⟨0,by lia⟩
  .rw[IC];lia
 refine⟨?_,span_len I nl _ (SX _),pJ I nl led2 _ (SX _),λl hl=>ux I nl (SX _) _ (SX _) l (by lia) hl⟩;have dk:=tX (N6:=N6) S hm h hk hx h0;have md:∀ y,bo ar "brought_down" bA (aa 0) (ae (aa 1) ak) [some (.sh (kK N4 Ls R N6)),some (.sh (tI xs)),y]=M.ok (mk (bh N4 R (xs,SS Ls.length 0) 0 N4.length)):=λy=>by
  show M.bind (M.ok (kK N4 Ls R N6)) _=_;rw[M.aM];show cM _ (M.bind (M.ok [tI xs]) _)=_;rw[av ⟨rfl,MR⟩,M.aM];exact dk
 have cm:bG (bJ 0) none (jH (aa 0)) ((bh N4 R (xs,SS Ls.length 0) 0 N4.length).2.map PV.int) [none]=M.ok ((bh N4 R (xs,SS Ls.length 0) 0 N4.length).2.map λx=>.int (-x)):=gj _ λx _=>by dsimp? []
 have lz:(bh N4 R (xs,SS Ls.length 0) 0 N4.length).2.length<=sizeLine:=by rw[ll.2];exact aX (by lia)
 have en:PV.tup ((bh N4 R (xs,SS Ls.length 0) 0 N4.length).2.map λx=>PV.int (-x))=tI (qv (bh N4 R (xs,SS Ls.length 0) 0 N4.length).2):=by rw[tI,qv,TY];rfl
 unfold cj cP;dsimp? [md,mR,Du,MH (N4:=N4) (Ls:=Ls) (R:=R) (N6:=N6) (g:=aa 0) (env:=[some (.sh (kK N4 Ls R N6)),some (.sh (tI xs)),some (.sh (mk (bh N4 R (xs,SS Ls.length 0) 0 N4.length)))]) rfl,i6 (Ls:=Ls) l6,nz,wX,decide_true,NN (N4:=N4) (Ls:=Ls) (R:=R) (N6:=N6) (g:=aa 0) (env:=[some (.sh (kK N4 Ls R N6)),some (.sh (tI xs)),some (.sh (mk (bh N4 R (xs,SS Ls.length 0) 0 N4.length)))]) rfl,S0,av lz,cm,en,sp];rfl
end
def nK(N4 xs ys:List Int)(t:Int):List Int:=(xs.zip (ys.zip N4)).map λz=>(z.1+t*z.2.1)%z.2.2
variable{t:Int}
theorem uZ(h1:xs.length=N4.length)(h2:ys.length=N4.length):(nK N4 xs ys t).length=N4.length:=by
 simp[nK];lia
theorem C5(h1:xs.length=N4.length)(h2:ys.length=N4.length)(hi:i<N4.length):vf (nK N4 xs ys t) i=(vf xs i+t*vf ys i)%vf N4 i:=by
 rw[aV (by rw[uZ h1 h2];exact hi),aV (by lia),aV (by lia),aV hi];simp[nK]
theorem Cw(p:PV)(n:Nat)(h8:n<=1000):bV (.lst [p]) (.int (n:Int))=M.ok (.lst (SS n p)):=by
 have h2:[p].length*(n:Int).toNat<=sizeLine:=by
  rw[TR];exact aX (by show 1*n<=1000;lia)
 have h3:(n:Int)<2^63:=XX (ZP.mpr h8) (by decide);have h4:-(2^63)<=(n:Int):=YF (by decide) (Zt n);rw[bV,av ⟨h4,h3,h2⟩,TR,lX]
theorem DT{a b:Int}(h:b∈SS n a):b=a:=U3 h
theorem pick(l:List Int)(c:Int)(n:Nat)(hn:l.length=n)(h0:0<n):∃ x,x∈l/\aS (.lst (l.map PV.int)) (.int (c%(n:Int)))=M.ok (.int x):=by
 have h1:0<=c%(n:Int):=Tz _ (by lia);have h2:c%(n:Int)<n:=To _ (by lia);obtain⟨j,hj⟩:=Vu h1;have hj':j<l.length:=by lia
 refine⟨l[j],T6 _,?_⟩;rw[hj];exact bR (p:=.lst (l.map PV.int)) (j:=j) rfl (by rw[Tr,SW hj'];rfl)
theorem two{c:Int}:c%2=0\/c%2=1:=by lia
theorem sS(h:i<xs.length):aS (lI xs) (.int (i:Int))=M.ok (.int (vf xs i)) :=
 bR (p:=lI xs) rfl (by rw[Tr,SW h,aV h];rfl)
theorem getD_at{β:Type}(f:α->β){xs:List α}{a:α}{b:β}{l:Nat}(h:l<xs.length):(xs.map f).getD l b=f (xs.getD l a):=by
 rw[S6,S6,Tr,SW h];rfl
theorem getD_mem{xs:List α}{a:α}{l:Nat}(h:l<xs.length):xs.getD l a∈xs:=by
 rw[S6,SW h];exact T6 h
variable{OA:List (List Int)}
theorem Ay(S:Sz N4)(hr:∀ l∈OA,l.length=N4.length/\Bd 200 l):Le N4.length OA.length N4 (OA.map λl=>wC l N4)/\∀ l,l<OA.length->∀ i,i<N4.length->AA (OA.map λl=>wC l N4) l i=vf (OA.getD l []) i%vf N4 i:=by
 have e:∀ l,l<OA.length->∀ i,i<N4.length->AA (OA.map λl=>wC l N4) l i=vf (OA.getD l []) i%vf N4 i:=λl hl i hi=>by
  unfold AA;rw[getD_at (a:=[]) _ hl,tV,jm (by rw[(hr _ (getD_mem hl)).1];exact hi) hi]
 refine⟨⟨by simp,λl hl=>?_,λl hl i hi=>?_⟩,e⟩
 .rw[getD_at (a:=[]) _ hl,tV,iT,(hr _ (getD_mem hl)).1];lia
 .rw[e l hl i hi];have:=S.hx _ (T6 hi);rw[<- aV hi] at this;exact⟨Tz _ (by lia),To _ (by lia)⟩
theorem jC(S:Sz N4):∀ i,i<N4.length->0<vf N4 i/\vf N4 i<=360:=λi hi=>by
 have:=S.hx _ (T6 hi);rw[<- aV hi] at this;lia
theorem oG(h:xs.length=N4.length)(h0:∀ i,i<N4.length->0<=vf xs i/\vf xs i<vf N4 i):DG N4 xs:=⟨h,λz hz=>by
 obtain⟨i,hi,rfl⟩:=S8.mp hz;rw[Uu] at hi;have:=h0 i (by lia);rw[aV (by lia),aV (by lia)] at this;simpa using this⟩
def iU(ns:List Int)(a b:Nat):List Int:=(ns.drop (HT.de ns.length 0 (some (a:Int)))).take (HT.de ns.length ns.length (some (b:Int))-HT.de ns.length 0 (some (a:Int)))
theorem xI(ns:List Int)(a b:Nat):IU (.jV (ns.map PV.int)) (some (a:Int)) (some (b:Int))=M.ok (.lst ((iU ns a b).map PV.int)):=by
 show M.ok (PV.lst (lN (ns.map PV.int) _ _))=_;rw[lN,iU,List.map_take,List.map_drop,S0]
theorem rH(ns:List Int)(a b:Nat):(iU ns a b).length<=b-a:=by
 unfold iU;rw[Wr,Uc,HT.tN,HT.tN];lia
theorem wB{z:Int×Nat}(h:z∈xs.zipIdx):z.2<xs.length:=by
 obtain⟨i,hi,rfl⟩:=S8.mp h;simp at hi ⊢;exact hi
theorem G4(Ls:List (List Int))(i:Nat):AA Ls Ls.length i=0:=by
 unfold AA;rw[S6,W5 (SX _)];exact pN (S9 _)
section
variable{R:List Row}{A:Nat->bN}
theorem mj{m:Str}{sem:List PV->M PV}{x:M (List PV)}(h:(wc (dU N4 Ls) R N6).lookup m=none):rJ ar m sem (kK N4 Ls R N6) x=x.bind λps=>sem (kK N4 Ls R N6::ps):=kz h
theorem LX:Cr (λc=>c==ar) "vault" (kK N4 Ls R N6)=M.ok (dU N4 Ls):=oR (beq_self_eq_true _) KN
theorem MX:Cr (λc=>c==ar) "made_rows" (kK N4 Ls R N6)=M.ok (.lst (R.map mk)):=oR (beq_self_eq_true _) J6
theorem NX:Cr (λc=>c==ar) "idle_rows" (kK N4 Ls R N6)=M.ok (.lst (N6.map tI)):=oR (beq_self_eq_true _) Lh
theorem GJ:rJ aw "sizes" aT (dU N4 Ls) (M.ok [])=M.ok (tI N4):=(kz (fl:=qj N4 Ls) rfl).trans (uU N4 Ls)
def lst(N4:List Int)(Ls:List (List Int))(R:List Row)(xs:List Int):List Int:=(bh N4 R (xs,SS Ls.length 0) 0 N4.length).1
theorem sk(h:St N4.length Ls.length N4 A k R)(hl:xs.length=N4.length)(h0:∀ i,i<N4.length->0<=vf xs i/\vf xs i<vf N4 i) :
  (lst N4 Ls R xs).length=N4.length/\(∀ i,i<N4.length->0<=vf (lst N4 Ls R xs) i/\vf (lst N4 Ls R xs) i<aL (vf N4) (DD R) i)/\(∀ i,i<N4.length->0<=vf (lst N4 Ls R xs) i/\vf (lst N4 Ls R xs) i<vf N4 i)/\G N4.length (vf N4) (DD R) N4.length 0 (λi=>vf xs i-vf (lst N4 Ls R xs) i):=by
 have r2:(SS Ls.length (0:Int)).length=Ls.length:=by simp
 have ll:=iw h (f:=0) (r:=(xs,SS Ls.length 0)) hl r2 N4.length (by lia);have dn:=mz h (f:=0) (r:=(xs,SS Ls.length 0)) hl r2 h0;exact⟨ll.1,λi hi=>dn.low h.gd N4.length (S9 _) (SX _) i (S9 _) hi,λi hi=>dn.kept h.gd N4.length (S9 _) (SX _) i hi,dn.away h.gd N4.length (S9 _) (SX _) N4.length (by lia)⟩
theorem DC(S:Sz N4)(hm:Ls.length<=8)(h:St N4.length Ls.length N4 A k R)(hk:k<=9)(hl:xs.length=N4.length)(h0:∀ i,i<N4.length->0<=vf xs i/\vf xs i<vf N4 i) :
  fJ [kK N4 Ls R N6,tI xs]=M.ok (tI (lst N4 Ls R xs)):=by
 have dk:=tX (N6:=N6) S hm h hk (oG hl h0) h0;unfold fJ fG;dsimp? [bU,mj (m := "brought_down") rfl,dk,mR];rfl
def gK(N4:List Int)(R:List Row):List Int:=(Tg N4.length).map λd=>aL (vf N4) (DD R) d
theorem c9:(gK N4 R).length=N4.length:=by simp[gK]
theorem lE(h:i<N4.length):vf (gK N4 R) i=aL (vf N4) (DD R) i:=by
 rw[aV (by rw[c9];exact h)];simp[gK]
def C7(N6:List (List Int)):List Int:=N6.zipIdx.map λz=>vf z.1 z.2
theorem oa:(C7 N6).length=N6.length:=by simp[C7]
theorem AH(h:i<N6.length):vf (C7 N6) i=II N6 i i:=by
 rw[aV (by rw[oa];exact h)];simp only[C7,V4,Xu,YC];unfold II;rw[S6,SW h];rfl
theorem l8(S:Sz N4)(h:St N4.length Ls.length N4 A k R):cD [kK N4 Ls R N6]=M.ok (tI (gK N4 R)):=by
 have l6:=S.h6;have key:bG (bJ 0) none (ai dz (ae (aa 2) (ae (eF (λc=>c==ar) "made_rows" (aa 1)) (ae (aa 0) ak)))) ((Tg N4.length).map λ(i:Nat)=>.int (i:Int)) [none,some (.sh (kK N4 Ls R N6)),some (.sh (tI N4))]=M.ok ((Tg N4.length).map λd=>.int (aL (vf N4) (DD R) d)):=by
  refine gj (inj:=λ(i:Nat)=>PV.int (i:Int)) (Tg N4.length) λi hi=>?_;dsimp? [jn,MX,sX h.wf h.hs (UA.mp hi)]
 unfold cD c_;dsimp? [jn,LX,bU,GJ,hU (n:=(N4.length:Int)) (by lia) (by lia),TR,S0,Ue,av (aX (show N4.length<=1000 by lia)),key];rw[tI,gK,TY];rfl
theorem sH(hm:Ls.length<=8)(I:yu N4.length Ls.length (vf N4) A Ls.length N6):fF [kK N4 Ls R N6]=M.ok (tI (C7 N6)):=by
 have il:=I.len;have key:bG (cn 0 1) none (aj aS (aa 1) (aa 0)) (N6.zipIdx.map λz=>.tup [.int (z.2:Int),tI z.1]) [none,none]=M.ok (N6.zipIdx.map λz=>.int (vf z.1 z.2)):=by
  refine jt (p:=λz:List Int×Nat=>PV.int (z.2:Int)) (q:=λz:List Int×Nat=>tI z.1) N6.zipIdx λz hz=>?_;obtain⟨i,hi,rfl⟩:=S8.mp hz;rw[VL] at hi;have:=I.l2 i (by lia);rw[S6,SW hi] at this;simp only[Xu,YC];dsimp? [jP (xs:=N6[i]) (i:=i) (by rw[show N6[i].length=Ls.length from this];lia)]
 unfold fF fK;dsimp? [jn,NX,lP,S0,VL,av (aX (show N6.length<=1000 by lia)),key];rw[tI,C7,TY];rfl
theorem Au(S:Sz N4)(hm:Ls.length<=8)(h:St N4.length Ls.length N4 A k R)(hk:k<=9)(hl:xs.length=N4.length)(h0:∀ i,i<N4.length->0<=vf xs i/\vf xs i<vf N4 i)(hn:lst N4 Ls R xs≠SS N4.length 0) :
  cj [kK N4 Ls R N6,tI xs]=M.ok .cJ:=by
 have dk:=tX (N6:=N6) S hm h hk (oG hl h0) h0;unfold cj cP;dsimp? [bU,mj (m := "brought_down") rfl,dk,mR,jn,LX,i6 (Ls:=Ls) S.h6,wX];simp only[show ¬ (bh N4 R (xs,SS Ls.length 0) 0 N4.length).1=SS N4.length 0 from hn,decide_false];dsimp? []
end
section
variable{R:List Row}
theorem IH(S:Sz N4):∀ s∈N4,0<s:=λs hs=>by have:=S.hx s hs;lia
theorem Cz(S:Sz N4):∀ i,i<N4.length->0<=vf (SS N4.length 0) i/\vf (SS N4.length 0) i<vf N4 i:=λi hi=>by rw[fz];have:=jC S i hi;lia
theorem k_(S:Sz N4){F:List Int}(h:F.length=N4.length)(k:∀ i,i<N4.length->0<=vf F i/\vf F i<vf N4 i):Bd 200 F:=λx hx=>by
 obtain⟨i,hi,rfl⟩:=S8.mp hx;have h2:=k i (by lia);rw[aV hi] at h2;have:=jC S i (by lia);lia
theorem w5(S:Sz N4)(h1:xs.length=N4.length)(h2:ys.length=N4.length):(nK N4 xs ys t).length=N4.length/\(∀ i,i<N4.length->0<=vf (nK N4 xs ys t) i/\vf (nK N4 xs ys t) i<vf N4 i)/\∀ i,i<N4.length->vf N4 i∣vf (nK N4 xs ys t) i-(vf xs i+t*vf ys i) :=
 ⟨uZ h1 h2,λi hi=>by
  rw[C5 h1 h2 hi];have:=jC S i hi;exact⟨Tz _ (by lia),To _ (by lia)⟩,λi hi=>by rw[C5 h1 h2 hi];exact dr _ _⟩
structure iO (ns:List Int) (N4:List Int) (OA Ls:List (List Int)) (R:List Row) (N6:List (List Int)):Prop where
 S:Sz N4
 hr:∀ l∈OA,l.length=N4.length/\Bd 200 l
 eL:Ls=OA.map λl=>wC l N4
 hm:OA.length=Ls.length
 m8:Ls.length<=8
 eA:∀ l,l<OA.length->∀ i,i<N4.length->AA Ls l i=vf (OA.getD l []) i%vf N4 i
 LL:Le N4.length Ls.length N4 Ls
 st:St N4.length Ls.length N4 (AA Ls) (Ls.length+1) R
 I:yu N4.length Ls.length (vf N4) (AA Ls) Ls.length N6
 pr:aC Ls.length (λj=>II N6 j j)*aC N4.length (aL (vf N4) (DD R))=aC N4.length (vf N4)
 ord:∀ j,j<Ls.length->∀ P:bN,Zf (j+1) Ls.length P->Led N4.length (vf N4) Ls.length (AA Ls) (λ_=>0) P->II N6 j j∣P j
 low:∀ d,d<N4.length->∀ e,d<e->e<N4.length->DD R d e<aL (vf N4) (DD R) e
 nul:∀ d,d<N4.length->DD R d d=0->∀ i,i<N4.length->DD R d i=0
 La:∀ {p:PV} {f:List Int->PV},(f=tI\/f=lI)->bO p=some (N4.map PV.int)->f6 aw dZ [.cJ] [p,.lst (OA.map f)]=M.ok (dU N4 Ls)
 Gq:f6 ar cW [] [dU N4 Ls]=M.ok (kK N4 Ls R N6)
theorem iO.get(ns:List Int)(S:Sz N4)(r8:OA.length<=8)(hr:∀ l∈OA,l.length=N4.length/\Bd 200 l):∃ Ls R N6,iO ns N4 OA Ls R N6:=by
 have l6:=S.h6;have sp:=jC S;obtain⟨LL,eA⟩:=Ay S hr;have La:=λ{p:PV} {f:List Int->PV} (hf:f=tI\/f=lI) hp=>Fc (p:=p) hf N4 OA hp S r8 λl h=>(hr l h).1;have hm:OA.length=(OA.map λl=>wC l N4).length:=by simp
 generalize hLs:(OA.map λl=>wC l N4)=Ls at *;rw[hm] at LL r8;have K:=Cc.all (c:=cf) rfl sp LL Bx l6 Ls.length (SX _);have Gq:=Dz S.h1 l6 r8 sp LL;generalize RK cf N4 Ls N4.length Ls.length Ls.length=rk at *;have h:=K.st;have hl:∀ d,d<N4.length->(bh N4 rk.1 (row rk.1 d) (d+1) (N4.length-(d+1))).1.length=N4.length:=λd hd=>(iw h (h.wf.ly hd) (h.wf.at2 hd) _ (by lia)).1;have lg:=uM (D':=DD (mD N4 rk.1 N4.length)) h.gd (λd e=>vf (bh N4 rk.1 (row rk.1 d) (d+1) (e-(d+1))).1) (λd hd=>mz h (h.wf.ly hd) (h.wf.at2 hd) λi hi=>h.gd.hZ d hd i hi) (λd hd i hi=>by
  show vf (bh N4 rk.1 (row rk.1 d) (d+1) (d+1-(d+1))).1 i=_;rw[XA];rfl) (λd hd i hi=>by unfold DD;rw[l_ hd])
 refine⟨Ls,mD N4 rk.1 N4.length,rk.2,S,hr,hLs.symm,hm,r8,eA,LL,Iz K.st l6 (G4 Ls),K.qC,?_,K.ord,?_,?_,La,Gq⟩
 .rw[dQ (f:=aL (vf N4) (DD (mD N4 rk.1 N4.length))) (g:=aL (vf N4) (DD rk.1)) lg.2.1];exact K.pr
 .intro d hd e h1 h2;rw[lg.2.1 e h2];exact lg.2.2.1 d hd e h1 h2
 .exact lg.2.2.2.1
end
theorem zH(N4:List Int)(levers:List (List Int)):cK [dU N4 levers]=M.ok (.int (R N4)):=by
 unfold cK dF;dsimp? [eF,dU,beq_self_eq_true,Bb]
theorem Nw:rJ aw "around" cK (dU N4 Ls) (M.ok [])=M.ok (.int (R N4)):=(kz (fl:=qj N4 Ls) rfl).trans (zH N4 Ls)
def LH(N4 ws xs:List Int):Int:=((((ws.zip N4).map λz=>z.1*(R N4/z.2)).zip xs).map λz=>z.1*z.2).sum%R N4
theorem oQ(h:Sz N4){s:Int}(hs:s∈N4):0<=R N4/s/\R N4/s<2^60:=by
 have h1:=sL h;have h2:=KP h;have h3:=h.hx s hs;refine⟨U4 (by lia) (by lia),XX (Wv s (by lia)) h2⟩
theorem Cd(h:Sz N4){w s:Int}(hw:0<=w/\w<360)(hs:s∈N4):(w*(R N4/s)).natAbs<2^80:=by
 have h1:=oQ h hs;rw[Vq];have:w.natAbs*(R N4/s).natAbs<=2^9*2^60:=V5 (by lia) (by lia);exact UD this (by decide)
theorem BU(h:Sz N4){ws:List Int}(hw:DG N4 ws)(hs:DG N4 xs):om [dU N4 levers,tI ws,tI xs]=M.ok (.int (LH N4 ws xs)):=by
 have l6:=h.h6;have k1:bG (cn 0 1) none (aj bV (aa 0) (aj bD (aa 2) (aa 1))) ((ws.zip N4).map λz=>.tup [.int z.1,.int z.2]) [none,none,some (.sh (.int (R N4)))]=M.ok ((ws.zip N4).map λz=>.int (z.1*(R N4/z.2))):=by
  refine jt (p:=λz:Int×Int=>PV.int z.1) (q:=λz:Int×Int=>PV.int z.2) (ws.zip N4) λz hz=>?_;obtain⟨m1,m2⟩:=lM hz;have a1:=h.hx z.2 m2;have a2:=sW h hw m1;have a3:=oQ h m2;dsimp? [aQ (i:=R N4) (show 0<z.2 by lia) (show z.2<2^64 by lia),bf (k:=64) (l:=64) (show z.1.natAbs<2^64 by lia) (show (R N4/z.2).natAbs<2^64 by lia)]
 have z1:(ws.zip N4).length<=sizeLine:=by rw[Uu];exact aX (TJ (Yd _ _) (by lia))
 let us:=(ws.zip N4).map λz=>z.1*(R N4/z.2)
 have k2:bG (cn 0 1) none (aj bV (aa 0) (aa 1)) ((us.zip xs).map λz=>.tup [.int z.1,.int z.2]) [none,none]=M.ok ((us.zip xs).map λz=>.int (z.1*z.2)):=by
  refine jt (p:=λz:Int×Int=>PV.int z.1) (q:=λz:Int×Int=>PV.int z.2) (us.zip xs) λz hz=>?_;obtain⟨m1,m2⟩:=lM hz;obtain⟨y,hy,e⟩:=T_.mp m1;obtain⟨n1,n2⟩:=lM hy;have a1:=Cd h (sW h hw n1) n2;rw[e] at a1;have a2:=sW h hs m2;dsimp? [bf (k:=80) (l:=64) a1 (show z.2.natAbs<2^64 by lia)]
 have z2:(us.zip xs).length<=sizeLine:=by rw[Uu];exact aX (TJ (Yd _ _) (by rw[hs.len];lia))
 have k3:jq [.lst ((ws.zip N4).map λz=>.int (z.1*(R N4/z.2))),tI xs,.int (R N4)]=M.ok (.int (LH N4 ws xs)):=by
  have e0:bO (.lst ((ws.zip N4).map λz=>PV.int (z.1*(R N4/z.2))))=some (us.map PV.int):=by
   rw[pD,TY];rfl
  have e1:wb [.lst ((us.zip xs).map λz=>PV.int (z.1*z.2))]=M.ok (.int ((us.zip xs).map λz=>z.1*z.2).sum):=by
   have:=v5 ((us.zip xs).map λz=>z.1*z.2);rw[TY] at this;exact this
  unfold jq jc;dsimp? [f9 (q:=tI xs) us xs e0 rfl,S0,av z2,k2,e1,aW (sL h)];rfl
 unfold om oq;dsimp? [lY (levers:=levers) h hw,lY (levers:=levers) h hs,bU,Nw,GJ,f9 (p:=tI ws) (q:=tI N4) ws N4 rfl rfl,S0,av z1,k1,k3]
theorem u_(xs:List Int):∀ m,m<=xs.length->(xs.take m).sum=bS m (vf xs)
 | 0,_=>by simp[bS]
 | m+1,h=>by
  rw[bS,<- u_ xs m (by lia),List.take_succ_eq_append_getElem (by lia),List.sum_append,aV (by lia)];simp
theorem vG(xs:List Int):xs.sum=bS xs.length (vf xs):=by
 rw[<- u_ xs _ (SX _),ZV]
theorem D6{ws:List Int}(h1:ws.length=N4.length)(h2:xs.length=N4.length):LH N4 ws xs=d_ N4.length (vf N4) (R N4) (vf ws) (vf xs)%R N4:=by
 unfold LH d_;rw[vG];have hl:((((ws.zip N4).map λz=>z.1*(R N4/z.2)).zip xs).map λz=>z.1*z.2).length=N4.length:=by simp;lia
 rw[hl];congr 1;refine dI λi hi=>?_;rw[aV (by rw[hl];exact hi),aV (by lia),aV (by lia),aV (by lia)];simp only[V4,VC];rw[Vo,Vn (R N4/_),<- Vo]
variable{T:List Row}{ns:List Int}
theorem wx(S:Sz N4):∀ i,i<N4.length->vf N4 i∣R N4:=λi hi=>by rw[aV hi];exact KU S (T6 hi)
def sQ(N4:List Int)(T:List Row):List Int:=(N4.zip (gK N4 T)).map λz=>z.1/z.2
theorem qr:(sQ N4 T).length=N4.length:=by simp[sQ,c9]
theorem ym(h:i<N4.length):vf (sQ N4 T) i=cF (vf N4) (DD T) i:=by
 have e:=lE (R:=T) h;rw[aV (by rw[c9];exact h)] at e;rw[aV (by rw[qr];exact h)];simp only[sQ,V4,VC];rw[e,<- aV h];rfl
theorem JF(h:j<n):yR n (j:Int)=some j:=by
 unfold yR;rw[if_pos (by lia),if_pos (by lia)];simp
theorem pQ{v:Int}{env:af}(h:j<xs.length):Gv i (xs.map PV.int) (.int v) env (.int (j:Int))=M.ok (.nx (env.set i (some (.ow ((xs.set j v).map PV.int))))):=by
 show (match yR (xs.map PV.int).length (j:Int) with | some j=>_ | none=>_)=_;rw[S0,JF h,List.map_set]
theorem mx{v:Int}(h:i<xs.length):vf (xs.set j v) i=if i=j then v else vf xs i:=by
 rw[aV (by rw[UH];exact h),List.getElem_set,aV h]
 by_cases z:i=j
 .rw[if_pos z,if_pos z.symm]
 .rw[if_neg z,if_neg (Vb z)]
theorem uQ(x:Int):Co (M.ok (.int x))=M.ok (.int x):=T7 rfl rfl
theorem xm(Q:iO ns N4 OA Ls T N6)(hd:d<N4.length):iN (bx [kK N4 Ls T N6,.int (d:Int)]) λp=>∃ W:List Int,p=tI W/\W.length=N4.length/\(∀ i,i<N4.length->0<=vf W i/\vf W i<vf N4 i)/\Wk N4.length (vf N4) (DD T) (R N4) d 0 (vf W):=by
 have l6:=Q.S.h6;have l1:=Q.S.h1;have g:=Q.st.gd;have rl:=Q.st.wf.len;have qd:=wx Q.S;have q0:=sL Q.S;have q1:=KP Q.S;have so:=l8 (N6:=N6) Q.S Q.st;have fl:∀ i,i<N4.length->0<cF (vf N4) (DD T) i/\cF (vf N4) (DD T) i<=vf N4 i/\vf N4 i<=360:=λi hi=>⟨(ip g hi).2.1,(ip g hi).2.2,(jC Q.S i hi).2⟩
 have key:bG (cn 0 1) none (aj bD (aa 0) (aa 1)) ((N4.zip (gK N4 T)).map λz=>.tup [.int z.1,.int z.2]) [none,none]=M.ok ((N4.zip (gK N4 T)).map λz=>.int (z.1/z.2)):=by
  refine jt (p:=λz:Int×Int=>PV.int z.1) (q:=λz:Int×Int=>PV.int z.2) (N4.zip (gK N4 T)) λz hz=>?_;obtain⟨i,hi,e⟩:=S8.mp (lM hz).2;rw[c9] at hi;have e2:=lE (R:=T) hi;rw[aV (by rw[c9];exact hi),e] at e2;have p:=g.pos hi;have:=jC Q.S i hi;dsimp? [aQ (i:=z.1) (j:=z.2) (by lia) (by lia)]
 have zl:(N4.zip (gK N4 T)).length<=sizeLine:=by rw[Uu];exact aX (TJ (Wb _ _) (by lia))
 have ef:PV.lst ((N4.zip (gK N4 T)).map λz=>PV.int (z.1/z.2))=lI (sQ N4 T):=by rw[lI,sQ,TY];rfl
 have wi:dj [.int (d:Int),.int 0,.int ((N4.length:Int)-1)]=M.ok (.bl true):=by
  rw[within_int,decide_eq_true (by lia)]
 have e0:vM (.lst [.int 0]) (.int (N4.length:Int))=M.ok ((SS N4.length 0).map PV.int):=by
  rw[vM,av ⟨by lia,by lia,by rw[TR];exact aX (by show 1*N4.length<=1000;lia)⟩,TR,lX,Vj]
 unfold bx cU;dsimp? [jn,LX,bU,GJ,wi,mj (m := "steps") rfl,so,f9 (p:=tI N4) (q:=tI (gK N4 T)) N4 (gK N4 T) rfl rfl,S0,av zl,key,ef,Ce,e0,IQ,ownAt,sS (xs:=sQ N4 T) (i:=d) (by rw[qr];exact hd),ym hd,jP (xs:=N4) (i:=d) hd,aW (i:=cF (vf N4) (DD T) d) (j:=vf N4 d) (by have:=fl d hd;lia),pQ (i:=4) (xs:=SS N4.length 0) (j:=d) (by simp;exact hd),vA d (by lia)];refine iN.loop (xs:=Tg d) (inj:=λ(i:Nat)=>.int ((d:Int)-1+(i:Int)*-1)) (λzs env=>∃ (c:Nat) (W:List Int) (y5 y6 y7:Option SV),env=[some (.sh (kK N4 Ls T N6)),some (.sh (.int (d:Int))),some (.sh (tI N4)),some (.sh (lI (sQ N4 T))),some (.ow (W.map PV.int)),y5,y6,y7]/\c<=d/\zs=(Tg d).drop c/\W.length=N4.length/\(∀ i,i<N4.length->0<=vf W i/\vf W i<vf N4 i)/\Wk N4.length (vf N4) (DD T) (R N4) d (d-c) (vf W)) ⟨0,_,_,_,_,rfl,by lia,rfl,by simp,λi hi=>?_,Wk.start g qd hd λi hi=>?_⟩ ?_ ?_
 .rw[mx (by simp;exact hi),fz];have:=fl i hi
  split
  .rename_i z;subst z;exact⟨Tz _ (by lia),To _ (by lia)⟩
  .lia
 .rw[mx (by simp;exact hi),fz]
 .rintro k r env ⟨c,W,y5,y6,y7,rfl,hc,hz,Wl,W0,Wt⟩;obtain⟨c1,c2,c3⟩:=drop_cons hz.symm;rw[Ue] at c1;have ek:k=c:=by rw[U_ c1] at c2;exact(Ti c2).symm
  subst ek;obtain⟨a,ha⟩:∃ a,a=d-1-k:=⟨_,rfl⟩
  have ea:((d:Int)-1+(k:Int)*-1)=(a:Int):=by lia
  have an:a<N4.length:=by lia
  have fa:=fl a an;have r1:=Q.st.wf.ly an;have rk:∀ i,i<N4.length->0<=vf (row T a).1 i/\vf (row T a).1 i<vf N4 i:=λi hi=>g.hZ a an i hi;have we:=BU (levers:=Ls) Q.S (oG Wl W0) (oG r1 rk);rw[D6 Wl r1] at we;have eq:vf (row T a).1=DD T a:=rfl;rw[eq] at we;have p0:0<=d_ N4.length (vf N4) (R N4) (vf W) (DD T a)%R N4:=Tz _ (by lia);have p1:d_ N4.length (vf N4) (R N4) (vf W) (DD T a)%R N4<R N4:=To _ q0;have fR:cF (vf N4) (DD T) a∣R N4:=UP ⟨_,(ip g an).1.symm⟩ (qd a an);have s0:0<R N4/cF (vf N4) (DD T) a:=by
   obtain⟨x,hx⟩:=fR;rw[hx,Th _ (by lia)];rcases Vt x 0 with q | q | q
   .have:=Vc fa.1 q;lia
   .rw[q] at hx;lia
   .exact q
  have s1:R N4/cF (vf N4) (DD T) a<=R N4:=Wv _ (by lia);have tw:PV.tup (W.map PV.int)=tI W:=rfl;dsimp? [bJ,ea,o_,ownAt,mQ,jn,LX,tw,MX,qy (rows:=T) (d:=a) (by lia),mR,we,uQ,bU,Nw,sS (xs:=sQ N4 T) (i:=a) (by rw[qr];exact an),ym an,aQ (i:=R N4) (j:=cF (vf N4) (DD T) a) (by lia) (by lia),aQ (i:=d_ N4.length (vf N4) (R N4) (vf W) (DD T a)%R N4) (j:=R N4/cF (vf N4) (DD T) a) (by lia) (by lia),aW (i:=-(d_ N4.length (vf N4) (R N4) (vf W) (DD T a)%R N4/(R N4/cF (vf N4) (DD T) a))) (j:=cF (vf N4) (DD T) a) (by lia),IQ,pQ (i:=4) (xs:=W) (j:=a) (by lia)];refine⟨_,rfl,k+1,_,_,_,_,rfl,by lia,c3.symm,by simpa using Wl,λi hi=>?_,?_⟩
  .rw[mx (by lia)]
   split
   .rename_i z;subst z;have h1:=Tz (-(d_ N4.length (vf N4) (R N4) (vf W) (DD T i)%R N4/(R N4/cF (vf N4) (DD T) i))) (show cF (vf N4) (DD T) i≠0 by lia);have h2:=To (-(d_ N4.length (vf N4) (R N4) (vf W) (DD T i)%R N4/(R N4/cF (vf N4) (DD T) i))) fa.1;lia
   .exact W0 i hi
  .rw[show d-(k+1)=a by lia];refine Wk.next g q0 qd hd (w:=vf W) (by rw[show a+1=d-k by lia];exact Wt) (by lia) ?_ λi hi QC=>?_
   .rw[mx (by lia),if_pos rfl]
   .rw[mx (by lia),if_neg QC]
 .rintro env ⟨c,W,y5,y6,y7,rfl,hc,hz,Wl,W0,Wt⟩;have:c=d:=by
   have:=congrArg Va hz;rw[Uc,Ue] at this;simp at this;lia
  subst this;rw[XA] at Wt;exact⟨_,rfl,W,rfl,Wl,W0,Wt⟩
theorem LG:rJ aw "levers" a_ (dU N4 Ls) (M.ok [])=M.ok (.tup (Ls.map tI)):=(kz (fl:=qj N4 Ls) rfl).trans (rW N4 Ls)
def ad(N4 xs ys:List Int)(t:Int):List Int:=wC ((xs.zip ys).map λz=>z.1+t*z.2) N4
theorem ql(S:Sz N4)(h1:xs.length=N4.length)(h2:ys.length=N4.length):(ad N4 xs ys t).length=N4.length/\∀ i,i<N4.length->vf (ad N4 xs ys t) i=(vf xs i+t*vf ys i)%vf N4 i:=by
 have hl:((xs.zip ys).map λz=>z.1+t*z.2).length=N4.length:=by simp;lia
 refine⟨by rw[ad,tV,iT,hl];simp,λi hi=>?_⟩;rw[ad,tV,jm (by rw[hl];exact hi) hi,aV (by rw[hl];exact hi),aV (xs:=xs) (by lia),aV (xs:=ys) (by lia)];simp
theorem zJ(S:Sz N4)(h1:xs.length=N4.length)(hy:Bd 200 ys)(ht:t.natAbs<2^200):lB [dU N4 Ls,tI xs,tI ys,.int t]=M.ok (tI (ad N4 xs ys t)):=by
 have l6:=S.h6;have k1:bG (cn 0 1) none (aj fW (aa 0) (aj bV (aa 2) (aa 1))) ((xs.zip ys).map λz=>.tup [.int z.1,.int z.2]) [none,none,some (.sh (.int t))]=M.ok ((xs.zip ys).map λz=>.int (z.1+t*z.2)):=by
  refine jt (p:=λz:Int×Int=>PV.int z.1) (q:=λz:Int×Int=>PV.int z.2) (xs.zip ys) λz hz=>?_;dsimp? [bf (k:=200) (l:=200) ht (hy _ (lM hz).2)]
 have z1:(xs.zip ys).length<=sizeLine:=by rw[Uu];exact aX (TJ (Wb _ _) (by lia))
 have e0:bO (.lst ((xs.zip ys).map λz=>PV.int (z.1+t*z.2)))=some (((xs.zip ys).map λz=>z.1+t*z.2).map PV.int):=by
  rw[pD,TY];rfl
 have r:=pP (.lst ((xs.zip ys).map λz=>PV.int (z.1+t*z.2))) (tI N4) _ N4 e0 rfl (IH S) (by rw[S0,Uu];lia);unfold lB oh;dsimp? [f9 (p:=tI xs) (q:=tI ys) xs ys rfl rfl,S0,av z1,k1,bU,GJ,r];rfl
structure Ws (N4:List Int) (T:List Row) (d:Nat) (W:List Int):Prop where
 len:W.length=N4.length
 hZ:∀ i,i<N4.length->0<=vf W i/\vf W i<vf N4 i
 wk:Wk N4.length (vf N4) (DD T) (R N4) d 0 (vf W)
def Sl(N4:List Int)(Ls:List (List Int))(u:List Int):Prop:=∀ l,l<Ls.length->R N4∣d_ N4.length (vf N4) (R N4) (vf u) (AA Ls l)
def Kp(N4 xs:List Int):Prop:=xs.length=N4.length/\∀ i,i<N4.length->0<=vf xs i/\vf xs i<vf N4 i
theorem Kp.JQ(h:Kp N4 xs):DG N4 xs:=oG h.1 h.2
theorem Kp.bd(S:Sz N4)(h:Kp N4 xs):Bd 200 xs:=k_ S h.1 h.2
theorem F5(S:Sz N4)(h1:xs.length=N4.length)(h2:ys.length=N4.length):Kp N4 (ad N4 xs ys t)/\∀ i,i<N4.length->vf N4 i∣vf (ad N4 xs ys t) i-(vf xs i+t*vf ys i):=by
 obtain⟨a,b⟩:=ql (t:=t) S h1 h2;refine⟨⟨a,λi hi=>?_⟩,λi hi=>?_⟩
 .have:=jC S i hi;rw[b i hi];exact⟨Tz _ (by lia),To _ this.1⟩
 .rw[b i hi];have:=WW (vf xs i+t*vf ys i) (vf N4 i);exact⟨-((vf xs i+t*vf ys i)/vf N4 i),by rw[this];grind⟩
theorem FJ(ns:List Int)(k:Nat)(hk:k<=100):∃ c,iz [.jV (ns.map PV.int),.int (k:Int)]=M.ok (.int c):=by
 unfold iz iA
 by_cases h:(k:Int)<(ns.length:Int)
 .have h':k<ns.length:=by lia
  exact⟨ns[k],by dsimp? [S0,h,decide_true,bR (p:=.jV (ns.map PV.int)) (j:=k) (x:=.int ns[k]) rfl (by rw[Tr,SW h'];rfl)]⟩
 .exact⟨((k:Int)+2)*104729%65537,by dsimp? [S0,h,decide_false,bf (i:=(k:Int)+2) (j:=104729) (k:=31) (l:=31) (by lia) (by decide),aW (i:=((k:Int)+2)*104729) (j:=65537) (by decide)]⟩
theorem xA(c:Int)(k:Nat)(hk:k<=100):∃ x,dC [.int c,.int (k:Int)]=M.ok (.int x)/\0<=x/\x<2147483579:=by
 obtain⟨a,ea,a0⟩:∃ a,cY (.int (c%2147483647*48271+7919*(k:Int)+13)) (.int 2147483629)=M.ok (.int a)/\0<=a/\a<2147483629:=⟨_,aW (by decide),Tz _ (by decide),To _ (by decide)⟩
 obtain⟨b,eb,b0⟩:∃ b,cY (.int (a*a+104729*(k:Int)+7)) (.int 2147483587)=M.ok (.int b)/\0<=b/\b<2147483587:=⟨_,aW (by decide),Tz _ (by decide),To _ (by decide)⟩
 refine⟨b*b%2147483579,?_,Tz _ (by decide),To _ (by decide)⟩;unfold dC fj;dsimp? [aW (i:=c) (j:=2147483647) (by decide),bf (i:=c%2147483647) (j:=48271) (k:=32) (l:=31) (by lia) (by decide),bf (i:=7919) (j:=(k:Int)) (k:=31) (l:=31) (by decide) (by lia),ea,bf (i:=a) (j:=a) (k:=32) (l:=32) (by lia) (by lia),bf (i:=104729) (j:=(k:Int)) (k:=31) (l:=31) (by decide) (by lia),eb,bf (i:=b) (j:=b) (k:=32) (l:=32) (by lia) (by lia),aW (i:=b*b) (j:=2147483579) (by decide)]
theorem mP(c:Int)(p:PV)(bases:List Int)(hp:bO p=some (bases.map PV.int))(hb:∀ b∈bases,0<b/\b<2^60)(hl:bases.length<=100):∃ xs:List Int,cG [.int c,p]=M.ok (tI xs)/\xs.length=bases.length/\∀ z∈xs.zip bases,0<=z.1/\z.1<z.2:=by
 suffices h:iN (cG [.int c,p]) λq=>∃ xs:List Int,q=tI xs/\xs.length=bases.length/\∀ z∈xs.zip bases,0<=z.1/\z.1<z.2 by
  obtain⟨_,e,xs,rfl,q⟩:=h;exact⟨xs,e,q⟩
 unfold cG da;dsimp? [iV,hp];refine iN.loop (xs:=bases) (inj:=PV.int) (λr env=>∃ (d xs:List Int) (left:Int) (y:Option SV),env=[some (.sh (.int left)),some (.sh p),some (.ow (xs.map PV.int)),y]/\bases=d++r/\xs.length=d.length/\∀ z∈xs.zip d,0<=z.1/\z.1<z.2) ⟨[],[],c,none,rfl,rfl,rfl,λ_ h=>nomatch h⟩ ?_ ?_
 .rintro b r env ⟨d,xs,left,y,rfl,hd,hx,hz⟩;have R_:=hb b (by rw[hd];simp);have dl:d.length<=100:=by
   have:=congrArg Va hd;rw[TM] at this;lia
  dsimp? [bJ,xR,ownAt,aW (i:=left) R_.1,xX (xs:=xs.map PV.int) (show (xs.map PV.int).length<1000 by simp;lia),rK,aQ (i:=left) R_.1 (show b<2^64 by lia)];refine⟨_,rfl,d++[b],xs++[left%b],left/b,_,rfl,by rw[hd];simp,by simp[hx],λz QJ=>?_⟩;rw[aad hx] at QJ;rcases UG.mp QJ with q | q
  .exact hz z q
  .rw[Uw,WM] at q;rw[Ui.mp q];exact⟨Tz _ (by lia),To _ R_.1⟩
 .rintro env ⟨d,xs,left,y,rfl,hd,hx,hz⟩;rw[Ul] at hd;subst hd;dsimp? [];exact⟨_,rfl,xs,rfl,hx,hz⟩
theorem Fs(c:Int):∃ x,eH [.int c]=M.ok (.int x)/\2<=x/\x<=360:=by
 obtain⟨v,hv,ev⟩:=pick [2,3,4,6,8,9,12] (c/3) 7 rfl (by decide);obtain⟨w,hw,ew⟩:=pick [1,2,5,10,30] (c/21) 5 rfl (by decide);rw[show ((7:Nat):Int)=7 from rfl] at ev;rw[show ((5:Nat):Int)=5 from rfl] at ew;have v1:2<=v/\v<=12:=by simp at hv;lia
 have w1:1<=w/\w<=30:=by simp at hw;lia
 unfold eH ir
 by_cases h:c%3=0
 .refine⟨2+c/3%359,?_,by lia,by lia⟩;dsimp? [aW (i:=c) (j:=3) (by decide),h,decide_true,aQ (i:=c) (j:=3) (by decide) (by decide),aW (i:=c/3) (j:=359) (by decide)]
 .refine⟨v*w,?_,?_,?_⟩
  .simp only[Tw,V6] at ev ew;dsimp? [aW (i:=c) (j:=3) (by decide),h,decide_false,aQ (i:=c) (j:=3) (by decide) (by decide),aW (i:=c/3) (j:=7) (by decide),ev,aQ (i:=c) (j:=21) (by decide) (by decide),aW (i:=c/21) (j:=5) (by decide),ew,bf (i:=v) (j:=w) (k:=31) (l:=31) (by lia) (by lia)]
  .have:2*1<=v*w:=Y6 v1.1 w1.1 (by decide) (by lia);lia
  .have:v*w<=12*30:=Y6 v1.2 w1.2 (by lia) (by decide);lia
theorem zd(c:Int):iN (gJ [.int c]) λp=>∃ xs:List Int,p=lI xs/\Sz xs:=by
 unfold gJ gS;dsimp? [aW (i:=c) (j:=2) (by decide)];rcases two (c:=c) with h | h
 .obtain⟨m,em,m1,m6⟩:∃ m:Nat,1+c/2%6=(m:Int)/\1<=m/\m<=6:=⟨(1+c/2%6).toNat,by lia,by lia,by lia⟩
  simp only[h,decide_true];obtain⟨xs,ex,xl,xb⟩:=mP (c/12) (.lst (SS m (.int 359))) (SS m 359) (by rw[Vj];rfl) (λb hb=>by rw[DT hb];decide) (by simp;lia);rw[W3] at xl;dsimp? [aQ (i:=c) (j:=2) (by decide) (by decide),aW (i:=c/2) (j:=6) (by decide),em,aQ (i:=c) (j:=12) (by decide) (by decide),Cw (.int 359) m (by lia),ex,S0,av (aX (show xs.length<=1000 by lia)),gj (f:=aj fW (λ_=>M.ok (.int 2)) (aa 0)) (inj:=PV.int) (h:=λx=>.int (2+x)) (rest:=[]) (x0:=none) xs λa _=>by dsimp? []];refine⟨_,rfl,xs.map (2+·),by rw[lI,TY];rfl,by simp;lia,by simp;lia,λx hx=>?_⟩;obtain⟨y,hy,rfl⟩:=T_.mp hx;obtain⟨i,hi,rfl⟩:=S8.mp hy;have:=xb (xs[i],359) (S8.mpr ⟨i,by simp;lia,by simp⟩);simp at this;lia
 .simp only[h,show ¬ (1:Int)=0 by decide,decide_false];obtain⟨v,hv,ev⟩:=pick [1,2,3,4,2,3,5,6] (c/2) 8 rfl (by decide);rw[show ((8:Nat):Int)=8 from rfl] at ev;simp only[Tw,V6] at ev;obtain⟨m,rfl,m1,m6⟩:∃ m:Nat,v=(m:Int)/\1<=m/\m<=6:=⟨v.toNat,by simp at hv;lia,by simp at hv;lia,by simp at hv;lia⟩
  have ex:∀ k:Nat,∃ x:Int,k<=100->(∃ y,dC [.int (c/16),.int (k:Int)]=M.ok (.int y)/\eH [.int y]=M.ok (.int x))/\2<=x/\x<=360:=λk=>by
   by_cases hk:k<=100
   .obtain⟨y,ey,_⟩:=xA (c/16) k hk;obtain⟨x,e,q⟩:=Fs y;exact⟨x,λ_=>⟨⟨y,ey,e⟩,q⟩⟩
   .exact⟨0,λh=>(hk h).elim⟩
  obtain⟨f,hf⟩:=Z0.mp ex;have key:bG (bJ 0) none (ai eH (ae (ai dC (ae (aj bD (aa 1) (λ_=>M.ok (.int 16))) (ae (aa 0) ak))) ak)) ((Tg m).map λ(i:Nat)=>.int (i:Int)) [none,some (.sh (.int c))]=M.ok ((Tg m).map λk=>.int (f k)):=by
   refine gj (inj:=λ(i:Nat)=>PV.int (i:Int)) (Tg m) λi hi=>?_;have:=UA.mp hi;obtain⟨⟨y,e1,e2⟩,_⟩:=hf i (by lia);dsimp? [aQ (i:=c) (j:=16) (by decide) (by decide),e1,e2]
  dsimp? [aQ (i:=c) (j:=2) (by decide) (by decide),aW (i:=c/2) (j:=8) (by decide),ev,hU (n:=(m:Int)) (by lia) (by lia),TR,S0,Ue,av (aX (show m<=1000 by lia)),key];refine⟨_,rfl,(Tg m).map f,by rw[lI,TY];rfl,by simp;lia,by simp;lia,λx hx=>?_⟩;obtain⟨k,hk,rfl⟩:=T_.mp hx;have:=UA.mp hk;exact(hf k (by lia)).2
theorem Ii(hl:xs.length=ys.length)(h:∀ z∈xs.zip ys,0<=z.1/\z.1<z.2):∀ i,i<ys.length->0<=vf xs i/\vf xs i<vf ys i:=λi hi=>by
 have:=h (xs[i]'(by lia),ys[i]) (S8.mpr ⟨i,by simp;lia,by simp⟩);rw[aV (by lia),aV hi];exact this
theorem zT(S:Sz N4)(c:Int):iN (dR [.int c,lI N4]) λp=>∃ xs:List Int,p=tI xs/\xs.length=N4.length/\∀ z∈xs.zip N4,0<=z.1/\z.1<z.2:=by
 have l6:=S.h6;unfold dR gP;dsimp? [aW (i:=c) (j:=2) (by decide)];rcases two (c:=c) with h | h
 .simp only[h,decide_true];obtain⟨xs,ex,xl,xb⟩:=mP (c/2) (lI N4) N4 rfl (λb hb=>by have:=S.hx b hb;lia) (by lia);dsimp? [aQ (i:=c) (j:=2) (by decide) (by decide),ex];exact⟨_,rfl,xs,rfl,xl,xb⟩
 .simp only[h,show ¬ (1:Int)=0 by decide,decide_false];obtain⟨v,hv,ev⟩:=pick [1,2,3,6,12,30] (c/2) 6 rfl (by decide);rw[show ((6:Nat):Int)=6 from rfl] at ev;simp only[Tw,V6] at ev;have v1:1<=v/\v<=30:=by simp at hv;lia
  dsimp? [aQ (i:=c) (j:=2) (by decide) (by decide),aW (i:=c/2) (j:=6) (by decide),ev,iV,Iu];refine iN.loop (xs:=N4.zipIdx) (inj:=λz=>.tup [.int (z.2:Int),.int z.1]) (λr env=>∃ (d ss:List Int) (y4 y5 y6:Option SV),env=[some (.sh (.int c)),some (.sh (lI N4)),some (.sh (.int v)),some (.ow (ss.map PV.int)),y4,y5,y6]/\N4=d++r.map (·.1)/\ss.length=d.length/\(∀ z∈ss.zip d,0<=z.1/\z.1<z.2)/\∀ z∈r,z∈N4.zipIdx) ⟨[],[],_,_,_,rfl,by simp,rfl,(λ_ h=>nomatch h),λz h=>h⟩ ?_ ?_
  .rintro⟨s,i⟩ r env ⟨d,ss,y4,y5,y6,rfl,hd,hl,hz,hm⟩;have hi:=wB (hm (s,i) Tp);have hs:=S.hx s (by rw[hd];simp);obtain⟨x,ex,x0,x1⟩:=xA (c/12) i (by lia);have dl:d.length<=6:=by
    have:=congrArg Va hd;simp at this;lia
   have b1:(x/4*v).natAbs<2^62:=by
    rw[Vq];have:(x/4).natAbs*v.natAbs<=2^30*2^5:=V5 (by lia) (by lia);exact UD this (by decide)
   have m0:0<=x/4*v%s/\x/4*v%s<s:=⟨Tz _ (by lia),To _ (by lia)⟩
   obtain⟨o,eo,ho⟩:∃ o:Int,xT [.bl (decide (0<x%4))]=M.ok (.int o)/\(o=0\/o=1):=by
    by_cases q:0<x%4
    .exact⟨1,by rw[decide_eq_true q];rfl,.inr rfl⟩
    .exact⟨0,by rw[decide_eq_false q];rfl,.inl rfl⟩
   dsimp? [cn,aQ (i:=c) (j:=12) (by decide) (by decide),ex,xR,ownAt,aQ (i:=x) (j:=4) (by decide) (by decide),bf (i:=x/4) (j:=v) (k:=31) (l:=31) (by lia) (by lia),aW (i:=x/4*v) (j:=s) (by lia),aW (i:=x) (j:=4) (by decide),eo,bf (i:=x/4*v%s) (j:=o) (k:=31) (l:=31) (by lia) (by lia),xX (xs:=ss.map PV.int) (show (ss.map PV.int).length<1000 by simp;lia),rK];refine⟨_,rfl,d++[s],ss++[x/4*v%s*o],_,_,_,rfl,by rw[hd];simp,by simp[hl],λz QJ=>?_,λz h=>hm z (Tf _ h)⟩;rw[aad hl] at QJ;rcases UG.mp QJ with q | q
   .exact hz z q
   .rw[Uw,WM] at q;rw[Ui.mp q];rcases ho with rfl | rfl <;> simp <;> lia
  .rintro env ⟨d,ss,y4,y5,y6,rfl,hd,hl,hz,_⟩;rw[V6,Ul] at hd;subst hd;dsimp? [];exact⟨_,rfl,ss,rfl,hl,hz⟩
variable{W:List Int}{Ov:List (List Int)}{T':List Row}
variable{l:List Int}
variable{v:bN}
section
variable{OK:List (List Int)}{P:List Int}
theorem p8(Q:iO ns N4 OA Ls T N6){d:List Int}(h:Kp N4 d):lst N4 Ls T d=SS N4.length 0 ↔ G N4.length (vf N4) (DD T) N4.length 0 (vf d):=by
 obtain⟨b1,b2,b3,b4⟩:=sk Q.st h.1 h.2;constructor
 .intro z;exact G.ext (by lia) (λi hi=>by rw[z,fz];lia) b4
 .intro gx;refine uu (by simpa using b1) λi hi=>?_;have g:=Q.st.gd.sub (by lia) gx b4;have:=G.diff Q.st.gd N4.length 0 (λi=>vf (lst N4 Ls T d) i) (by lia) (λi hi=>by have:=b3 i hi;lia) (λi _ hi=>by have:=b2 i hi;lia) (G.ext (by lia) (λi _=>by lia) g) i (by lia);rw[fz];exact this
theorem n8{xs:List Int}(hx:∀ x∈xs,0<x/\x<2^60):∀ c,c<=xs.length->0<aC c (vf xs)/\aC c (vf xs)<2^(60*c+1)
 | 0,_=>⟨show (0:Int)<1 by decide,show (1:Int)<2^1 by decide⟩
 | c+1,h=>by
  obtain⟨a,b⟩:=n8 hx c (by lia);have q:=hx (vf xs c) (by rw[aV (by lia)];exact T6 _);show 0<aC c (vf xs)*vf xs c/\aC c (vf xs)*vf xs c<_;refine⟨Y5 a q.1,?_⟩;have e:(2:Int)^(60*(c+1)+1)=2^(60*c+1)*2^60:=by rw[show 60*(c+1)+1=60*c+1+60 by lia,Int.pow_add]
  rw[e];exact Int.lt_of_lt_of_le (Int.mul_lt_mul_of_pos_right b q.1) (T8 (by lia) (WY (Int.lt_trans a b)))
theorem o7{a:Int}(h:0<a/\a<2^k):a.natAbs<2^k:=by
 have:(a.natAbs:Int)<((2^k:Nat):Int):=by
  rw[Int.natAbs_of_nonneg (by lia)];push_cast;exact h.2
 exact Int.ofNat_lt.mp this
theorem nh(Q:iO ns N4 OA Ls T N6):(C7 N6).length=Ls.length/\(∀ x∈C7 N6,0<x/\x<2^60)/\aC Ls.length (vf (C7 N6))=aC Ls.length λj=>II N6 j j:=by
 have il:=Q.I.len;refine⟨by rw[oa,il],λx hx=>?_,dQ λj hj=>AH (by lia)⟩;obtain⟨i,hi,rfl⟩:=S8.mp hx;rw[oa,il] at hi;have:=AH (N6:=N6) (i:=i) (by lia);rw[aV (by rw[oa];lia)] at this;rw[this];exact⟨Q.I.pos i hi,Q.I.le i hi⟩
theorem Fj{t:af->M Bool}{f:af->M PV}{inj h:α->PV}{b:α->Bool}{rest:af}{x0:Option SV}(xs:List α)(Ht:∀ a∈xs,t (some (.sh (inj a))::rest)=M.ok (b a))(H:∀ a∈xs,f (some (.sh (inj a))::rest)=M.ok (h a)):bG (bJ 0) (some t) f (xs.map inj) (x0::rest)=M.ok ((xs.filter b).map h):=by
 induction xs generalizing x0 with
 | nil=>rfl
 | cons a r ih =>
  have i:=ih (x0:=some (.sh (inj a))) (λc hc=>Ht c (Tf _ hc)) λc hc=>H c (Tf _ hc);rw[Tw,bG];show M.bind (M.ok ((x0::rest).set 0 (some (.sh (inj a))))) _=_;rw[M.aM,Vg];show M.bind (t _) _=_;rw[Ht a Tp,M.aM];cases e:b a with
  | true=>rw[if_pos rfl,H a Tp,M.aM,i,List.filter_cons_of_pos e];rfl
  | false=>rw[if_neg (by simp),i,List.filter_cons_of_neg (by simp[e])]
theorem xV(h:T.length<=1000):eT [kK N4 Ls T N6]=M.ok (.lst (T.map λr=>tI r.1)):=by
 have key:bG (bJ 0) none (aj aS (aa 0) (λ_=>M.ok (.int 0))) (T.map mk) [none]=M.ok (T.map λr=>tI r.1):=gj T λr _=>by dsimp? [show aS (mk r) (.int 0)=M.ok (tI r.1) from bR (j:=0) rfl rfl]
 unfold eT eP;dsimp? [jn,MX,S0,av (aX h),key]
def nz(n:Nat)(T:List Row):List (List Int):=(T.filter λr=>!decide (r.1=SS n 0)).map (·.1)
theorem BJ(h:l∈nz n T):∃ d,d<T.length/\(row T d).1=l:=by
 obtain⟨r,hr,rfl⟩:=T_.mp h;obtain⟨d,hd,e⟩:=S8.mp (Xi.mp hr).1;exact⟨d,hd,by rw[eY hd,e]⟩
theorem Hf(h:d<T.length)(z:(row T d).1≠SS n 0):(row T d).1∈nz n T :=
 T_.mpr ⟨row T d,Xi.mpr ⟨by rw[eY h];exact T6 _,by simpa using z⟩,rfl⟩
theorem mX(Q:iO ns N4 OA Ls T N6):∃ Wf:Nat->List Int,∀ d,d<N4.length->bx [kK N4 Ls T N6,.int (d:Int)]=M.ok (tI (Wf d))/\Ws N4 T d (Wf d):=by
 have h:∀ d:Nat,∃ W,d<N4.length->bx [kK N4 Ls T N6,.int (d:Int)]=M.ok (tI W)/\Ws N4 T d W:=λd=>by
  by_cases hd:d<N4.length
  .obtain⟨_,e,W,rfl,a,b,c⟩:=xm Q hd;exact⟨W,λ_=>⟨e,a,b,c⟩⟩
  .exact⟨[],λh=>absurd h hd⟩
 exact⟨λd=>Yj (h d),λd hd=>W4 (h d) hd⟩
theorem BC{A:Nat->bN}{P:bN}(g:Good n (vf N4) (DD T))(h:∀ l,l<m->G n (vf N4) (DD T) n 0 (A l))(led:∀ i,i<n->vf N4 i∣v i-bS m λl=>P l*A l i):G n (vf N4) (DD T) n 0 v :=
 g.nr (by lia) led (G.sum (A:=A) (P:=P) g m h)
theorem cancel{a y c:Int}(ha:0<a)(h1:a*x=c)(h2:y*a=c):x=y:=by
 rw[Vn] at h2;exact TZ (by lia) (h1.trans h2.symm)
theorem sT(h:l∈Ls):∃ k,k<Ls.length/\AA Ls k=vf l:=by
 obtain⟨k,hk,e⟩:=S8.mp h;exact⟨k,hk,by unfold AA;rw[S6,SW hk,Vf,e]⟩
theorem oS(Q:iO ns N4 OA Ls T N6):∃ OK T' Ov,kf [dU N4 Ls]=M.ok (dU N4 OK)/\iO ns N4 (nz N4.length T) OK T' Ov/\OK=nz N4.length T:=by
 have tl:=Q.st.wf.len;have l6:=Q.S.h6;have kp:∀ l∈nz N4.length T,Kp N4 l:=λl hl=>by
  obtain⟨d,hd,rfl⟩:=BJ hl;exact⟨Q.st.wf.ly (by lia),Q.st.gd.hZ d (by lia)⟩
 have nl:(nz N4.length T).length<=T.length:=by unfold nz;rw[S0];exact YS _ _
 obtain⟨OK,T',Ov,Q'⟩:=iO.get ns Q.S (OA:=nz N4.length T) (by lia) λl hl=>⟨(kp l hl).1,(kp l hl).bd Q.S⟩
 refine⟨OK,T',Ov,?_,Q',?_⟩
 .have key:bG (bJ 0) (some (eX (aj ou (aa 0) (aa 1)))) (aa 0) (T.map λr=>tI r.1) [none,some (.sh (tI (SS N4.length 0)))]=M.ok ((nz N4.length T).map tI):=by
   have:=Fj (t:=eX (aj ou (aa 0) (aa 1))) (f:=aa 0) (inj:=λr:Row=>tI r.1) (h:=λr:Row=>tI r.1) (b:=λr=>!decide (r.1=SS N4.length 0)) (rest:=[some (.sh (tI (SS N4.length 0)))]) (x0:=none) T (λr _=>by dsimp? [wX]) (λr _=>by dsimp? []);rw[this,nz,TY];rfl
  unfold kf lU;dsimp? [i6 (Ls:=Ls) Q.S.h6,bU,GJ,Q.Gq,mj (m := "rows") rfl,xV (T:=T) (by lia),S0,av (aX (show T.length<=1000 by lia)),key,Q'.La (f:=tI) (p:=tI N4) (.inl rfl) rfl]
 .rw[Q'.eL];exact(WA λl hl=>p6 (kp l hl).JQ).trans (Xg _)
abbrev GT(N4:List Int)(T:List Row)(v:bN):Prop:=G N4.length (vf N4) (DD T) N4.length 0 v
structure LU (ns N4:List Int) (Ls:List (List Int)) (T:List Row) (N6:List (List Int)) (OK:List (List Int)) (T':List Row) (Ov:List (List Int)):Prop where
 Q:(∃ PU,iO ns N4 PU OK T' Ov)/\OK.length<=N4.length
 cw:∃ QK Rh T1 P8,iO ns N4 QK Rh T1 P8/\OK=nz N4.length T1/\∀ v,GT N4 T1 v ↔ GT N4 T' v
 ev:gY [dU N4 Ls]=M.ok (dU N4 OK)
 c2:aC OK.length (λj=>II Ov j j)=aC N4.length (aL (vf N4) (DD T))
 c3:aC N4.length (aL (vf N4) (DD T'))=aC Ls.length λj=>II N6 j j
 dead:∀ l,l<OK.length->∀ b,b<N4.length->R N4∣d_ N4.length (vf N4) (R N4) (AA OK l) (DD T b)
 all:∀ u:bN,(∀ b,b<N4.length->R N4∣d_ N4.length (vf N4) (R N4) u (DD T b))->G N4.length (vf N4) (DD T') N4.length 0 u
theorem r0(Q:iO ns N4 OA Ls T N6):∃ OK T' Ov,LU ns N4 Ls T N6 OK T' Ov:=by
 have S:=Q.S;have l6:=S.h6;have g:=Q.st.gd;have hq:=wx S;have hQ:=sL S;obtain⟨Wf,hW⟩:=mX Q;have kp:∀ l∈(Tg N4.length).map Wf,Kp N4 l:=λl hl=>by
  obtain⟨d,hd,rfl⟩:=T_.mp hl;exact⟨(hW d (UA.mp hd)).2.len,(hW d (UA.mp hd)).2.hZ⟩
 obtain⟨Rh,T1,P8,Q1⟩:=iO.get ns S (OA:=(Tg N4.length).map Wf) (by simp;lia) λl hl=>⟨(kp l hl).1,(kp l hl).bd S⟩
 have eL:Rh=(Tg N4.length).map Wf:=by rw[Q1.eL];exact(WA λl hl=>p6 (kp l hl).JQ).trans (Xg _)
 have L1:Rh.length=N4.length:=by rw[eL];simp
 have eA:∀ d,d<N4.length->AA Rh d=vf (Wf d):=λd hd=>by
  unfold AA;rw[eL,S6,Tr,U_ hd];rfl
 have wk:∀ d,d<N4.length->Wk N4.length (vf N4) (DD T) (R N4) d 0 (AA Rh d):=λd hd=>by rw[eA d hd];exact(hW d hd).2.wk
 have I1:=Q1.I;have o1:=Q1.ord;have p1:=Q1.pr;have s1:=Q1.st;rw[L1] at I1 o1 p1 s1;have sp:=EJ g hQ hq wk (J:=II P8) I1.pos I1.zero I1.qC o1;obtain⟨OK,T',Ov,ec,Q',RX⟩:=oS Q1;have g1:=s1.gd;have g':=Q'.st.gd;have t1:=s1.wf.len;have a1:∀ l,l<OK.length->∃ d,d<N4.length/\AA OK l=DD T1 d:=λl hl=>by
  obtain⟨d,hd,e⟩:=BJ (T:=T1) (n:=N4.length) (l:=OK[l]) (by rw[<- RX];exact T6 _);refine⟨d,by lia,?_⟩;unfold AA DD;rw[S6,SW hl,Vf,e]
 have i1:∀ d,d<N4.length->G N4.length (vf N4) (DD T1) N4.length 0 (DD T' d):=λd hd=>BC g1 (λl hl=>by
  obtain⟨e,he,ea⟩:=a1 l hl;rw[ea];exact g1.row he (by lia) (S9 _)) (Q'.st.led d hd)
 have i2:∀ d,d<N4.length->G N4.length (vf N4) (DD T') N4.length 0 (DD T1 d):=λd hd=>by
  by_cases z:(row T1 d).1=SS N4.length 0
  .exact G.ext (by lia) (λi hi=>by show 0=vf (row T1 d).1 i;rw[z,fz]) (G.zero (by lia))
  .obtain⟨k,hk,e⟩:=sT (Ls:=OK) (l:=(row T1 d).1) (by rw[RX];exact Hf (by lia) z);show G N4.length (vf N4) (DD T') N4.length 0 (vf (row T1 d).1);rw[<- e];exact Q'.st.cl k (by lia)
 have se:=Cn g1 g' i1 i2;have pe:aC N4.length (λj=>II P8 j j)=aC N4.length (aL (vf N4) (DD T)):=dQ sp;have pa:0<aC N4.length (aL (vf N4) (DD T)):=dO λl hl=>(g.pos hl).1;have c3:aC N4.length (aL (vf N4) (DD T'))=aC Ls.length λj=>II N6 j j:=by
  rw[<- dQ se];exact cancel pa (by rw[<- pe];exact p1) Q.pr
 have pb:0<aC Ls.length (λj=>II N6 j j):=dO λl hl=>Q.I.pos l hl;refine⟨OK,T',Ov,⟨⟨_,Q'⟩,by rw[RX,<- t1];unfold nz;rw[S0];exact YS _ _⟩,⟨_,_,T1,_,Q1,RX,λv=>⟨uo g' i2 N4.length 0 v (by lia),uo g1 i1 N4.length 0 v (by lia)⟩⟩,?_,?_,c3,λl hl b hb=>?_,λu hu=>?_⟩
 .have key:bG (bJ 0) none (bo ar "weights_at" bx (aa 1) (ae (aa 0) ak)) ((Tg N4.length).map λ(i:Nat)=>.int (i:Int)) [none,some (.sh (kK N4 Ls T N6))]=M.ok (((Tg N4.length).map Wf).map tI):=by
   rw[TY];refine gj (inj:=λ(i:Nat)=>PV.int (i:Int)) (Tg N4.length) λi hi=>?_;dsimp? [bU,mj (m := "weights_at") rfl,(hW i (UA.mp hi)).1];rfl
  unfold gY j0;dsimp? [Q.Gq,bU,GJ,hU (n:=(N4.length:Int)) (by lia) (by lia),TR,S0,Ue,av (aX (show N4.length<=1000 by lia)),key,Q1.La (f:=tI) (p:=tI N4) (.inl rfl) rfl,ec]
 .have:=Q'.pr;rw[c3] at this;exact(cancel pb Q.pr this).symm
 .obtain⟨d,hd,e⟩:=a1 l hl;rw[e];exact By hq wk (t:=PP T1 d) (s1.led d hd) hb
 .obtain⟨t,_,ht⟩:=kX g hQ hq wk N4.length (SX _) u (λi h1 h2=>by lia) hu;exact BC g' (λd hd=>uo g' i2 N4.length 0 _ (by lia) (s1.cl d (by lia))) ht
theorem iO.kp(Q:iO ns N4 OA Ls T N6):∀ l∈Ls,Kp N4 l:=λl hl=>by
 obtain⟨k,hk,e⟩:=sT hl;have a:=Q.LL.at_ k hk;have b:=Q.LL.hZ k hk;rw[e] at b;obtain⟨k',RC,e'⟩:=S8.mp hl;have c:=Q.LL.at_ k' RC;rw[S6,SW RC,Vf,e'] at c;exact⟨c,b⟩
theorem lT(S:Sz N4):Kp N4 (SS N4.length 0):=⟨by simp,Cz S⟩
end
variable{H:bN->Prop}
section
variable{PU OK L X Y rX:List (List Int)}{TL TX:List Row}{iL iX:List (List Int)}{q r s:PV}{K:bN->Prop}
structure Pn (N4:List Int) (Ls:List (List Int)) (T:List Row) (N6:List (List Int)):Prop where
 S:Sz N4
 gd:Good N4.length (vf N4) (DD T)
 ld:∀ d,d<N4.length->∃ P,Led N4.length (vf N4) Ls.length (AA Ls) (DD T d) P
 cl:∀ l,l<Ls.length->GT N4 T (AA Ls l)
 I:yu N4.length Ls.length (vf N4) (AA Ls) Ls.length N6
 pr:aC Ls.length (λj=>II N6 j j)*aC N4.length (aL (vf N4) (DD T))=aC N4.length (vf N4)
 ord:∀ j,j<Ls.length->∀ P:bN,Zf (j+1) Ls.length P->Led N4.length (vf N4) Ls.length (AA Ls) (λ_=>0) P->II N6 j j∣P j
theorem iO.pn(Q:iO ns N4 OA Ls T N6):Pn N4 Ls T N6:=⟨Q.S,Q.st.gd,λd hd=>⟨_,Q.st.led d hd⟩,λl hl=>Q.st.cl l (by lia),Q.I,Q.pr,Q.ord⟩
theorem Pn.led(Q:Pn N4 Ls T N6)(h:GT N4 T v):∃ P,Led N4.length (vf N4) Ls.length (AA Ls) v P:=by
 have key:∀ k d (v:bN),d+k=N4.length->G N4.length (vf N4) (DD T) k d v->∃ P,Led N4.length (vf N4) Ls.length (AA Ls) v P:=by
  intro k
  induction k with
  | zero=>intro d v _ h;exact⟨λ_=>0,λi hi=>by rw[dI (g:=λ_=>0) λl _=>by simp,fu];simpa using h i hi⟩
  | succ k ih =>
   intro d v hn h;obtain⟨P,hP⟩:=ih (d+1) _ (by lia) h.2;obtain⟨P',hP'⟩:=Q.ld d (by lia);exact⟨_,Led.mix (a:=1) (b:=v d/aL (vf N4) (DD T) d) hP hP' (λi hi=>⟨0,by lia⟩) λl _=>rfl⟩
 exact key _ 0 v (by lia) h
theorem iO.led(Q:iO ns N4 OA Ls T N6){v:bN}(h:GT N4 T v):∃ P,Led N4.length (vf N4) Ls.length (AA Ls) v P:=Q.pn.led h
theorem iO.LO(Q:iO ns N4 OA Ls T N6){l:Nat}(h:l<Ls.length):GT N4 T (AA Ls l):=Q.st.cl l (by lia)
theorem iO.kept(ns:List Int)(S:Sz N4){L:List (List Int)}(h8:L.length<=8)(h:∀ l∈L,Kp N4 l):∃ T N6,iO ns N4 L L T N6:=by
 obtain⟨Ls,T,N6,Q⟩:=iO.get ns S h8 λl hl=>⟨(h l hl).1,(h l hl).bd S⟩
 have e:Ls=L:=by rw[Q.eL];exact(WA λl hl=>p6 (h l hl).JQ).trans (Xg _)
 subst e;exact⟨T,N6,Q⟩
theorem sep(Q:iO ns N4 OA Ls T N6)(h:∀ u:bN,(∀ b,b<N4.length->R N4∣d_ N4.length (vf N4) (R N4) u (DD T b))->R N4∣d_ N4.length (vf N4) (R N4) u v):GT N4 T v:=by
 have S:=Q.S;have hq:=wx S;obtain⟨xs,kx,dv⟩:∃ xs,Kp N4 xs/\∀ i,i<N4.length->vf N4 i∣vf xs i-v i:=by
  have e:∀ i,i<N4.length->vf ((Tg N4.length).map λi=>v i%vf N4 i) i=v i%vf N4 i:=λi hi=>by
   rw[aV (by simpa using hi)];simp
  refine⟨(Tg N4.length).map λi=>v i%vf N4 i,⟨by simp,λi hi=>?_⟩,λi hi=>?_⟩
  .rw[e i hi];have:=jC S i hi;exact⟨Tz _ (by lia),To _ (by lia)⟩
  .rw[e i hi];exact dr _ _
 suffices gx:GT N4 T (vf xs) from Q.st.gd.nr (by lia) (λi hi=>by
  obtain⟨x,hx⟩:=dv i hi;exact⟨-x,by rw[Y4,<- hx];lia⟩) gx
 apply Wy;intro ng;obtain⟨b1,b2,b3,b4⟩:=sk Q.st kx.1 kx.2;have z:¬ lst N4 Ls T xs=SS N4.length 0:=λe=>ng ((p8 Q kx).mp e);have ex:∃ c,c<N4.length/\(∀ i,i<c->vf (lst N4 Ls T xs) i=0)/\vf (lst N4 Ls T xs) c≠0:=by
  have:¬ ∀ c,c<=N4.length->∀ i,i<c->vf (lst N4 Ls T xs) i=0:=λh=>z (uu (by simpa using b1) λi hi=>by rw[fz];exact h N4.length (SX _) i (by lia));apply Wy;intro no;refine this λc=>?_
  induction c with
  | zero=>intro _ i hi;lia
  | succ c ih =>
   intro hc i hi;rcases Zs (Nat.le_of_lt_succ hi) with q | q
   .exact ih (by lia) i q
   .subst q;apply Wy;intro nz;exact no ⟨i,by lia,ih (by lia),nz⟩
 obtain⟨c,hc,c0,c1⟩:=ex;obtain⟨Wf,hW⟩:=mX Q;have w:=(hW c hc).2;have r:=b3 c hc;refine Wk.first Q.st.gd (sL S) hq hc w.wk c0 (by lia) (b2 c hc).2 ?_;have k1:=h (vf (Wf c)) λb hb=>w.wk.kill b (S9 _) hb;have k2:=rS (w:=vf (Wf c)) hq N4.length 0 _ (by lia) (λb _ hb=>w.wk.kill b (S9 _) hb) b4;rw[dh] at k1 k2 ⊢;exact k8 hq (a:=1) (b:=-1) (λi hi=>by
  obtain⟨x,hx⟩:=dv i hi;exact⟨x,by rw[<- hx];lia⟩) k1 k2
def Vr(ns N4:List Int)(p:PV)(H:bN->Prop):Prop:=∃ OA Ls T N6,p=dU N4 Ls/\iO ns N4 OA Ls T N6/\∀ v,H v ↔ GT N4 T v
def An(N4:List Int)(H:bN->Prop)(u:bN):Prop:=∀ v,H v->R N4∣d_ N4.length (vf N4) (R N4) u v
theorem CL(h:Vr ns N4 p H):∃ r,gY [p]=M.ok r/\Vr ns N4 r (An N4 H)/\∃ QK Rh T1 P8,iO ns N4 QK Rh T1 P8/\r=dU N4 (nz N4.length T1)/\∀ v,An N4 H v ↔ GT N4 T1 v:=by
 obtain⟨OA,Ls,T,N6,rfl,Q,hH⟩:=h;obtain⟨OK,T',Ov,E⟩:=r0 Q;obtain⟨⟨PU,Q'⟩,ln⟩:=E.Q;obtain⟨QK,Rh,T1,i1,Q1,e1,c1⟩:=E.cw;have hq:=wx Q.S;have key:∀ u,An N4 H u ↔ GT N4 T' u:=λu=>⟨λh=>E.all u λb hb=>h _ ((hH _).mpr (Q.st.gd.row hb (by lia) (S9 _))),λh v hv=>by
  obtain⟨P,hP⟩:=Q'.led h;rw[dh];refine nY hq (λl hl=>?_) hP;rw[dh];exact rS hq N4.length 0 v (by lia) (λb _ hb=>E.dead l hl b hb) ((hH v).mp hv)⟩
 exact⟨_,E.ev,⟨PU,OK,T',Ov,rfl,Q',key⟩,QK,Rh,T1,i1,Q1,by rw[e1],λv=>(key v).trans (c1 v).symm⟩
theorem Vr.an(h:Vr ns N4 p H)(k:∀ u,An N4 H u->R N4∣d_ N4.length (vf N4) (R N4) u v):H v:=by
 obtain⟨OA,Ls,T,N6,rfl,Q,hH⟩:=h;exact(hH v).mpr (sep Q λu hu=>k u λw hw=>rS (wx Q.S) N4.length 0 w (by lia) (λb _ hb=>hu b hb) ((hH w).mp hw))
theorem xQ(Q:iO ns N4 OA Ls T N6)(Q':iO ns N4 PU OK T' Ov)(h:∀ v,GT N4 T v ↔ GT N4 T' v):T.map (·.1)=T'.map (·.1):=by
 have g:=Q.st.gd;have g':=Q'.st.gd;have t:=Q.st.wf.len;have t':=Q'.st.wf.len;have se:=Cn g g' (λd hd=>(h _).mpr (g'.row hd (by lia) (S9 _))) (λd hd=>(h _).mp (g.row hd (by lia) (S9 _)));refine Yk (by simp;lia) λd h1 h2=>?_;simp only[S0] at h1 h2;rw[V4,V4,<- eY h1,<- eY h2];have hd:d<N4.length:=by lia
 refine uu (by rw[Q.st.wf.ly hd,Q'.st.wf.ly hd]) λi hi=>?_;rw[Q.st.wf.ly hd] at hi;show DD T d i=DD T' d i;have sd:=se d hd;have r:=g.hZ d hd d hd;have r':=g'.hZ d hd d hd;have dg:DD T d d=DD T' d d:=by
  unfold aL at sd
  split at sd <;> split at sd <;> lia
 by_cases z:DD T d d=0
 .rw[Q.nul d hd z i hi,Q'.nul d hd (by lia) i hi]
 .have gv:=g.sub (by lia) (g.row hd (by lia) (S9 _)) ((h _).mpr (g'.row hd (by lia) (S9 _)));have:=G.diff g N4.length 0 (λi=>DD T d i-DD T' d i) (by lia) (λi hi=>by have:=g.hZ d hd i hi;have:=g'.hZ d hd i hi;lia) (λi _ hi=>by
   have p:=g.pos hi;rcases WZ i d with c | c | c
   .rw[g.rg d hd i c,g'.rg d hd i c];lia
   .subst c;lia
   .have a:=Q.low d hd i c hi;have b:=Q'.low d hd i c hi;rw[<- se i hi] at b;have:=g.hZ d hd i hi;have:=g'.hZ d hd i hi;lia) gv i hi
  lia
end
theorem Ft(i j:Nat)(env:af)(p q:PV):K9 i j env [p,q]=M.ok (.nx ((env.set i (some (.sh p))).set j (some (.sh q)))):=rfl
theorem Bi(N4:List Int)(h:Sz N4):gQ [lI N4]=M.ok (.int (R N4)):=by
 unfold gQ gT;dsimp? [];refine eK N4 (λr env=>∃ acc x y z,env=[some (.sh (lI N4)),some (.sh (.int (acc:Nat))),x,y,z]/\Acc N4 r acc) ⟨1,_,_,_,rfl,.start h⟩ ?_ ?_
 .rintro a r env ⟨acc,x,y,z,rfl,A⟩;obtain⟨A2,e1,e2,e3⟩:=A.turn;have l1:=A.lt;have ha:=A.hZ a Tp;have g1:TF acc a<=acc:=X9 A.pos (Zk.mp (VD ..));have d0:0<=(acc:Int)/(TF acc a:Nat):=U4 (by lia) (by lia);refine⟨_,[some (.sh (lI N4)),some (.sh (.int (VO acc a.toNat:Nat))),some (.sh (.int a)),some (.sh (.int (TF acc a:Nat))),some (.sh (.int 0))],rfl,?_,_,_,_,_,rfl,A2⟩;dsimp? [];refine wM (λenv=>∃ p q:Nat,env=[some (.sh (lI N4)),some (.sh (.int (acc:Nat))),some (.sh (.int a)),some (.sh (.int p)),some (.sh (.int q))]/\Nat.gcd p q=TF acc a) (λenv=>match env with
   | [_,_,_,_,some (.sh (.int q))]=>q.toNat
   | _=>0) ⟨acc,a.toNat,by rw[Wz (by lia)],?_⟩ ?_ ?_
  .obtain⟨n,rfl⟩:=Vu (show 0<=a by lia);rfl
  .rintro env ⟨p,q,rfl,hg⟩
   by_cases h0:(0:Int)<q
   .refine .inr ⟨by dsimp? [h0,decide_true],[some (.sh (lI N4)),some (.sh (.int (acc:Nat))),some (.sh (.int a)),some (.sh (.int q)),some (.sh (.int ((p%q:Nat):Int)))],?_,⟨q,p%q,rfl,?_⟩,?_⟩
    .dsimp? [GW,Ft,aW (i:=(p:Int)) h0];rfl
    .rw[<- hg,Nat.gcd_comm p q,Nat.gcd_rec q p,Nat.gcd_comm]
    .show ((p%q:Nat):Int).toNat<(q:Int).toNat;have:=Nat.mod_lt p (show 0<q by lia);lia
   .exact .inl (by dsimp? [h0,decide_false])
  .rintro N_ ⟨p,q,rfl,hg⟩ hu;have hq:q=0:=by
    revert hu;dsimp? [];intro hu;have:decide ((0:Int)<q)=false:=by injection hu with hu;injection hu
    simp at this;exact this
   subst hq;rw[Nat.gcd_zero_right] at hg;subst hg;dsimp? [aQ (i:=(acc:Int)) (show (0:Int)<(TF acc a:Nat) by lia) (show ((TF acc a:Nat):Int)<2^64 by lia),bf (k:=64) (l:=64) (show ((acc:Int)/(TF acc a:Nat)).natAbs<2^64 by lia) (show a.natAbs<2^64 by lia),e1];rfl
 .rintro N_ ⟨acc,x,y,z,rfl,A⟩;dsimp? [];have:=A.val;rw[R,<- this];rfl
section
variable{PU OK L X Y rX:List (List Int)}{TL TX:List Row}{iL iX:List (List Int)}{q r s:PV}{K:bN->Prop}
theorem zy(S:Sz N4)(Wl:W.length=N4.length)(W0:∀ x∈W,0<=x/\x<360)(yl:ys.length=N4.length)(yb:Bd 200 ys):gR [tI W,tI ys,lI N4]=M.ok (.int (d_ N4.length (vf N4) (R N4) (vf W) (vf ys)%R N4)):=by
 have l6:=S.h6
 let tm:Int×Int×Int->Int:=λz=>z.1*z.2.1*(R N4/z.2.2)
 have et:((W.zip (ys.zip N4)).map tm).sum=d_ N4.length (vf N4) (R N4) (vf W) (vf ys):=by
  have hl:((W.zip (ys.zip N4)).map tm).length=N4.length:=by simp;lia
  rw[vG,hl];refine dI λi hi=>?_;rw[aV (by rw[hl];exact hi),aV (by lia),aV (by lia),aV (by lia)];simp[tm]
 rw[<- et];have k1:bG (jS 0 1 2) none (aj bV (aj bV (aa 0) (aa 1)) (aj bD (aa 3) (aa 2))) ((W.zip (ys.zip N4)).map λz=>.tup [.int z.1,.int z.2.1,.int z.2.2]) [none,none,none,some (.sh (.int (R N4)))]=M.ok ((W.zip (ys.zip N4)).map λz=>.int (tm z)):=by
  refine AO (p:=λz:Int×Int×Int=>PV.int z.1) (q:=λz:Int×Int×Int=>PV.int z.2.1) (s:=λz:Int×Int×Int=>PV.int z.2.2) (W.zip (ys.zip N4)) λz hz=>?_;obtain⟨m1,m2⟩:=UO (a:=z.1) (b:=z.2) hz;obtain⟨m3,m4⟩:=UO (a:=z.2.1) (b:=z.2.2) m2;have a1:=W0 _ m1;have a2:=yb _ m3;have a3:=oQ S m4;have a4:=S.hx _ m4;have a5:(z.1*z.2.1).natAbs<2^210:=by
   rw[Vq];have:z.1.natAbs*z.2.1.natAbs<=2^9*2^200:=V5 (by lia) (by lia);exact UD this (by decide)
  dsimp? [aQ (i:=R N4) (j:=z.2.2) (by lia) (by lia),bf (k:=64) (l:=200) (show z.1.natAbs<2^64 by lia) a2,bf (k:=210) (l:=64) a5 (show (R N4/z.2.2).natAbs<2^64 by lia)];rfl
 have z1:(W.zip (ys.zip N4)).length<=sizeLine:=by rw[Uu];exact aX (TJ (Wb _ _) (by lia))
 have e1:wb [.lst ((W.zip (ys.zip N4)).map λz=>PV.int (tm z))]=M.ok (.int ((W.zip (ys.zip N4)).map tm).sum):=by
  have:=v5 ((W.zip (ys.zip N4)).map tm);rw[TY] at this;exact this
 unfold gR gH;dsimp? [Bi N4 S,oY (p:=tI W) (q:=tI ys) (r:=lI N4) W ys N4 rfl rfl rfl,S0,av z1,k1,e1,aW (i:=((W.zip (ys.zip N4)).map tm).sum) (j:=R N4) (sL S)]
theorem Ep(S:Sz N4)(hl:W.length=N4.length)(h:∀ i,i<N4.length->0<=vf W i/\vf W i<vf N4 i):∀ x∈W,0<=x/\x<360:=λx hx=>by
 obtain⟨i,hi,rfl⟩:=S8.mp hx;have a:=h i (by lia);have b:=jC S i (by lia);rw[aV hi] at a;lia
theorem oF(hp:p=.lst (Ls.map tI)\/p=.tup (Ls.map tI))(Q:iO ns N4 OA Ls T N6){u:List Int}(hl:u.length=N4.length)(h0:∀ i,i<N4.length->0<=vf u i/\vf u i<vf N4 i):iN (bY [tI u,p,lI N4]) λp=>∃ b:Bool,p=.bl b/\(b=true ↔ Sl N4 Ls u):=by
 have e0:bO p=some (Ls.map tI):=by rcases hp with rfl | rfl <;> rfl
 unfold bY eO;dsimp? [e0];refine iN.Lk (xs:=Ls) (inj:=tI) (λzs env=>∃ (c:Nat) (y3:Option SV),env=[some (.sh (tI u)),some (.sh p),some (.sh (lI N4)),y3]/\zs=Ls.drop c/\∀ l,l<c->l<Ls.length->R N4∣d_ N4.length (vf N4) (R N4) (vf u) (AA Ls l)) ⟨0,_,rfl,rfl,λl h=>by lia⟩ ?_ ?_
 .rintro z r env ⟨c,y3,rfl,hz,hd⟩;obtain⟨c1,c2,c3⟩:=drop_cons hz.symm;rw[SW c1] at c2;have c2:=Ti c2;have eg:Ls.getD c []=z:=by rw[S6,SW c1,Vf,c2]
  have a1:=Q.LL.at_ c c1;have a2:=Q.LL.hZ c c1;have eA:vf z=AA Ls c:=by unfold AA;rw[eg]
  rw[<- eA] at a2;rw[eg] at a1;have lw:=zy (ys:=z) Q.S hl (Ep Q.S hl h0) a1 (k_ Q.S a1 a2);rw[eA] at lw
  by_cases e:d_ N4.length (vf N4) (R N4) (vf u) (AA Ls c)%R N4=0
  .dsimp? [bJ,lw,e,decide_true];refine⟨_,rfl,c+1,_,rfl,c3.symm,λl h1 h2=>?_⟩;rcases Nat.lt_succ_iff_lt_or_eq.mp h1 with q | q
   .exact hd l q h2
   .subst q;exact Yl e
  .dsimp? [bJ,lw,e,decide_false];exact⟨_,rfl,⟨_,rfl,false,rfl,⟨λh=>(by cases h),λh=>(e (Int.emod_eq_zero_of_dvd (h c c1))).elim⟩⟩⟩
 .rintro env ⟨c,y3,rfl,hz,hd⟩;have hc:Ls.length<=c:=by
   have:=congrArg Va hz;rw[Uc] at this;simp at this;lia
  dsimp? [];exact⟨_,rfl,true,rfl,⟨λ_ l hl=>hd l (by lia) hl,λ_=>rfl⟩⟩
theorem pj(hl:xs.length<=8)(hx:∀ x∈xs,0<x/\x<2^60):gC [tI xs]=M.ok (.int (aC xs.length (vf xs))):=by
 refine iN.eq ?_;unfold gC gB;dsimp? [];refine iN.loop (xs:=xs) (inj:=PV.int) (λzs env=>∃ (c:Nat) (y:Option SV),env=[some (.sh (tI xs)),some (.sh (.int (aC c (vf xs)))),y]/\zs=xs.drop c/\c<=xs.length) ⟨0,_,rfl,rfl,by lia⟩ ?_ ?_
 .rintro a r env ⟨c,y,rfl,hd,hc⟩;obtain⟨c1,c2,c3⟩:=drop_cons hd.symm;rw[SW c1] at c2;have e2:xs[c]=a:=Ti c2;have ha:=hx a (by rw[<- e2];exact T6 _);have b:=o7 (n8 hx c hc);have b':(aC c (vf xs)).natAbs<2^490:=S_ b (Uv (by decide) (by lia));have ep:aC c (vf xs)*a=aC (c+1) (vf xs):=by show _=aC c (vf xs)*vf xs c;rw[aV c1,e2]
  dsimp? [bJ,bf (i:=aC c (vf xs)) (j:=a) (k:=490) (l:=60) b' (o7 ha),ep];exact⟨_,rfl,c+1,_,rfl,c3.symm,by lia⟩
 .rintro env ⟨c,y,rfl,hd,hc⟩;have:=congrArg Va hd;rw[Uc] at this;simp at this;obtain rfl:c=xs.length:=by lia
  dsimp? [];exact⟨_,rfl,rfl⟩
theorem mU{q:PV}(hq:bO q=some (xs.map PV.int))(hl:xs.length<=8)(hx:∀ x∈xs,0<x/\x<2^60):cv [q]=M.ok (.int (aC xs.length (vf xs))):=by
 refine iN.eq ?_;unfold cv eW;dsimp? [hq];refine iN.loop (xs:=xs) (inj:=PV.int) (λzs env=>∃ (c:Nat) (y:Option SV),env=[some (.sh q),some (.sh (.int (aC c (vf xs)))),y]/\zs=xs.drop c/\c<=xs.length) ⟨0,_,rfl,rfl,by lia⟩ ?_ ?_
 .rintro a r env ⟨c,y,rfl,hd,hc⟩;obtain⟨c1,c2,c3⟩:=drop_cons hd.symm;rw[SW c1] at c2;have e2:xs[c]=a:=Ti c2;have ha:=hx a (by rw[<- e2];exact T6 _);have b:=o7 (n8 hx c hc);have b':(aC c (vf xs)).natAbs<2^490:=S_ b (Uv (by decide) (by lia));have ep:aC c (vf xs)*a=aC (c+1) (vf xs):=by show _=aC c (vf xs)*vf xs c;rw[aV c1,e2]
  dsimp? [bJ,bf (i:=aC c (vf xs)) (j:=a) (k:=490) (l:=60) b' (o7 ha),ep];exact⟨_,rfl,c+1,_,rfl,c3.symm,by lia⟩
 .rintro env ⟨c,y,rfl,hd,hc⟩;have:=congrArg Va hd;rw[Uc] at this;simp at this;obtain rfl:c=xs.length:=by lia
  dsimp? [];exact⟨_,rfl,rfl⟩
theorem vY(Q:iO ns N4 OA Ls T N6):(∀ x∈gK N4 T,0<x/\x<2^60)/\aC N4.length (vf (gK N4 T))=aC N4.length (aL (vf N4) (DD T)):=by
 refine⟨λx hx=>?_,dQ λj hj=>lE hj⟩;obtain⟨i,hi,rfl⟩:=S8.mp hx;rw[c9] at hi;have:=lE (N4:=N4) (R:=T) hi;rw[aV (by rw[c9];exact hi)] at this;rw[this];have a:=Q.st.gd.pos hi;have b:=jC Q.S i hi;lia
theorem Ax(S:Sz N4)(h:xs.length=N4.length/\∀ z∈xs.zip N4,0<=z.1/\z.1<z.2):Kp N4 xs:=⟨h.1,Ii h.1 h.2⟩
end
theorem yH(xs:List Int)(h:xs.length<=100):fW (.lst [.int 0]) (.lst (xs.map PV.int))=M.ok (.lst ((0::xs).map PV.int)):=by
 rw[fW,av (aX (by simp;lia))];rfl
theorem F0(h:T.map (·.1)=T'.map (·.1)):nz n T=nz n T':=by
 have:∀ T:List Row,nz n T=(T.map (·.1)).filter λr=>!decide (r=SS n 0):=λT=>by
  unfold nz;rw[List.filter_map];rfl
 rw[this,this,h]
theorem AL(h:n<=1024):n<=sizeLine:=TJ h (by decide)
theorem xy {f : Nat -> Int} (h : ∀ l, l < m -> 0 < f l) : ∀ {d : Nat}, d <= m -> aC d f <= aC m f := by
  induction m with
  | zero => intro d hd; have : d = 0 := by lia
            subst this; exact Int.le_refl _
  | succ m ih =>
    intro d hd
    by_cases e : d = m + 1
    . subst e; exact Int.le_refl _
    . have a := ih (λl hl => h l (by lia)) (show d <= m by lia);have b : 0 < aC m f := dO λl hl => h l (by lia);have c := h m (by lia);show _ <= aC m f * f m;have : aC m f * 1 <= aC m f * f m := T8 (by lia) (by lia);lia
section
variable{S:List (List Int)}
abbrev cF(N4:List Int)(T:List Row):Nat->Int:=λi=>vf N4 i/aL (vf N4) (DD T) i
theorem ot(g:Good N4.length (vf N4) (DD T))(h:d<N4.length):0<cF N4 T d :=
 Int.ediv_pos_of_pos_of_dvd (g.sp d h) (WY (g.pos h).1) (g.dv d h)
theorem vO(Q:iO ns N4 OA Ls T N6):aC N4.length (cF N4 T)=aC Ls.length λj=>II N6 j j:=by
 have g:=Q.st.gd;have p:=Q.pr;have q:aC N4.length (vf N4)=aC N4.length (cF N4 T)*aC N4.length (aL (vf N4) (DD T)):=mF λl hl=>(Xv (g.dv l hl)).symm;have z:0<aC N4.length (aL (vf N4) (DD T)):=dO λl hl=>(g.pos hl).1;rw[q] at p;exact(XU (ZQ z) p).symm
structure Ev (N4:List Int) (T:List Row) (d:Nat) (S:List (List Int)):Prop where
 kp:∀ x∈S,Kp N4 x
 gt:∀ x∈S,GT N4 T (vf x)
 inj:∀ x∈S,∀ y∈S,(∀ i,i<d->vf x i=vf y i)->x=y
 nd:S.Nodup
 len:(S.length:Int)=aC d (cF N4 T)
def qO(N4 r:List Int)(S:List (List Int)):Nat->List (List Int)
 | 0=>[]
 | n+1=>qO N4 r S n++S.map λx=>ad N4 x r (n:Int)
theorem kc{r:List Int}{z:List Int}:∀ {n:Nat},z∈qO N4 r S n->∃ x∈S,∃ t:Nat,t<n/\z=ad N4 x r (t:Int)
 | 0,h=>nomatch h
 | n+1,h=>by
  rcases UG.mp h with h | h
  .obtain⟨x,hx,t,ht,e⟩:=kc h;exact⟨x,hx,t,by lia,e⟩
  .obtain⟨x,hx,e⟩:=T_.mp h;exact⟨x,hx,n,by lia,e.symm⟩
theorem nX{r:List Int}:∀ n:Nat,(qO N4 r S n).length=n*S.length
 | 0=>by simp[qO]
 | n+1=>by rw[qO,TM,nX n,S0,ZG]
theorem tW(Q:iO ns N4 OA Ls T N6)(E:Ev N4 T d S)(hd:d<N4.length){x y:List Int}(hx:x∈S)(hy:y∈S){t u:Nat}(ht:(t:Int)<cF N4 T d)(hu:(u:Int)<cF N4 T d)
  (h:∀ i,i<d+1->vf (ad N4 x (row T d).1 (t:Int)) i=vf (ad N4 y (row T d).1 (u:Int)) i):x=y/\t=u:=by
 have g:=Q.st.gd;have r1:=Q.st.wf.ly hd;obtain⟨_,ax⟩:=ql (t:=(t:Int)) Q.S (E.kp x hx).1 r1;obtain⟨_,ay⟩:=ql (t:=(u:Int)) Q.S (E.kp y hy).1 r1;have exy:x=y:=E.inj x hx y hy λi hi=>by
  have e:=h i (by lia);have z:vf (row T d).1 i=0:=g.rg d hd i hi;rw[ax i (by lia),ay i (by lia),z,Vp,Vp,WX,WX,UY ((E.kp x hx).2 i (by lia)).1 ((E.kp x hx).2 i (by lia)).2,UY ((E.kp y hy).2 i (by lia)).1 ((E.kp y hy).2 i (by lia)).2] at e;exact e
 refine⟨exy,?_⟩;subst exy;have e:=h d (by lia);rw[ax d hd,ay d hd] at e;have dv:vf N4 d∣((t:Int)-u)*DD T d d:=by
  have:=Int.emod_emod_of_dvd;have q:=Yl (Int.emod_eq_emod_iff_emod_sub_eq_zero.mp e);rw[show vf x d+(t:Int)*vf (row T d).1 d-(vf x d+(u:Int)*vf (row T d).1 d)=((t:Int)-u)*vf (row T d).1 d by grind] at q;exact q
 have p:=g.pos hd;have hs:=g.dv d hd;have fe:cF N4 T d*aL (vf N4) (DD T) d=vf N4 d:=Xv hs
 by_cases z:DD T d d=0
 .have:aL (vf N4) (DD T) d=vf N4 d:=by unfold aL;rw[if_pos z]
  have f1:cF N4 T d=1:=by
   show vf N4 d/aL (vf N4) (DD T) d=1;rw[this];exact Zh (ZQ (g.sp d hd))
  lia
 .have es:aL (vf N4) (DD T) d=DD T d d:=by unfold aL;rw[if_neg z]
  rw[<- es,<- fe] at dv;have dv:=Int.dvd_of_mul_dvd_mul_right (ZQ p.1) dv;obtain⟨c,hc⟩:=dv;have f0:=ot g hd;generalize cF N4 T d=F at *;rcases Vt c 0 with h0 | h0 | h0
  .have:F*c<=F*(-1):=T8 (by lia) (by lia);lia
  .subst h0;lia
  .have:F*1<=F*c:=T8 (by lia) (by lia);lia
theorem Ev.next(Q:iO ns N4 OA Ls T N6)(E:Ev N4 T d S)(hd:d<N4.length):Ev N4 T (d+1) (qO N4 (row T d).1 S (cF N4 T d).toNat):=by
 have g:=Q.st.gd;have r1:=Q.st.wf.ly hd;have f0:=ot g hd;refine⟨λz hz=>?_,λz hz=>?_,λz hz w hw e=>?_,?_,?_⟩
 .obtain⟨x,hx,t,ht,rfl⟩:=kc hz;exact(F5 Q.S (E.kp x hx).1 r1).1
 .obtain⟨x,hx,t,ht,rfl⟩:=kc hz;exact g.nr (by lia) (F5 Q.S (E.kp x hx).1 r1).2 (G.add (by lia) (E.gt x hx) (G.mul (t:Int) (by lia) (g.row hd (by lia) (S9 _))))
 .obtain⟨x,hx,t,ht,rfl⟩:=kc hz;obtain⟨y,hy,u,hu,rfl⟩:=kc hw;obtain⟨a,b⟩:=tW Q E hd hx hy (by lia) (by lia) e;rw[a,b]
 .have:∀ n:Nat,(n:Int)<=cF N4 T d->(qO N4 (row T d).1 S n).Nodup:=by
   intro n
   induction n with
   | zero=>intro _;exact List.nodup_nil
   | succ n ih =>
    intro hn;rw[qO,List.nodup_append];refine⟨ih (by lia),?_,λz hz w hw e=>?_⟩
    .unfold List.Nodup;rw[WS];exact V2 (λ{x y} hx hy ne e=>ne (tW Q E hd hx hy (t:=n) (u:=n) (by lia) (by lia) λi _=>by rw[e]).1) E.nd
    .obtain⟨x,hx,t,ht,rfl⟩:=kc hz;obtain⟨y,hy,rfl⟩:=T_.mp hw;have:=(tW Q E hd hx hy (t:=t) (u:=n) (by lia) (by lia) λi _=>by rw[e]).2;lia
  exact this _ (by lia)
 .show ((qO N4 (row T d).1 S (cF N4 T d).toNat).length:Int)=aC d (cF N4 T)*cF N4 T d;rw[nX,Int.natCast_mul,E.len,Wz (by lia),Vn]
theorem Ev.start(Q:iO ns N4 OA Ls T N6):Ev N4 T 0 [SS N4.length 0]:=by
 have z:=lT Q.S;refine⟨λx hx=>by rw[Ui.mp hx];exact z,λx hx=>?_,λx hx y hy _=>by rw[Ui.mp hx,Ui.mp hy],by simp,rfl⟩;rw[Ui.mp hx];exact G.ext (by lia) (λi hi=>by rw[fz]) (G.zero (by lia))
theorem DW{f:af->M PV}{env:af}{xs ys:List PV}(e:env[i]?=some (some (.ow xs)))(h:f env=M.ok (.lst ys))(hz:xs.length+ys.length<=sizeLine):Bf i f env=M.ok (.nx (env.set i (some (.ow (xs++ys))))):=by
 unfold Bf;rw[e];show (f env).bind _=_;rw[h,M.aM];exact if_pos hz
theorem vz:∀ S:List (List Int),(∀ x∈S,x≠[])->sA (S.map tI)=some S
 | [],_=>rfl
 | []::S,h=>absurd rfl (h _ (.head _))
 | (n::x)::S,h=>by
  rw[Tw,sA,vz S λy hy=>h y (.tail _ hy)];rw[show pd (tI (n::x))=some (n::x) from iY _]
theorem FH(Q:iO ns N4 OA Ls T N6)(hm:aC Ls.length (λj=>II N6 j j)<=1024):∃ S,Ev N4 T N4.length S/\cq [dU N4 Ls,tI (SS N4.length 0)]=M.ok (.lst ((iE S).map tI)):=by
 have m8:=Q.m8;have l6:=Q.S.h6;have l1:=Q.S.h1;have g:=Q.st.gd;have tl:=Q.st.wf.len;have z:=lT Q.S;have zl:lst N4 Ls T (SS N4.length 0)=SS N4.length 0:=(p8 Q z).mpr (G.ext (by lia) (λi hi=>by rw[fz]) (G.zero (by lia)));obtain⟨sl,sb,sp⟩:=nh Q;have ep:=pj (xs:=C7 N6) (by lia) sb;rw[sl,sp] at ep;rw[<- vO Q] at hm ep
 suffices h:iN (cq [dU N4 Ls,tI (SS N4.length 0)]) λp=>∃ S,Ev N4 T N4.length S/\p=.lst ((iE S).map tI) by
  obtain⟨_,e,S,E,rfl⟩:=h;exact⟨S,E,e⟩
 have lb:=DC (N6:=N6) Q.S Q.m8 Q.st (show Ls.length+1<=9 by lia) z.1 z.2;rw[zl] at lb;unfold cq dm;dsimp? [lY Q.S z.JQ,Q.Gq,bU,mj (m := "spans") rfl,sH (N6:=N6) m8 Q.I,ep,decide_eq_false (show ¬ (1024:Int)<aC N4.length (cF N4 T) by lia),mj (m := "least") rfl,lb,GJ,mj (m := "steps") rfl,l8 (N6:=N6) Q.S Q.st,mj (m := "rows") rfl,xV (T:=T) (show T.length<=1000 by lia),oY (p:=tI N4) (q:=tI (gK N4 T)) (r:=.lst (T.map λr=>tI r.1)) N4 (gK N4 T) T rfl rfl rfl];have zl3:(N4.zip ((gK N4 T).zip T)).length=N4.length:=by simp only[Uu,c9];lia
 refine iN.loop (xs:=N4.zip ((gK N4 T).zip T)) (inj:=λz=>PV.tup [PV.int z.1,PV.int z.2.1,tI z.2.2.1]) (λzs env=>∃ (d:Nat) (S:List (List Int)) (y4 y5 y6 y7 y8:Option SV),env=[some (.sh (dU N4 Ls)),some (.sh (tI (SS N4.length 0))),some (.sh (kK N4 Ls T N6)),some (.sh (.lst (S.map tI))),y4,y5,y6,y7,y8]/\zs=(N4.zip ((gK N4 T).zip T)).drop d/\d<=N4.length/\Ev N4 T d S) ⟨0,_,_,_,_,_,_,rfl,rfl,S9 _,Ev.start Q⟩ ?_ ?_
 .rintro⟨a1,a2,a3⟩ r env ⟨d,S,y4,y5,y6,y7,y8,rfl,hz,hd0,E⟩;obtain⟨c1,c2,c3⟩:=drop_cons hz.symm;rw[zl3] at c1;rw[SW (by lia)] at c2;have c2:=Ti c2;rw[VC,VC] at c2;obtain⟨q1,q2⟩:=Z4 c2;obtain⟨q2,q3⟩:=Z4 q2;have e1:a1=vf N4 d:=by rw[aV c1,q1]
  have e2:a2=aL (vf N4) (DD T) d:=by rw[<- lE c1,aV (by rw[c9];exact c1),q2]
  have e3:a3=row T d:=by rw[eY (by lia),q3]
  subst e1 e2 e3;have p:=g.pos c1;have f0:=ot g c1;have s360:=jC Q.S d c1;have E':=E.next Q c1;have hn:((qO N4 (row T d).1 S (cF N4 T d).toNat).length:Int)<=1024:=by
   rw[E'.len];exact YF (xy (λl hl=>ot g hl) c1) hm
  rw[nX] at hn;have fb:cF N4 T d<=360:=by
   have:cF N4 T d*1<=cF N4 T d*aL (vf N4) (DD T) d:=T8 (by lia) (by lia);rw[show cF N4 T d*aL (vf N4) (DD T) d=vf N4 d from Xv (g.dv d c1)] at this;lia
  have r1:=Q.st.wf.ly c1;have rb:Bd 200 (row T d).1:=k_ Q.S r1 (g.hZ d c1);dsimp? [jS,iV,aQ (i:=vf N4 d) (j:=aL (vf N4) (DD T) d) p.1 (by lia),hU (n:=vf N4 d/aL (vf N4) (DD T) d) (WY f0) (by show cF N4 T d<_;lia)];refine iN.loop (xs:=Tg (vf N4 d/aL (vf N4) (DD T) d).toNat) (inj:=λ(i:Nat)=>.int (i:Int)) (λzs env=>∃ (t:Nat) (y8:Option SV),env=[some (.sh (dU N4 Ls)),some (.sh (tI (SS N4.length 0))),some (.sh (kK N4 Ls T N6)),some (.sh (.lst (S.map tI))),some (.sh (.int (vf N4 d))),some (.sh (.int (aL (vf N4) (DD T) d))),some (.sh (tI (row T d).1)),some (.ow ((qO N4 (row T d).1 S t).map tI)),y8]/\zs=(Tg (cF N4 T d).toNat).drop t/\t<=(cF N4 T d).toNat) ⟨0,_,rfl,rfl,S9 _⟩ ?_ ?_
  .rintro w r2 env ⟨t,y8,rfl,Rl,_⟩;obtain⟨w1,w2,w3⟩:=drop_cons Rl.symm;rw[Ue] at w1;rw[U_ w1] at w2;obtain rfl:t=w:=Ti w2;have key:bG (bJ 0) none (ai lB (ae (aa 1) (ae (aa 0) (ae (aa 2) (ae (aa 3) ak))))) (S.map tI) [none,some (.sh (dU N4 Ls)),some (.sh (tI (row T d).1)),some (.sh (.int (t:Int)))]=M.ok (S.map λx=>tI (ad N4 x (row T d).1 (t:Int))) :=
    gj S λx hx=>by dsimp? [zJ (Ls:=Ls) (t:=(t:Int)) Q.S (E.kp x hx).1 rb (by lia)]
   have hS:(t+1)*S.length<=1024:=TJ (Wn _ w1) (by lia);have hS1:S.length<=1024:=TJ (Nat.le_mul_of_pos_left _ (Nat.succ_pos t)) hS;rw[ZG] at hS;dsimp? [bJ];rw[DW (xs:=(qO N4 (row T d).1 S t).map tI) (ys:=S.map λx=>tI (ad N4 x (row T d).1 (t:Int))) rfl (by dsimp? [S0,av (AL hS1),key]) (by rw[S0,S0,nX];exact AL hS)];dsimp? [];have ew:(qO N4 (row T d).1 S (t+1)).map tI=(qO N4 (row T d).1 S t).map tI++S.map λx=>tI (ad N4 x (row T d).1 (t:Int)):=by rw[qO,Xn,TY];rfl
   rw[<- ew];exact⟨_,rfl,t+1,_,rfl,w3.symm,w1⟩
  .rintro env ⟨t,y8,rfl,Rl,ht2⟩;have ht:(cF N4 T d).toNat<=t:=by
    have:=congrArg Va Rl;rw[Uc,Ue] at this;simp at this;lia
   have ht3:t=(cF N4 T d).toNat:=by lia
   subst ht3;dsimp? [];exact⟨_,rfl,d+1,_,_,_,_,_,_,rfl,c3.symm,c1,E'⟩
 .rintro env ⟨d,S,y4,y5,y6,y7,y8,rfl,hz,hd0,E⟩;have hd:d=N4.length:=by
   have:=congrArg Va hz;rw[Uc,zl3] at this;simp at this;lia
  subst hd;dsimp? [yA,vz S λx hx=>by have:=(E.kp x hx).1;rintro rfl;simp at this;lia];exact⟨_,rfl,S,E,rfl⟩
end
theorem qe:∀ zs:List Int,jo (zs.map PV.int)=true
 | []=>rfl
 | _::r=>by show (true&&jo (r.map PV.int))=true;rw[qe r];rfl
theorem Df{f:af->M (List PV)}{env:af}{xs:List PV}{zs:List Int}(h1:ownAt i env=M.ok xs)(h2:f (mQ i env)=M.ok (zs.map PV.int)):vQ i f env=M.ok (zs.map PV.int):=by
 unfold vQ;rw[h1,M.aM,h2];exact av (qe zs)
section
variable{PU OK:List (List Int)}
theorem xp(S:Sz N4)(hL:∀ l∈Ls,Kp N4 l)(m8:Ls.length<=8)(c:Int):iN (e6 [.int c,.lst (Ls.map tI),lI N4]) λp=>∃ xs:List Int,p=tI xs/\Kp N4 xs:=by
 have l6:=S.h6;have l1:=S.h1;have m3:=aW (i:=c) (j:=3) (by decide);have d3:=aQ (i:=c) (j:=3) (by decide) (by decide);obtain⟨xs,ed,xk⟩:=mP (c/3) (lI N4) N4 rfl (λb hb=>by have:=S.hx b hb;lia) (by lia);have kx:=Ax S xk;unfold e6 eR
 by_cases h0:0<c%3
 .have e0:vM (.lst [.int 0]) (.int (N4.length:Int))=M.ok ((SS N4.length 0).map PV.int):=by
   rw[vM,av ⟨by lia,by lia,by rw[TR];exact aX (by show 1*N4.length<=1000;lia)⟩,TR,lX,Vj]
  dsimp? [d3,ed,yi,m3,h0,decide_true,Ce,e0,lP];refine iN.loop (xs:=Ls.zipIdx) (inj:=λz=>.tup [.int (z.2:Int),tI z.1]) (λzs env=>∃ (o:List Int) (y4 y5 y6:Option SV),env=[some (.sh (.int c)),some (.sh (.lst (Ls.map tI))),some (.sh (lI N4)),some (.ow (o.map PV.int)),y4,y5,y6,none]/\Kp N4 o/\∀ z∈zs,z∈Ls.zipIdx) ⟨SS N4.length 0,_,_,_,rfl,lT S,λz h=>h⟩ ?_ ?_
  .rintro⟨l,k⟩ r env ⟨o,y4,y5,y6,rfl,ho,hz⟩;have hm:=hz _ Tp;have hk:k<Ls.length:=by have:=List.snd_lt_of_mem_zipIdx hm;simpa using this
   have kl:=hL l (Wo hm);have lb:=kl.bd S;obtain⟨t,e3,r1,r2⟩:=xA c (60+k) (by lia);rw[show ((60+k:Nat):Int)=60+(k:Int) by lia] at e3;have k1:bG (jS 0 1 2) none (aj cY (aj fW (aa 0) (aj bV (aa 3) (aa 1))) (aa 2)) ((o.zip (l.zip N4)).map λz=>.tup [.int z.1,.int z.2.1,.int z.2.2]) [none,none,none,some (.sh (.int (t%1000)))]=M.ok ((nK N4 o l (t%1000)).map PV.int):=by
    rw[nK,TY];refine AO (p:=λz:Int×Int×Int=>PV.int z.1) (q:=λz=>PV.int z.2.1) (s:=λz=>PV.int z.2.2) (o.zip (l.zip N4)) λz hzz=>?_;obtain⟨m1,m2⟩:=UO (a:=z.1) (b:=z.2) hzz;obtain⟨m3,m4⟩:=UO (a:=z.2.1) (b:=z.2.2) m2;have a4:=S.hx _ m4;dsimp? [bf (i:=t%1000) (j:=z.2.1) (k:=31) (l:=200) (by lia) (lb _ m3),aW (i:=z.1+t%1000*z.2.1) (j:=z.2.2) (by lia)];rfl
   have z1:(o.zip (l.zip N4)).length<=sizeLine:=by simp only[Uu];exact aX (by have:=ho.1;lia)
   have z3:rj [.lst (o.map PV.int),tI l,lI N4]=M.ok ((o.zip (l.zip N4)).map λz=>.tup [.int z.1,.int z.2.1,.int z.2.2]):=oY (p:=.lst (o.map PV.int)) (q:=tI l) (r:=lI N4) o l N4 rfl rfl rfl;have lo:vQ 3 (bZ (jL rj (ae (aa 3) (ae (aa 5) (ae (aa 2) ak)))) (jS 0 1 2) none (aj cY (aj fW (aa 0) (aj bV (aa 3) (aa 1))) (aa 2)) 3 [6]) [some (.sh (.int c)),some (.sh (.lst (Ls.map tI))),some (.sh (lI N4)),some (.ow (o.map PV.int)),some (.sh (.int (k:Int))),some (.sh (tI l)),some (.sh (.int (t%1000))),none]=M.ok ((nK N4 o l (t%1000)).map PV.int):=by
    refine Df (xs:=o.map PV.int) rfl ?_;dsimp? [mQ,z3,S0,av z1,k1]
   obtain⟨b1,b2,_⟩:=w5 S (t:=t%1000) ho.1 kl.1;dsimp? [cn,e3,aW (i:=t) (j:=1000) (by decide),lo];exact⟨_,rfl,nK N4 o l (t%1000),_,_,_,rfl,⟨b1,b2⟩,λz h=>hz z (Tf _ h)⟩
  .rintro env ⟨o,y4,y5,y6,rfl,ho,_⟩;have hl:=ho.1
   by_cases h2:c%3=2
   .obtain⟨j,hj⟩:=Vu (Tz (c/3) (show (N4.length:Int)≠0 by lia));have Sm:j<N4.length:=by have:=To (c/3) (show (0:Int)<N4.length by lia);lia
    have b:=jC S j Sm;have ix:aS (.lst (o.map PV.int)) (.int (j:Int))=M.ok (.int (vf o j)):=sS (xs:=o) (by lia);dsimp? [m3,h2,decide_true,d3,aW (i:=c/3) (j:=(N4.length:Int)) (by lia),hj,IQ,o_,ownAt,mQ,ix,aW (i:=c/3) (j:=12) (by decide),sS (xs:=N4) Sm,aW (i:=vf o j+c/3%12) (j:=vf N4 j) (by lia),uQ,pQ (i:=3) (xs:=o) (j:=j) (by lia)];refine⟨_,rfl,o.set j ((vf o j+c/3%12)%vf N4 j),rfl,by simpa using hl,λi hi=>?_⟩;rw[mx (by lia)]
    split
    .rename_i z;subst z;exact⟨Tz _ (by lia),To _ (by lia)⟩
    .exact ho.2 i hi
   .dsimp? [m3,h2,decide_false];exact⟨_,rfl,o,rfl,ho⟩
 .dsimp? [d3,ed,yi,m3,show c%3=0 by lia,show decide ((0:Int)<0)=false from rfl,show decide ((0:Int)=2)=false from rfl];exact⟨_,rfl,xs,rfl,kx⟩
end
theorem DB(xs ys:List (List Int)):ou (.tup (xs.map tI)) (.tup (ys.map tI))=M.ok (.bl (!decide (xs=ys))):=by
 simp only[ou,q_,dat,zZ,aac,HC];have h1:=oC xs;have h2:=oC ys;rw[av (by simp[SeqAt.shaped,VJ,V8,vd,SeqAt.noMix,p9];lia)];unfold Spec.same;rw[sM];rfl
theorem Jd(xs ys:List Int):J7 (tI xs) (tI ys)=M.ok (.bl (HT.lexLt xs ys)):=by
 unfold J7;rw[show pd (tI xs)=some xs from iY _,show pd (tI ys)=some ys from iY _]
theorem Mc{xs:List PV}(h:1<=xs.length):IU (.lst xs) none (some (-1))=M.ok (.lst (xs.take (xs.length-1))):=by
 show M.ok (PV.lst (lN xs none (some (-1))))=_;unfold lN;have e:HT.de xs.length xs.length (some (-1))=xs.length-1:=by
  unfold HT.de;simp only[show (-1:Int)<0 by decide,if_true];lia
 rw[HT.vN,e,List.drop_zero,Yw]
theorem Mn{xs:List PV}:IU (.lst xs) (some 1) none=M.ok (.lst (xs.drop 1)):=by
 show M.ok (PV.lst (lN xs (some ((1:Nat):Int)) none))=_;unfold lN;rw[HT.vN,HT.tN];congr 2;rw[Yu (by rw[Uc];lia)]
 by_cases h:1<=xs.length
 .rw[Nat.min_eq_left h]
 .rw[Vy (by lia),Vy (by lia)]
theorem ET{xs:List PV}{x:PV}(h:xs[xs.length-1]?=some x):aS (.lst xs) (.int (-1))=M.ok x:=by
 have hl:0<xs.length:=by
  rcases Nat.eq_zero_or_pos xs.length with z | z
  .rw[W5 (by lia)] at h;cases h
  .exact z
 show eZ (sN xs (-1))=_;unfold sN yR;rw[if_neg (by decide),if_pos (by lia)];show eZ (xs[((-1:Int)+(xs.length:Int)).toNat]?)=_;rw[show ((-1:Int)+(xs.length:Int)).toNat=xs.length-1 by lia,h];rfl
theorem Mu:JO ja jj cQ=some true:=by decide
section
variable{PU OK:List (List Int)}
theorem LU.an(E:LU ns N4 Ls T N6 OK T' Ov)(Q:iO ns N4 OA Ls T N6)(Q':iO ns N4 PU OK T' Ov)(u:bN):An N4 (GT N4 T) u ↔ GT N4 T' u :=
 have hq:=wx Q.S
 ⟨λh=>E.all u λb hb=>h _ (Q.st.gd.row hb (by lia) (S9 _)),λh v hv=>by
  obtain⟨P,hP⟩:=Q'.led h;rw[dh];refine nY hq (λl hl=>?_) hP;rw[dh];exact rS hq N4.length 0 v (by lia) (λb _ hb=>E.dead l hl b hb) hv⟩
theorem A3(Q:iO ns N4 OA Ls T N6)(hm:1024<aC Ls.length (λj=>II N6 j j)):cq [dU N4 Ls,tI (SS N4.length 0)]=some (.error (cQ,none)):=by
 have m8:=Q.m8;have z:=lT Q.S;obtain⟨sl,sb,sp⟩:=nh Q;have ep:=pj (xs:=C7 N6) (by lia) sb;rw[sl,sp] at ep;unfold cq dm;dsimp? [lY Q.S z.JQ,Q.Gq,bU,mj (m := "spans") rfl,sH (N6:=N6) m8 Q.I,ep,decide_eq_true hm,j6,av (show 1<=sizeLine by decide)]
theorem Kr{S:List (List Int)}(nd:S.Nodup):(iE S).Pairwise λa b=>HT.lexLt a b=true:=by
 have n2:(iE S).Nodup:=(j8 S).nodup_iff.mpr nd;refine(List.Pairwise.and n2 (sC S)).imp λ{a b} h=>?_;cases e:HT.lexLt a b
 .exact absurd (Srt.tQ _ _ e h.2) h.1
 .rfl
theorem z_(Q:iO ns N4 OA Ls T N6)(E:LU ns N4 Ls T N6 OK T' Ov){m:Int}(hm:m=aC N4.length (aL (vf N4) (DD T))):iN (dY [dU N4 Ls,.lst (Ls.map tI),lI N4,.int m]) λp=>p=.bl true:=by
 obtain⟨⟨PU,Q'⟩,ln⟩:=E.Q;have l6:=Q.S.h6;have l1:=Q.S.h1;have c2:=E.c2;rw[<- hm] at c2;have en:=i6 (Ls:=Ls) l6
 by_cases h:1024<m
 .have ea:dN [dU N4 Ls]=some (.error (cQ,none)):=by
   unfold dN eU;dsimp? [E.ev,en,A3 Q' (by rw[c2];exact h)]
  unfold dY dX;dsimp? [yC,ea,wH,xx,Mu,GO,Dx,Ap,decide_eq_true h];exact⟨_,rfl,rfl⟩
 .obtain⟨S,Ev,eall⟩:=FH Q' (by rw[c2];lia);have ea:dN [dU N4 Ls]=M.ok (.lst ((iE S).map tI)):=by
   unfold dN eU;dsimp? [E.ev,en,eall]
  have sm:(S.length:Int)=m:=by rw[Ev.len,vO Q',c2]
  have up:=Kr Ev.nd;have pm:=j8 S;generalize iE S=L at *;have lm:(L.length:Int)=m:=by rw[pm.length_eq];exact sm
  have mp:0<m:=by
   rw[hm];exact dO λl hl=>(Q.st.gd.pos hl).1
  have st:∀ x∈L,bY [tI x,.lst (Ls.map tI),lI N4]=M.ok (.bl true):=λx hx=>by
   have hx:=pm.mem_iff.mp hx;obtain⟨_,e,b,rfl,hb⟩:=oF (.inl rfl) Q (Ev.kp x hx).1 (Ev.kp x hx).2;rw[e,hb.mpr λl hl=>((E.an Q Q' _).mpr (Ev.gt x hx)) _ (Q.LO hl)]
  unfold dY dX;dsimp? [yC,ea,zr,decide_eq_false h,S0,lm,decide_true,j7,EA,iI,Fx,Mc (xs:=L.map tI) (by rw[S0];lia),Mn (xs:=L.map tI)];have zz:=f9 (p:=.lst ((L.take (L.length-1)).map tI)) (q:=.lst ((L.drop 1).map tI)) (f:=tI) (g:=tI) (L.take (L.length-1)) (L.drop 1) rfl rfl;rw[<- List.map_take,<- List.map_drop,zz,M.aM];refine iN.loop (xs:=(L.take (L.length-1)).zip (L.drop 1)) (inj:=λz=>.tup [tI z.1,tI z.2]) (λzs env=>(∀ z∈zs,z∈(L.take (L.length-1)).zip (L.drop 1))/\∃ (y5 y6:Option SV),env=[some (.sh (dU N4 Ls)),some (.sh (.lst (Ls.map tI))),some (.sh (lI N4)),some (.sh (.int m)),some (.sh (.lst (L.map tI))),y5,y6,none]) ⟨λz h=>h,_,_,rfl⟩ ?_ ?_
  .rintro z r env ⟨hz,y5,y6,rfl⟩;obtain⟨i,hi,ei⟩:=S8.mp (hz z Tp);rw[Uu,Wr,Uc] at hi;rw[VC,List.getElem_take,List.getElem_drop] at ei;have ON:HT.lexLt z.1 z.2=true:=by
    rw[<- ei];exact(Wx.mp up) i (1+i) (by lia) (by lia) (by lia)
   dsimp? [cn,Jd,ON];exact⟨_,rfl,λz h=>hz z (Tf _ h),_,_,rfl⟩
  .rintro env ⟨_,y5,y6,rfl⟩;dsimp? [hU (n:=16) (by decide) (by decide),show (16:Int).toNat=16 from rfl];refine iN.loop (xs:=Tg 16) (inj:=λ(i:Nat)=>.int (i:Int)) (λzs env=>(∀ z∈zs,z<16)/\∃ (y7:Option SV),env=[some (.sh (dU N4 Ls)),some (.sh (.lst (Ls.map tI))),some (.sh (lI N4)),some (.sh (.int m)),some (.sh (.lst (L.map tI))),y5,y6,y7]) ⟨λz h=>UA.mp h,_,rfl⟩ ?_ ?_
   .rintro k r env ⟨hz,y7,rfl⟩;have hk:=hz k Tp;obtain⟨j,hj⟩:=Vu (show 0<=(k:Int)*m/16 from U4 (Y3 (by lia) (by lia)) (by decide));have Sm:j<L.length:=by
     have:(k:Int)*m<=15*m:=Vi (by lia) (by lia);lia
    dsimp? [bJ,bf (i:=(k:Int)) (j:=m) (k:=31) (l:=31) (by lia) (by lia),aQ (i:=(k:Int)*m) (j:=16) (by decide) (by decide),hj,bR (p:=.lst (L.map tI)) (j:=j) (x:=tI L[j]) rfl (by rw[Tr,SW Sm];rfl),st L[j] (T6 _)];exact⟨_,rfl,λz h=>hz z (Tf _ h),_,rfl⟩
   .rintro env ⟨_,y7,rfl⟩;have hl:L.length-1<L.length:=by lia
    dsimp? [ET (xs:=L.map tI) (x:=tI L[L.length-1]) (by rw[S0,Tr,SW hl];rfl),st L[L.length-1] (T6 _)];exact⟨_,rfl,rfl⟩
end
theorem FX(V:Vr ns N4 p H)(v:bN):An N4 (An N4 H) v ↔ H v :=
 ⟨λh=>V.an λu hu=>by rw[dh];exact h u hu,λh u hu=>by rw[dh];exact hu v h⟩
theorem Jt(ns:List Int):sE [.jV (ns.map PV.int)]=M.ok (.bl true):=by
 obtain⟨c0,ec⟩:=FJ ns 0 (by decide);rw[show ((0:Nat):Int)=0 from rfl] at ec;obtain⟨_,es,N4,rfl,S⟩:=zd c0;have l6:=S.h6;have l1:=S.h1;have exL:∀ c:Int,∃ xs:List Int,dR [.int c,lI N4]=M.ok (tI xs)/\Kp N4 xs:=λc=>by
  obtain⟨_,e,xs,rfl,q⟩:=zT S c;exact⟨xs,e,Ax S q⟩
 obtain⟨f,hf⟩:=Z0.mp exL;have s8:=rH ns 1 9;have kl:bG (bJ 0) none (ai dR (ae (aa 0) (ae (aa 1) ak))) ((iU ns 1 9).map PV.int) [none,some (.sh (lI N4))]=M.ok (((iU ns 1 9).map f).map tI):=by
  rw[TY];refine gj (inj:=PV.int) (iU ns 1 9) λc _=>?_;dsimp? [(hf c).1];rfl
 obtain⟨L0,hL0⟩:∃ L,L=(iU ns 1 9).map f:=⟨_,rfl⟩
 have k0:∀ l∈L0,Kp N4 l:=λl hl=>by
  rw[hL0] at hl;obtain⟨c,_,rfl⟩:=T_.mp hl;exact(hf c).2
 have m0:L0.length<=8:=by rw[hL0,S0];lia
 rw[<- hL0] at kl;obtain⟨T,N6,Q⟩:=iO.kept ns S m0 k0;obtain⟨OK,T',Ov,E⟩:=r0 Q;obtain⟨⟨PU,Q'⟩,ln⟩:=E.Q;obtain⟨QK,L1,T1,i1,Q1,RX,h1⟩:=E.cw;have V0:Vr ns N4 (dU N4 L0) (GT N4 T):=⟨_,_,_,_,rfl,Q,λ_=>Iff.rfl⟩
 have V1:Vr ns N4 (dU N4 OK) (An N4 (GT N4 T)):=⟨_,_,_,_,rfl,Q',E.an Q Q'⟩
 obtain⟨_,e2,_,raw2,L2,T2,i2,Q2,rfl,h2⟩:=CL V1;obtain⟨L3,T3,i3,e3,_,eL3⟩:=oS Q;obtain⟨L4,T4,i4,e4,_,eL4⟩:=oS Q';have en:nz N4.length T2=L3:=by
  rw[eL3];exact F0 (xQ Q2 Q λv=>(h2 v).symm.trans (FX V0 v))
 have en2:L4=OK:=by
  rw[eL4,RX];exact(F0 (xQ Q1 Q' h1)).symm
 have sp:∀ {OA Ls T N6},iO ns N4 OA Ls T N6->cv [tI (gK N4 T)]=M.ok (.int (aC N4.length (aL (vf N4) (DD T))))/\(aC N4.length (aL (vf N4) (DD T))).natAbs<2^490:=λ{OA Ls T N6} Q=>by
  obtain⟨b,c⟩:=vY Q;have p:=mU (q:=tI (gK N4 T)) (xs:=gK N4 T) rfl (by rw[c9];lia) b;rw[c9,c] at p;have q:=o7 (n8 b N4.length (by rw[c9];lia));rw[c] at q;exact⟨p,S_ q (Uv (by decide) (by lia))⟩
 obtain⟨s0,b0⟩:=sp Q;obtain⟨s1,b1⟩:=sp Q';have s2:=mU (q:=lI N4) (xs:=N4) rfl (by lia) λx hx=>by have:=S.hx x hx;lia
 have cm:aC N4.length (aL (vf N4) (DD T))*aC N4.length (aL (vf N4) (DD T'))=aC N4.length (vf N4):=by
  rw[E.c3,Vn];exact Q.pr
 have an:=E.an Q Q';have Px:∀ l∈OK,bY [tI l,.lst (L0.map tI),lI N4]=M.ok (.bl true):=λl hl=>by
  have k:=Q'.kp l hl;obtain⟨_,e,b,rfl,hb⟩:=oF (.inl rfl) Q k.1 k.2;obtain⟨i,hi,ei⟩:=sT hl;rw[e,hb.mpr λj hj=>(an _).mpr (by rw[<- ei];exact Q'.LO hi) _ (Q.LO hj)]
 refine iN.eq ?_;unfold sE AR;dsimp? [ec,es,j7,iI,Fx,show IU (.jV (ns.map PV.int)) (some 1) (some 9)=M.ok (.lst ((iU ns 1 9).map PV.int)) from xI ns 1 9,S0,av (aX (show (iU ns 1 9).length<=1000 by lia)),kl,Q.La (p:=lI N4) (f:=tI) (.inl rfl) rfl,E.ev,bU,LG];refine iN.loop (xs:=OK) (inj:=tI) (λzs env=>(∀ z∈zs,z∈OK)/\∃ y5,env=[some (.sh (.jV (ns.map PV.int))),some (.sh (lI N4)),some (.sh (.lst (L0.map tI))),some (.sh (dU N4 L0)),some (.sh (dU N4 OK)),y5,none,none,none,none]) ⟨λz h=>h,_,rfl⟩ ?_ ?_
 .rintro l r env ⟨hz,y5,rfl⟩;dsimp? [bJ,Px l (hz l Tp)];exact⟨_,rfl,λz h=>hz z (Tf _ h),_,rfl⟩
 rintro env ⟨_,y5,rfl⟩;dsimp? [e2,e3,e4,bU,LG,DB,en,en2,decide_true,Q.Gq,Q'.Gq,mj (m := "steps") rfl,l8 (N6:=N6) S Q.st,l8 (N6:=Ov) S Q'.st,s0,s1,s2,bf (k:=490) (l:=490) b0 b1,cm,j7,iI,Fx,show IU (.jV (ns.map PV.int)) (some 1) (some 63)=M.ok (.lst ((iU ns 1 63).map PV.int)) from xI ns 1 63,yH (iU ns 1 63) (by have:=rH ns 1 63;lia)];refine iN.loop (xs:=0::iU ns 1 63) (inj:=PV.int) (λzs env=>∃ y8 y9,env=[some (.sh (.jV (ns.map PV.int))),some (.sh (lI N4)),some (.sh (.lst (L0.map tI))),some (.sh (dU N4 L0)),some (.sh (dU N4 OK)),y5,some (.sh (kK N4 L0 T N6)),some (.sh (.int (aC N4.length (aL (vf N4) (DD T))))),y8,y9]) ⟨_,_,rfl⟩ ?_ ?_
 .rintro a r env ⟨y8,y9,rfl⟩;obtain⟨_,ex,xs,rfl,xk⟩:=xp S k0 m0 a;obtain⟨_,e5,b,rfl,hb⟩:=oF (p:=.tup (OK.map tI)) (.inr rfl) Q' xk.1 xk.2;have SG:b=true ↔ GT N4 T (vf xs):=by
   rw[hb];constructor
   .intro h;refine(FX V0 _).mp λu hu=>?_;obtain⟨P,hP⟩:=Q'.led ((an u).mp hu);exact nY (wx S) h hP
   .intro g l hl;rw[dh];exact(an _).mpr (Q'.LO hl) _ g
  by_cases g:GT N4 T (vf xs)
  .obtain⟨et,_⟩:=BS (k:=L0.length+1) S m0 Q.st (by lia) Q.I xk.JQ xk.2 g;obtain rfl:=SG.mpr g;dsimp? [bJ,ex,bU,LG,mj (m := "pulls_to") rfl,et,show ∀ xs:List Int,kA (tI xs) .cJ=M.ok (.bl true) from λ_=>rfl,e5,wI,decide_true];exact⟨_,rfl,_,_,rfl⟩
  .obtain rfl:b=false:=by
    cases b
    .rfl
    .exact absurd (SG.mp rfl) g
   have z:¬ lst N4 L0 T xs=SS N4.length 0:=λz=>g ((p8 Q xk).mp z);dsimp? [bJ,ex,bU,LG,mj (m := "pulls_to") rfl,Au (N6:=N6) S m0 Q.st (show L0.length+1<=9 by lia) xk.1 xk.2 z,show kA .cJ .cJ=M.ok (.bl false) from rfl,e5,wI,decide_true];exact⟨_,rfl,_,_,rfl⟩
 .rintro env ⟨y8,y9,rfl⟩;obtain⟨_,el,rfl⟩:=z_ Q E rfl;dsimp? [el];exact⟨_,rfl,rfl⟩
end wo
theorem PySem.Challenge.cw_dialvault_k44_whole_stills_of_stills_holds : PySem.Challenge.rw_dialvault_k44_whole_stills_of_stills.Holds :=
  wo.hold HD.said λns _ _ => wo.Jt ns
end