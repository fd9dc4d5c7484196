import PyProof.Rows.All
import Wide.All
import OpenK.AllK
import Wide.FinOn
import Lean
import PyProof.EqAt
import PyProof.EqKinds
import PyProof.TupleCall
import PySem.Challenge.RW_dialvault_k22_steps_of_small_vaults
set_option compiler.extract_closed false
set_option compiler.reuse false
set_option compiler.small 0
set_option Elab.async false
set_option linter.all false
set_option maxRecDepth 100000
set_option maxHeartbeats 0
open PySem renaming wpAny_bind->Rz,wpAny_pure->SA,wpAny_field->Tv,wpAny_seqItems->TN,wpAny_callSpecial?_slot->T4,wpAny_setField_rec->T9,wpAny_call_entry->Uc,wpAny_newObj_type->Ue,wpAny_truthy_bool->Us,wpAny_letGo->Uw,wpAny_holding->UE,wpAny_updateSeq->UT,wpAny_rule->U9,wpAny_mono->Vc,wpAny_pyIter_tuple->Ve,wpAny_onRaise->Vi,wpAny_attempt->Vj,plainId_quiet->Vl,wpAny_typeNameOfWhole_keyiter->Vp,wpAny_dictEntries->Vr,wpAny_passesOwn->VR,codeAny_builtin->VU,wpAny_typeNameOf_keyiter->V6,mem_of_lookup->V7,wpAny_setField->V_,wpAny_isInstance->Wb,wpAny_tryCatch->We,wpAny_Call_Name_kw->Wi,wpAny_loadPart'->Wn,wpAny_pyIter_list->Ww,wpAny_typeOf->WD,call_meets->WQ,wpAny_pyIter_enum->W8,wpAny_notOrdered_dict->Xh,wpAny_pyIter_zip->Xm,wpAny_updateSeq_pair->Xy,wpAny_letOwnedTupleGo_enum->X9,isSubtype_stop->X_,wpAny_binaryOp_repeat_ref->Yi,wpAny_letOwnedTupleGo_zip->Yj,wpAny_assign_Name->Yo,wpAny_of_eq->Yq,wpAny_standAt->Yw,noFill_tuple_add->YB,wpAny_pyNext_range_end->YQ,wpAny_pyIter_rangeiter->YR,typeIs_int->YW,codeAny_mono->YZ,wpAny_execs_nil->Zp,wpAny_ite_false->Zu,wpAny_dictEpoch->Zw,wpAny_specialOf->Zy,exec_Assign_Name_used->ZC,wpAny_isOneOf_keyiter->ZJ,wpAny_newTuple->ZS,wpAny_pyIter_keyiter->ZU,seq_tuple_add->Z7,wpAny_newList->aaa,wpAny_call->aah,Within->aan,concat_meets->aau,callType_new->aax,seqSlot_of->aaL
open PySem.Heap renaming get?_push_of_some->Sw,get?_push_size->SH,lt_size->SK,get?_update_other->S5,get?_update_self->TL,size_push->TM,SameBut->VW,ExtBut->aaT
open List renaming replicate->Sx,getElem?_eq_getElem->Sy,length_map->SG,getD_eq_getElem?_getD->SJ,mem_cons_of_mem->SO,mem_cons->SQ,mem_cons_self->SS,map_cons->S0,range->S1,size_toArray->S2,length_append->S6,mem_singleton->S7,mem_iff_getElem->S9,getElem?_map->Te,map_map->Ti,length_cons->Tj,getElem?_append_right->To,getElem?_eq_some_iff->Tw,mem_map->TF,mem_append_right->TJ,mem_append->TR,length_zipIdx->TV,getElem?_append_left->TX,getElem_mem->TZ,replicate_succ->Uh,length_range->Uj,mem_range->Uo,all_eq_true->Uq,mem_nil_iff->Ur,mem_append_left->Ut,append_assoc->Ux,append_nil->UC,of_mem_zip->UD,getElem_map->UJ,length_singleton->UP,find?_cons->US,length_zip->UW,zip_cons_cons->UX,lookup_cons->U0,pairwise_append->U1,flatten_cons->U8,drop_eq_getElem_cons->Va,set_cons_zero->Vf,eq_of_mem_replicate->Vm,nodup_cons->Vv,map_append->Vx,length_drop->VE,zipIdx_cons->VF,length_mapIdx->VI,perm_append_comm->VO,length_nil->VS,lookup->VX,map_nil->VY,getElem?_set->VZ,take_succ_eq_append_getElem->V1,forIn_nil->Wa,eq_nil_iff_forall_not_mem->Wc,length_eq_zero_iff->Wd,drop_eq_nil_of_le->Wj,map_replicate->Wm,foldl_cons->Wo,forIn_cons->Wq,getElem?_eq_none->Wt,eq_nil_or_concat->Wu,concat_eq_append->Wv,drop_eq_nil_iff->WC,take_length->WE,getElem_of_mem->WK,getElem?_range->WL,set_cons_succ->WR,getElem?_replicate->WU,ext_getElem?->W9,pairwise_map->Xa,take_of_length_le->Xf,nodup_append->Xg,length_take->Xl,any_cons->Xr,length->Xx,zipIdx_nil->XD,filterMap_cons->XM,length_zipWith->XO,map_eq_nil_iff->XR,getElem_zipIdx->XT,getD->X3,mem_filterMap->X5,foldl->X8,getElem_of_eq->Yg,fst_mem_of_mem_zipIdx->Yh,pairwise_iff_getElem->Yk,zip_nil_left->Yp,map_id->Ys,mem_reverse->YH,getElem_zip->YI,filter_cons_of_pos->YK,filter_cons_of_neg->YL,ext_getElem->YM,getElem?_set_self->YO,zipWith->Y3,length_pos_of_mem->Zn,mem_filter->Zo,nil_append->Zr,length_replicate->Zz,getElem?_toArray->ZE,mem_iff_getElem?->ZF,pairwise_reverse->ZH,dropLast_eq_take->ZK,getElem?_set_ne->ZN,mem_of_getElem?->ZP,getElem?_mapIdx->ZT,map_congr_left->Z5,length_pos_iff->Z6,zip_nil_right->aag,pairwise_cons->aaj,reverse_perm->aay,mapM_toArray->aaz,length_tail->aaM,mem_flatMap->aaR,length_set->aaZ,set_append->aa0,map_const'->aa3
open PySem.W renaming Frag->SD,findIn->T_,kia_one->Um,emptyDict->UO,fnOf->UR,keepIn->Vn,kitOne->Vo,instObj->Vu,codeIn->VG,lookIn->WY,InstAt->WZ,hasDictIn->W0,specialIn->W2,kitx_list->W3,kitx_dict->W4,plainGet->Xj,any_some->Xk,looks_findIn->Xw,takesIn->XC,plainGet_of->XN,kitAny->Yb,callWith_K->Yd,methodObj->Yn,mroIn->Yv,clsIn->Yx,isFn->YS,cellsFrom_some->YU,takerIn->Zq,findObj->Zt,methodCall_KW->ZD,kitx_float->aae,kitx_tuple->aaf,plainOver->aap,kitx_none->aaq,kitx_bool->aar,handedIn->aaE,kitx_int->aaF,kitx_str->aaG,kitx_own->aaH,makesIn->aaY,mg_of->aa7,KitX->aa8
open Nat renaming le_refl->SE,ne_of_lt->SW,zero_le->SX,lt_of_lt_of_le->S8,lt_or_ge->TU,le_trans->Ug,ne_of_gt->Uu,lt_succ_self->UG,le_add_right->UH,lt_of_le_of_lt->UY,pow_le_pow_right->U4,lt_irrefl->U6,lt_succ_of_lt->Vq,two_pow_pos->Vw,mul_le_mul_left->Vy,le_of_lt->Vz,succ_pos->Wk,mul_comm->W6,lt_trans->W7,succ_ne_self->Xo,mul_le_mul_right->XA,not_lt_zero->XG,min_le_left->XJ,add_zero->XX,lt_trichotomy->Yu,lt_succ_iff_lt_or_eq->YA,le_of_eq->YT,add_comm->YY,sub_zero->Y4,eq_zero_of_not_pos->Y5,lt_of_succ_lt_succ->Y9,zero_add->Ze,lcm->Zh,sub_self->Zm,le_succ->ZR,mul_le_mul->ZZ,eq_or_lt_of_le->aal,add_sub_cancel->aam,le_succ_of_le->aaA,pow_succ->aaB,max_eq_right->aaN,succ_lt_succ->aaQ,log2_lt->aaU,add_mul->aaW,mod_lt->aa5
open PyProof.Rows renaming wpS_bind->SM,wpS_pure->SY,callWith_type1->Uk,slot_tuple_getitem->Ul,wpS_forRange->Vk,wpS_mono->VJ,KK_mirror_equal->Wr,wpS_modify->Xq,wpS_get->XU,wpS_lift->YG,subscriptTail_builtinR->YV,listItems_at->Y6,pairsOf_size->Y7,boot_zip->ZA,entry_tuple_getitem->Z1,listUpdate_at->Z_
open PySem.Value renaming ref->SN,none->TY,type->Uy,bool->Vt,int->WT,builtin->Xu,str->XZ,float->ZM,notImplemented->ZQ
open PySem.W.Fast renaming te4187177175401517315->S_,te5923862056798008813->Tc,te14364793385576792824->Ua,te10110043849684766642->VC
open Option renaming map_eq_some_iff->Td,isSome_iff_exists->V2,bind_eq_some_iff->WW,getD_some->Xn,map_some->XI,bind_some->YD,isSome_map->aav,getD_none->aaJ
open Array renaming length_toList->Tf,getElem?_toList->Tu,toList_append->T7,getElem?_extract->Uv,getElem?_eq_some_iff->UA,size_extract->UB,getElem?_eq_none->UI,getElem?_eq_getElem->UL,perm_iff_toList_perm->VL,toList_reverse->Wz,eq_empty_of_size_eq_zero->Xp,mem_toList_iff->Xv,toList_setIfInBounds->Ye,toList_push->Yr,getElem_toList->ZV,append_empty->aai,toList->aao,toList_inj->aaO,size_map->aa4
open PySem.Builtin.SmallTypes renaming nextOf->Tg,ownedTupleIsFree->TQ,ownedTupleHandOut->UM
open Option.some renaming inj->Th
open PySem.Str renaming ofString->Tp
open Bool renaming false_ne_true->Tq,false_eq_true->T5,and_eq_true->Ui,and_eq_true_iff->V0,eq_iff_iff->XE,false_and->ZO,not_false->ZW,true_and->aac,and_true->aad
open Int renaming emod_lt_of_pos->Tt,gcd->TH,emod_nonneg->T3,mul_le_mul_of_nonneg_left->T8,mul_ediv_cancel_left->Ub,toNat_natCast->Ud,dvd_zero->UK,eq_of_mul_eq_mul_left->Vb,dvd_mul_left->Vh,eq_ofNat_of_zero_le->Vs,dvd_trans->VD,fdiv_eq_ediv_of_nonneg->VM,ediv_nonneg->VT,toNat_of_nonneg->V9,gcd_dvd_left->Wg,mul_le_mul_of_nonneg_right->Wh,mul_zero->Wl,emod_eq_of_lt->Wy,natAbs_mul->WA,one_mul->WB,toNat->WH,mul_assoc->WO,mul_nonpos_of_nonneg_of_nonpos->WS,natAbs_neg->Xc,le_trans->Xd,zero_mul->Xe,natAbs_ediv_le_natAbs->Ym,ediv_le_self->YN,mul_comm->Zb,lt_or_le->Zc,sub_zero->Zd,dvd_refl->Zg,sub_self->Zi,emod_def->Zj,add_zero->Zk,le_of_lt->Zl,natCast_mul->Zv,mul_ediv_add_emod->ZL,mul_nonneg->ZX,dvd_add->ZY,le_of_dvd->aab,mul_ediv_assoc->aak,gcd_dvd_right->aaC,lt_trichotomy->aaD,mul_one->aaS,mul_neg->aaV,neg_mul->aaX
open PySem.Builtin.Range renaming rangeSize->Tz,small->XQ,rangeFitsLong->XY
open Eq renaming trans->T6
open True renaming intro->Uz
open Ne renaming symm->UN
open PySem.AutoSeq1 renaming wpAny_loadPart'->UQ,sub_tuple_tuple->V3,idx_int->YE
open PyProof.Rows.KeyOrd renaming kle_refl->UU,kle_of_not_klt->VP,kle_of_klt->Wx,kle_trans->WG,klt_of_klt_of_kle->Yy,not_klt_of_kle->ZG,kle_antisymm->Z4
open PySem.Obj renaming data_mapFields->UZ,mapFields->U7,mapSeq->Vd,isFreed_of_fields->VN,cls_mapFields->aaw
open PySem.Around renaming under_plainId->U3,under->aas
open PySem.Builtin.List renaming listExtendWith->U5,listTooLong->WN,listSameRef->Yz,listItems->Y8
open PySem.PyData renaming canLay0->U_,int->Vg,depth->VB,canLayAll0->Xb,depthAll->XH
open PySem.Builtin.Builtins renaming bindParams->VA
open False renaming elim->VH
open PySem.Builtin.Slice renaming slicePlaces->VQ,sliceAdjust->WI,sliceApplied->X6
open PySem.Builtin.Tuple renaming tupleExact->V4,tupleHashOf->WJ,tupleItemsOf->X7,tupleTooMany->Yc
open List.Pairwise renaming imp_of_mem->V5,imp->Yt
open PySem.Heap.SameBut renaming update->V8
open List.Perm renaming append_left->Ws,append_right->W_
open PySem.F renaming args_tuple_add_2->WM,entry_tuple_add->WV,slot_tuple_add->W5,attr_ValueError->YC,plainAttrs_list->YF
open Sum renaming inl->WX,inr->Z0
open PySem.Builtin.Dict renaming showsAll->Xi,dictSlotNone->Yl,updateFrom->YJ
open PySem.NameKind renaming free->Xs,cell->Z8
open PySem.Shared renaming heap->Xz,TypeIs->aa6
open PySem.Builtin.Dict_items renaming ownsTuple->XF
open PySem.Builtin.Int renaming intBits->XS
open PySem.Calls renaming Name_function_global->X4,callWith_builtin->YX
open PySem.Walks renaming list->Y0
open PUnit renaming unit->Y_
open Nat.succ renaming inj->Za
open ForInStep renaming yield->Zs
open Classical renaming choose_spec->ZI,choose->aaP
open PySem.EntryCells renaming newEntry->Z2
open PySem.CmpOf renaming ints_gt->Z9
open PySem.Code renaming isFrame->aat
open PyProof.Rows.IsTup renaming new->aaI
open PySem.Flow renaming next->aaK
open Array.Perm renaming refl->aa1
open PySem.W.Frag renaming In->aa2
open List.modifyTailIdx renaming go->aa9
set_option hygiene false
local macro_rules|`(⋯)=>`(by lia)
local macro_rules|`(↑$n:num)=>#[`(starEach (e::es) X.env=(false,eval e X.env)::starEach es X.env),`(X.fn x=true\/X.env.scope.names.lookup x=some .local),`((backTo pos (starEach es X.env)).any (·.1)=false),`(by first|exact .inl rfl|exact .inr (.inl rfl)),`(.cons rfl rfl (by walk_at "l") rfl rfl .nil),`(∀x,foldedSetIterable iter X.env x=pure x),`((x==("__classdict__" : Str))=false),`((x==("__debug__" : Str))=false),`(model X.prog X.w),`(by walk_at "l"),`(by kernel_rfl),`(model prog w),`(by decide),`(by simp)][n.getNat]!
noncomputable section
def aR(h:True:=by rfl):True:=h
def aD(h:True:=by decide):True:=h
def aI(h:True:=by intro _;rfl):True:=h
def aK(h:True:=by kernel_rfl):True:=h
def aF(h:True:=by first|exact .inl rfl|exact .inr rfl|assumption):True:=h
def aU(h:True:=by with_unfolding_all rfl):True:=h
def aN(h:True:=by decide +kernel):True:=h
def aG(h:True:=by first|exact .inl rfl|exact .inr rfl):True:=h
namespace L2
open PySem PySem.Spec PyProof.Rows
abbrev Key:=Sum Int Str
def se:Key->Value->Bool
 | .inl k,v=>Value.isInt k v
 |.inr x,v=>Value.isStrOf x v
def Mj(w:World):Key->Int
 | .inl k=>hashInt k
 |.inr x=>hashStr w x
def bZ:∀{k:Key}{v:Value},se k v=true->(∃i t,k=WX i/\v=WT i t)\/(∃x t,k=Z0 x/\v=XZ x t)
 | .inl i,v,h=>by
  obtain⟨t,e⟩:=Value.isInt_shape (k:=i) (v:=v) h;exact .inl ⟨i,t,rfl,e⟩
 | .inr x,v,h=>by
  obtain⟨t,e⟩:=Value.isStrOf_shape (x:=x) (v:=v) h;exact .inr ⟨x,t,rfl,e⟩
def yS(i:Int)(t:Tok):se (.inl i) (.int i t)=true:=by simp[se,Value.isInt]
def zt(x:Str)(t:Tok):se (.inr x) (.str x t)=true:=by simp[se,Value.isStrOf]
def HN(a b:Int):decide ((WX a:Key)=WX b)=(a==b):=by
 by_cases e:a=b
 .subst e;simp
 .have h:¬ (WX a:Key)=WX b:=λq=>e (Sum.inl.inj q);rw[decide_eq_false h];exact(beq_eq_false_iff_ne.mpr e).symm
def Iz(a b:Str):decide ((Z0 a:Key)=Z0 b)=decide (a=b):=by
 by_cases e:a=b
 .subst e;simp
 .have h:¬ (Z0 a:Key)=Z0 b:=λq=>e (Sum.inr.inj q);rw[decide_eq_false h,decide_eq_false e]
def Jh(a:Int)(b:Str):decide ((WX a:Key)=Z0 b)=false:=decide_eq_false (λq=>nomatch q)
def HR(a:Str)(b:Int):decide ((Z0 a:Key)=WX b)=false:=decide_eq_false (λq=>nomatch q)
def bP(prog:Program)(w:World):PySem.KeyKind prog w Key where
 is:=se
 hash:=Mj w
 inj:=λv a b ha hb=>by
  rcases bZ ha with ⟨i,t,rfl,rfl⟩|⟨x,t,rfl,rfl⟩
  .rcases bZ hb with ⟨j,u,rfl,e⟩|⟨y,u,rfl,e⟩
   .injection e with e1 _;rw[e1]
   .exact nomatch e
  .rcases bZ hb with ⟨j,u,rfl,e⟩|⟨y,u,rfl,e⟩
   .exact nomatch e
   .injection e with e1 _;rw[e1]
 byValue:=λk v h=>by
  rcases bZ h with ⟨i,t,rfl,rfl⟩|⟨x,t,rfl,rfl⟩<;>rfl
 pyHash:=λhv h=>by
  rcases bZ hv with ⟨i,t,rfl,rfl⟩|⟨x,t,rfl,rfl⟩
  .exact wpAny_pyHash_int h
  .exact wpAny_pyHash_str h
 eqBool:=λhu hv h=>by
  rcases bZ hu with ⟨i,t,rfl,rfl⟩|⟨x,t,rfl,rfl⟩
  .rcases bZ hv with ⟨j,u,rfl,rfl⟩|⟨y,u,rfl,rfl⟩
   .rw[HN] at h;exact wpAny_eqBool_int h
   .rw[Jh] at h;exact SeqAt.EqAt.int_str i t y u _ _ _ _ h
  .rcases bZ hv with ⟨j,u,rfl,rfl⟩|⟨y,u,rfl,rfl⟩
   .rw[HR] at h;exact SeqAt.EqAt.str_int x t j u _ _ _ _ h
   .rw[Iz] at h;exact wpAny_eqBool_str h
 «strs»:=λk x t v h=>by
  rcases bZ h with ⟨i,u,rfl,e⟩|⟨y,u,rfl,e⟩
  .exact nomatch e
  .injection e with e1 _
   subst e1;cases v<;>rfl
def vy(prog:Program)(w:World)(i:Int)(t:Tok):(bP prog w).is (.inl i) (.int i t)=true:=yS i t
def vG(prog:Program)(w:World)(x:Str)(t:Tok):(bP prog w).is (.inr x) (.str x t)=true:=zt x t
inductive V where
 | dq|bl (b:Bool)|int (i:Int)|str (x:Str)|byt (b:Array UInt8)|F_ (b:UInt64)|ref (a:Addr)|ty (n:String)
 deriving DecidableEq
def RelV:V->Value->Prop
 | .dq,u=>u=TY
 | .bl b,u=>u=Vt b
 | .int i,u=>∃t,u=WT i t
 | .str x,u=>∃t,u=XZ x t
 | .byt b,u=>∃t,u=Value.bytes b t
 | .F_ b,u=>∃t,u=ZM b t
 | .ref a,u=>u=SN a
 |.ty n,u=>u=Uy n
abbrev Vals:List V->List Value->Prop:=Paired RelV
theorem Vals.length{xs:List V}{us:List Value}(r:Vals xs us):xs.length=us.length:=Paired.length r
theorem Vals.get:∀{xs:List V}{us:List Value}{i:Nat}{x:V},Vals xs us->xs[i]?=some x->∃u,us[i]?=some u/\RelV x u
 | _,_,_,_,.nil,e=>by simp at e
 | _,_,0,_,.cons r _,e=>by simp at e;subst e;exact⟨_,rfl,r⟩
 | _,_,i+1,x,.cons _ t,e=>by
  obtain⟨u,h1,h2⟩:=Vals.get (i:=i) (x:=x) t (by simpa using e);exact⟨u,by simpa using h1,h2⟩
theorem Vals.append:∀{xs ys:List V}{us ws:List Value},Vals xs us->Vals ys ws->Vals (xs++ys) (us++ws)
 | _,_,_,_,.nil,s=>s
 |_,_,_,_,.cons r t,s=>.cons r (Vals.append t s)
theorem Vals.take:∀{xs:List V}{us:List Value}(n:Nat),Vals xs us->Vals (xs.take n) (us.take n)
 | _,_,0,_=>.nil
 | _,_,_+1,.nil=>.nil
 |_,_,n+1,.cons r t=>.cons r (Vals.take n t)
theorem Vals.drop:∀{xs:List V}{us:List Value}(n:Nat),Vals xs us->Vals (xs.drop n) (us.drop n)
 | _,_,0,r=>r
 | _,_,_+1,.nil=>.nil
 |_,_,n+1,.cons _ t=>Vals.drop n t
def ko:Option V->Option Value->Prop
 | some v,some u=>RelV v u
 | none,none=>True
 |_,_=>False
def KV{κ:Type}:List (κ×V)->List (κ×Value)->Prop:=Paired λ(p:κ×V) (q:κ×Value)=>p.1=q.1/\RelV p.2 q.2
def kV:Key->V
 | .inl i=>.int i
 |.inr x=>.str x
inductive HO where
 | lst (xs:List V)
 | tup (xs:List V)
 | dK (Oa:List (Key×V))|dT (Oa:List (List Key×V))
 | set (S:Int->Bool) (n:Nat)
 | ins (C dx:Addr) (fs:List (Str×V))
 | own (x:Addr)
 | xd (fs:List (Str×V))
 | met (f x:Addr)
 | kM (lo hi:Int)
 | jx (o:Obj) (u:HO)
 | JI (ps:Array Value)
 |ext (φ:Heap->Prop)
abbrev Hp:=Addr->Option HO
def upd(H:Hp)(a:Addr)(o:HO):Hp:=λb=>if b=a then some o else H b
variable{H:Hp}
def ay{a:Addr}{o:HO}:upd H a o a=some o:=by unfold upd;rw[if_pos rfl]
variable{b:Addr}
def au{a:Addr}{o:HO}(h:b≠a):upd H a o b=H b:=by unfold upd;rw[if_neg h]
def Ai{a:Addr}{o u:HO}(h:H a=some o)(h':H b=some u)(d:o≠u):a≠b:=by
 intro e;subst e;rw[h] at h';exact d (Th h')
def bB{a:Addr}{o:HO}(h:H a=some o)(h':H b=none):a≠b:=by
 intro e;subst e;rw[h] at h';cases h'
section
variable(P:Program)(w:World)
def bf(H:Hp)(h:Heap)(a:Addr):HO->Prop
 | .lst xs=>xs.length<=sizeLine/\∃(Ob:List Value)(n:Nat),Vals xs Ob/\h.get? a=some { cls:=.type "list",data:=.seq Ob.toArray n }
 | .tup xs=>xs.length<=sizeLine/\∃Ob:List Value,Vals xs Ob/\IsTup h a Ob.toArray
 | .dK Oa=>Oa.length<=sizeLine/\(a==sysModules)=false/\∃vs,KV Oa vs/\h.DictOf (bP P w) a vs
 | .dT Oa=>Oa.length<=sizeLine/\(a==sysModules)=false/\∃xs:List (List Key×Addr×Value),
   Paired (λ(p:List Key×V) (q:List Key×Addr×Value)=>p.1=q.1/\H q.2.1=some (.tup (p.1.map kV))/\RelV p.2 q.2.2) Oa xs ∧
   ∃o es ep,h.get? a=some o/\o.ExactDict/\o.data=.dict es ep/\es.toList=xs.map (entryOfKey (tupleKind (bP P w)))/\(xs.map (·.1)).Nodup
 | .set S n=>h.SetOf (intKind P w) a S n
 | .ins C dx fs=>H dx=some (.own a)/\fs.length<=1000/\dx≠a/\h.get? a=some (Vu C dx) ∧
   ∃mA,h.Ns1 dx mA/\(∀f,ko (fs.lookup f) (mA f))/\aan mA (fs.map (·.1))
 | .own _=>∃o,h.get? a=some o
 | .xd fs=>∃mA,h.Ns1 a mA/\∀f,ko (fs.lookup f) (mA f)
 | .kM lo hi=>∃t u v,h.get? a=some { cls:=.type "range",data:=.fields #[.int lo t,.int hi u,.int 1 v] }
 | .jx o u=>h.get? a=some o/\bf H h a u
 | .JI ps=>h.get? a=some { cls:=.none,data:=.fields ps }
 | .met f x=>h.get? a=some (Yn (.ref f) (.ref x))
 |.ext φ=>φ h/\(∃o,h.get? a=some o)/\∀h1 h2:Heap,φ h1->(∀o,h1.get? a=some o->h2.get? a=some o)->φ h2
def kI(H:Hp)(h:Heap):Prop:=∀a o,H a=some o->bf P w H h a o
end
variable{h h':Heap}{H':Hp}{w:World}{P:Program}
section
variable{a:Addr}{o:HO}
theorem bf.lt(x:bf P w H h a o):a<h.objs.size:=by
 cases o with
 | lst xs=>obtain⟨_,_,_,_,e⟩:=x;exact SK e
 | tup xs=>obtain⟨_,_,_,p⟩:=x;exact p.lt
 | dK Oa=>obtain⟨_,_,_,_,o,_,_,e,_⟩:=x;exact SK e
 | dT Oa=>obtain⟨_,_,_,_,o,_,_,e,_⟩:=x;exact SK e
 | set S n=>obtain⟨o,_,_,_,e,_⟩:=x;exact SK e
 | ins C dx fs=>obtain⟨_,_,_,e,_⟩:=x;exact SK e
 | own y=>obtain⟨_,e⟩:=x;exact SK e
 | xd fs=>obtain⟨_,⟨_,_,_,e,_⟩,_⟩:=x;exact SK e
 | kM lo hi=>obtain⟨_,_,_,e⟩:=x;exact SK e
 | jx ob u=>obtain⟨e,_⟩:=x;exact SK e
 | JI ps=>exact SK (show h.get? a=some _ from x)
 | met f y=>exact SK (show h.get? a=some _ from x)
 |ext φ=>obtain⟨_,⟨_,e⟩,_⟩:=x;exact SK e
theorem Paired.EW{α β:Type}{F G:α->β->Prop}:∀{l₁:List α}{l₂:List β},Paired F l₁ l₂->(∀a b,F a b->G a b)->Paired G l₁ l₂
 | _,_,.nil,_=>.nil
 |_,_,.cons r t,f=>.cons (f _ _ r) (Paired.EW t f)
def Paired.imp'{α β:Type}{F G:α->β->Prop}(f:∀a b,F a b->G a b){l₁:List α}{l₂:List β}(r:Paired F l₁ l₂):Paired G l₁ l₂:=Paired.EW r f
def bf.qE(x:bf P w H h a o)(k:∀b u,(b=a\/H b=some (.own a))->h.get? b=some u->h'.get? b=some u)(ho:∀b,H b=some (.own a)->H' b=some (.own a))(ht:∀b xs,H b=some (.tup xs)->H' b=some (.tup xs)):bf P w H' h' a o:=by
 induction o with
 | lst xs=>obtain⟨z,Ob,n,r,e⟩:=x;exact⟨z,Ob,n,r,k _ _ (.inl rfl) e⟩
 | tup xs=>obtain⟨z,Ob,r,ob,e,c⟩:=x;exact⟨z,Ob,r,ob,k _ _ (.inl rfl) e,c⟩
 | dK Oa=>obtain⟨z,y,vs,r,ob,es,ep,e,c⟩:=x;exact⟨z,y,vs,r,ob,es,ep,k _ _ (.inl rfl) e,c⟩
 | dT Oa =>
  obtain⟨z,y,xs,r,ob,es,ep,e,c⟩:=x;exact⟨z,y,xs,Paired.EW r λp q z=>⟨z.1,ht _ _ z.2.1,z.2.2⟩,ob,es,ep,k _ _ (.inl rfl) e,c⟩
 | set S n=>obtain⟨ob,es,ep,t,e,c⟩:=x;exact⟨ob,es,ep,t,k _ _ (.inl rfl) e,c⟩
 | ins C dx fs =>
  obtain⟨d,z,ne,e,mA,⟨od,es,ep,e2,c⟩,r⟩:=x;exact⟨ho _ d,z,ne,k _ _ (.inl rfl) e,mA,⟨od,es,ep,k _ _ (.inr d) e2,c⟩,r⟩
 | own y=>obtain⟨ob,e⟩:=x;exact⟨ob,k _ _ (.inl rfl) e⟩
 | xd fs=>obtain⟨mA,⟨od,es,ep,e,c⟩,r⟩:=x;exact⟨mA,⟨od,es,ep,k _ _ (.inl rfl) e,c⟩,r⟩
 | kM lo hi=>obtain⟨t,u,v,e⟩:=x;exact⟨t,u,v,k _ _ (.inl rfl) e⟩
 | jx ob u ih=>obtain⟨e,q⟩:=x;exact⟨k _ _ (.inl rfl) e,ih q⟩
 | JI ps =>
  have e:h.get? a=some { cls:=.none,data:=.fields ps }:=x;show h'.get? a=some { cls:=.none,data:=.fields ps };exact k a _ (.inl rfl) e
 | met f y =>
  have e:h.get? a=some (Yn (.ref f) (.ref y)):=x;show h'.get? a=some (Yn (.ref f) (.ref y));exact k a _ (.inl rfl) e
 |ext φ=>obtain⟨p,⟨o,e⟩,st⟩:=x;exact⟨st _ _ p λo q=>k _ _ (.inl rfl) q,⟨o,k _ _ (.inl rfl) e⟩,st⟩
theorem kI.lt(x:kI P w H h)(e:H a=some o):a<h.objs.size:=(x a o e).lt
def kI.fresh(x:kI P w H h)(e:h.objs.size<=a):H a=none:=by
 cases q:H a with
 | none=>rfl
 |some u=>exact absurd (S8 (x.lt q) e) (U6 _)
def kI.kept(x:kI P w H h)(k:∀b u,h.get? b=some u->h'.get? b=some u):kI P w H h':=λa o e =>
 (x a o e).qE (λb u _ q=>k b u q) (λ_ q=>q) λ_ _ q=>q
def kI.laid(x:kI P w H h)(k:∀b u,h.get? b=some u->h'.get? b=some u)(hp:h.objs.size<=a)(new:bf P w (upd H a o) h' a o):kI P w (upd H a o) h':=λb u e=>by
 have hn:=x.fresh hp
 by_cases hb:b=a
 .subst hb;rw[ay] at e;cases e;exact new
 .rw[au hb] at e;exact(x b u e).qE (λc v _ q=>k c v q) (λc q=>by rwa[au (bB q hn)]) λc xs q=>by rwa[au (bB q hn)]
end
def Rd(H:Hp)(a:Addr)(u:HO):Prop:=H a=some u\/∃o,H a=some (.jx o u)
def Rd.ok{a:Addr}{u:HO}(r:Rd H a u)(x:kI P w H h):bf P w H h a u:=by
 rcases r with r|⟨o,r⟩
 .exact x a u r
 .obtain⟨_,q⟩:=x a _ r;exact q
def K3:Option HO->Prop
 | some (.lst _)=>True
 | some (.dK _)=>True
 | some (.dT _)=>True
 | some (.set _ _)=>True
 | some (.ins _ _ _)=>True
 | some (.ext _)=>True
 |_=>False
section
variable{x e:Addr}{o':HO}
def kI.write(ok:kI P w H h)(mu:K3 (H x))(he:e=x\/H e=some (.own x))(k:∀b u,b≠e->h.get? b=some u->h'.get? b=some u)(RJ:∃u,h'.get? e=some u)(new:bf P w (upd H x o') h' x o'):kI P w (upd H x o') h':=λb u q=>by
 have Sq:∀c y,H c=some (.own y)->c≠x:=λc y r z=>by subst z;rwa[r] at mu
 have ntup:∀c xs,H c=some (.tup xs)->c≠x:=λc xs r z=>by subst z;rwa[r] at mu
 by_cases hb:b=x
 .subst hb;rw[ay] at q;cases q;exact new
 .rw[au hb] at q
  by_cases Qy:b=e
  .have q':H b=some (.own x):=by
    rcases he with z|z
    .exact absurd (Qy.trans z) hb
    .rw[Qy];exact z
   rw[q] at q';cases q';obtain⟨v,hv⟩:=RJ;exact⟨v,by rwa[Qy]⟩
  .refine(ok b u q).qE (λc v hc r=>k c v ?_ r) (λc r=>by rwa[au (Sq c b r)]) λc xs r=>by rwa[au (ntup c xs r)]
   rcases hc with rfl|hc
   .exact Qy
   .rintro rfl;rcases he with z|z
    .exact Sq c b hc z
    .rw[hc] at z;cases z;exact hb rfl
end
structure Un (fs ex:List Addr) (H H':Hp) (h h':Heap):Prop where
 keep:∀b o,h.get? b=some o->H b=none->b ∉ fs->b ∉ ex->h'.get? b=some o
 slot:∀b o,h.get? b=some o->H b=none->b∈fs->b ∉ ex->∃sl,h'.get? b=some { o with slots:=sl }
 free:∀b o,h.get? b=some o->H b=none->b ∉ ex->H' b=none
 there:∀b o,h.get? b=some o->b ∉ ex->∃o',h'.get? b=some o'
 kR:∀b xs,H b=some (.tup xs)->H' b=some (.tup xs)
 m7:∀b o u,H b=some (.jx o u)->H' b=some (.jx o u)
 tV:∀b ps,H b=some (.JI ps)->∃more,H' b=some (.JI (ps++more))
section
variable{fs fs' ex ex':List Addr}{H1 H2:Hp}{h1 h2:Heap}{a x e:Addr}{o:HO}
def Un.any(u:Un fs ex H H1 h h1){ob:Obj}(q:h.get? b=some ob)(n:H b=none)(hx:b ∉ ex):∃sl,h1.get? b=some { ob with slots:=sl }:=by
 by_cases hb:b∈fs
 .exact u.slot b ob q n hb hx
 .exact⟨ob.slots,u.keep b ob q n hb hx⟩
def Un.kept(k:∀b u,h.get? b=some u->h'.get? b=some u):Un fs ex H H h h' :=
 ⟨λb ob q _ _ _=>k b ob q,λb ob q _ _ _=>⟨ob.slots,k b ob q⟩,λ_ _ _ n _=>n,λb ob q _=>⟨ob,k b ob q⟩,λ_ _ q=>q,λ_ _ _ q=>q,λ_ ps q=>⟨#[],by rw[q];simp⟩⟩
def Un.refl:Un fs ex H H h h:=Un.kept λ_ _ q=>q
def Un.laid(k:∀b u,h.get? b=some u->h'.get? b=some u)(hp:h.objs.size<=a)(hn:H a=none):Un fs ex H (upd H a o) h h' where
 keep:=λb u q _ _ _=>k b u q
 slot:=λb u q _ _ _=>⟨u.slots,k b u q⟩
 free:=λb u q n _=>by rwa[au (SW (S8 (SK q) hp))]
 there:=λb u q _=>⟨u,k b u q⟩
 kR:=λb xs q=>by rwa[au (bB q hn)]
 m7:=λb u xs q=>by rwa[au (bB q hn)]
 tV:=λb ps q=>⟨#[],by rw[au (bB q hn),q];simp⟩
def Un.write(mu:K3 (H x))(he:e=x\/H e=some (.own x))(k:∀b u,b≠e->h.get? b=some u->h'.get? b=some u)(RJ:∃u,h'.get? e=some u):Un fs ex H (upd H x o) h h':=by
 have hx:∀b,H b=none->b≠x:=λb n z=>by subst z;rwa[n] at mu
 have hb:∀b,H b=none->b≠e:=λb n z=>by
  subst z;rcases he with r|r
  .exact hx b n r
  .rw[n] at r;cases r
 have hm:∀b u,H b=some u->¬ K3 (some u)->b≠x:=λb u q nm z=>by subst z;rw[q] at mu;exact nm mu
 refine⟨λb u q n _ _=>k b u (hb b n) q,λb u q n _ _=>⟨u.slots,k b u (hb b n) q⟩,λb u q n _=>by rwa[au (hx b n)],λb u q _=>?_,
  λb xs q=>by rwa[au (hm b _ q λz=>z)],λb u xs q=>by rwa[au (hm b _ q λz=>z)],λb ps q=>⟨#[],by rw[au (hm b _ q λz=>z),q];simp⟩⟩
 by_cases Qy:b=e
 .subst Qy;exact RJ
 .exact⟨u,k b u Qy q⟩
end
def L8(h:Heap)(H:Hp):List Addr:=(S1 h.objs.size).filter λa=>(H a).isSome
def tF(h:Heap)(H:Hp):Heap:=PySem.W.hideAll h (L8 h H)
def zh(h:Heap)(H:Hp):(tF h H).objs.size=h.objs.size:=PySem.W.hideAll_size _ _
variable{o:Obj}
def Ci(e:h.get? b=some o)(n:H b=none):(tF h H).get? b=some o :=
 PySem.W.hideAll_get _ e λhm=>by
  have q:(H b).isSome=true:=(Zo.mp hm).2;rw[n] at q;simp at q
def Fs(e:(tF h H).get? b=some o):h.get? b=some o/\H b=none:=by
 have e':h.get? b=some o:=PySem.W.of_hideAll (L8 h H) e;refine⟨e',?_⟩;cases q:H b with
 | none=>rfl
 | some x =>
  have hm:b∈L8 h H:=Zo.mpr ⟨Uo.mpr (SK e'),by simp[q]⟩;have z:(tF h H).get? b=none:=PySem.W.hideAll_none (L8 h H) hm;rw[z] at e;cases e
def E7(g h:Heap)(L:Addr):List (Addr×Obj):=(S1 h.objs.size).filterMap λa=>if a=L\/(g.get? a).isSome=true then none else (h.get? a).map λo=>(a,o)
def rest(g h:Heap)(L d:Addr):List (Addr×Obj):=(E7 g h L).filter λp=>decide (p.1≠d)
structure Mod (K:SD) (mg:Str->Option Value) (base:Heap):Prop where
 J2:K.In base
 glob:base.Ns mainGlobals mg
 blt:∃mb,base.Ns builtinsNs mb/\∀x:Str,x ≠ "__name__" -> mb x=bootBuiltins x
 nolimit:base.NoLimit
structure Cx where
 prog:Program
 w:World
 K:SD
 mg:Str->Option Value
 base:Heap
 A:Around
 N:List Str
 s₀:Shared
 H₀:Hp
 env:Env
 outer:List Env
 stack:List Env
 ex:List Addr
 fn:Str->Bool
 calm:Bool
 pn:List (Addr×Obj)
 xe:Value->Shared->Prop
def vY(l:List Env):List Addr:=l.filterMap (·.frame)
abbrev Cx.fs(X:Cx):List Addr:=vY X.outer
def AN(sc:Scope)(x:Str):Prop:=sc.names.lookup x=some .local\/sc.names.lookup x=some .cell\/sc.names.lookup x=some .free
def Loc(sc:Scope)(x:Str):Prop:=sc.names.lookup x=some .local\/sc.names.lookup x=some .cell
def Look(env:Env)(h:Heap)(m:Str->Option Value)(x:Str)(u:Value):Prop :=
 (env.kindOf x=some .local/\m x=some u)\/((env.kindOf x=some .cell\/env.kindOf x=some .free)/\∃c,env.cells.lookup x=some c/\h.IsCell c (some u))
structure Cx.Ok (X:Cx):Prop where
 mod:Mod X.K X.mg X.base
 kind:X.env.scope.kind=.function
 glob:X.env.globals=mainGlobals
 blt:X.env.builtins=builtinsNs
 above:X.s₀.heap.objs.size<=X.env.locals
 inj:∀x y c,X.env.cells.lookup x=some c->X.env.cells.lookup y=some c->x=y
 has:∀x,(X.env.kindOf x=some .cell\/X.env.kindOf x=some .free)->∃c,X.env.cells.lookup x=some c
 J9:∀x c,X.fn x=true->X.env.cells.lookup x=some c->X.s₀.heap.objs.size<=c
 hd:X.calm=true->X.A.handled=none
 frames:X.A.frames=some X.stack
 Mb:X.stack=X.outer\/(X.stack=X.env::X.outer/\X.env.frame=some X.env.locals)
 MT:∀b∈X.ex,b≠X.env.locals/\∀x c,X.env.cells.lookup x=some c->c≠b
 bs:∀b o,X.base.get? b=some o->X.s₀.heap.get? b=some o/\X.H₀ b=none
 Gz:X.base.objs.size<=X.s₀.heap.objs.size
 yH:∀b o,X.base.get? b=some o->b ∉ X.ex
 Bm:∀b∈X.ex,b ∉ X.fs
 nM:X.s₀.heap.FunFrames X.base X.outer
 IA:∀b∈X.fs,X.H₀ b=none
structure Inv (X:Cx) (N9:List (Addr×Obj)) (σ:List (Option V)) (H:Hp) (s:Shared):Prop where
 ok:X.Ok
 os:s.os=X.s₀.os
 bare:AllBare s.gens
 base:Un X.fs X.ex X.H₀ H X.s₀.heap s.heap
 loc:∃m,s.heap.Ns X.env.locals m/\∀(i:Nat)(x:Str)(v:V),X.N[i]?=some x->σ[i]?=some (some v)->AN X.env.scope x->∃u,RelV v u/\Look X.env s.heap m x u
 cell:∀x c,X.env.cells.lookup x=some c->∃v,s.heap.IsCell c v
 free:H X.env.locals=none
 kN:∀x c,X.env.cells.lookup x=some c->H c=none
 pin:∀p∈X.pn++N9,s.heap.get? p.1=some p.2/\H p.1=none/\p.1≠X.env.locals/\p.1 ∉ X.fs/\∀v,p.2.data≠.cell v
 br:kI X.prog X.w H s.heap
 len:σ.length=X.N.length
variable{s:Shared}{N9:List (Addr×Obj)}{X:Cx}
variable{ch:List Addr}{d':Drawn}{t':Nat}{g':Array GenState}
variable{it:Addr}
variable{x:Str}{i:Nat}{N:List Str}
variable{u:Value}{v:V}{E:Value->Shared->Prop}{A:Around}
section
variable{σ:List (Option V)}
def Cx.Ok.Mv(ok:X.Ok)(e:X.base.get? b=some o):b ∉ X.fs:=λhb=>by
 have:=(ok.nM.mem hb).1;rw[e] at this;cases this
theorem Inv.bs(I:Inv X N9 σ H s):∀b o,X.base.get? b=some o->s.heap.get? b=some o/\H b=none:=λb o e =>
 ⟨I.base.keep b o (I.ok.bs b o e).1 (I.ok.bs b o e).2 (I.ok.Mv e) (I.ok.yH b o e),I.base.free b o (I.ok.bs b o e).1 (I.ok.bs b o e).2 (I.ok.yH b o e)⟩
def Inv.bk(I:Inv X N9 σ H s):∀b o,X.base.get? b=some o->s.heap.get? b=some o:=λb o e=>(I.bs b o e).1
theorem Inv.mod(I:Inv X N9 σ H s):Mod X.K X.mg X.base:=I.ok.mod
def Inv.mq(I:Inv X N9 σ H s):X.K.In s.heap:=I.ok.mod.J2.keeps I.bk
theorem Inv.lt(I:Inv X N9 σ H s):X.env.locals<s.heap.objs.size:=let ⟨_,hn,_⟩:=I.loc;hn.lt
def Inv.sz(I:Inv X N9 σ H s):X.s₀.heap.objs.size<=s.heap.objs.size:=Ug I.ok.above (Vz I.lt)
def Inv.MJ(I:Inv X N9 σ H s){a:Addr}(h:s.heap.objs.size<=a):a ∉ X.fs:=λhb=>by
 obtain⟨_,o,ho,_⟩:=I.ok.nM.mem hb;exact absurd (S8 (SK ho) (Ug I.sz h)) (U6 _)
def Inv.JV(I:Inv X N9 σ H s):∀x c,X.env.cells.lookup x=some c->c≠X.env.locals:=λx c e z=>by
 obtain⟨v,o,ho,hd⟩:=I.cell x c e;obtain⟨m,⟨o',es,ep,PU,Q1,_⟩,_⟩:=I.loc;rw[z,PU] at ho;cases ho;rw[Q1] at hd;cases hd
theorem Inv.nM(I:Inv X N9 σ H s):s.heap.FunFrames X.base X.outer:=by
 have all:∀(l:List Env),(∀b∈vY l,b∈X.fs)->X.s₀.heap.FunFrames X.base l->s.heap.FunFrames X.base l:=by
  intro l
  induction l with
  | nil=>intro _ _;trivial
  | cons env r ih =>
   intro hs hl;obtain⟨hk,⟨L,o,hf,hn,ho,hd⟩,hr⟩:=hl;have hL:L∈X.fs:=hs L (by unfold vY;rw[XM,hf];exact SS);obtain⟨sl,e⟩:=I.base.slot L o ho (I.ok.IA L hL) hL λz=>I.ok.Bm L z hL;exact⟨hk,⟨L,_,hf,hn,e,hd⟩,ih (λb hb=>hs b (by unfold vY;rw[XM,hf];exact SO _ hb)) hr⟩
 exact all X.outer (λ_ hb=>hb) I.ok.nM
theorem Inv.stack(I:Inv X N9 σ H s):s.heap.FunFrames X.base X.stack:=by
 rcases I.ok.Mb with e|⟨e,hf⟩
 .rw[e];exact I.nM
 .rw[e];obtain⟨m,hn,_⟩:=I.loc;refine .cons (by rw[I.ok.kind];decide) hf hn ?_ I.nM;exact Heap.get?_none_of_le (Ug I.ok.Gz I.ok.above)
def Inv.uh(I:Inv X N9 σ H s):∀b∈vY X.stack,b∈X.env.locals::X.fs:=λb hb=>by
 rcases I.ok.Mb with e|⟨e,hf⟩
 .rw[e] at hb;exact SO _ hb
 .rw[e] at hb;unfold vY at hb;rwa[XM,hf] at hb
def Inv.tJ(I:Inv X N9 σ H s):∀b∈vY X.stack,H b=none:=λb hb=>by
 rcases SQ.mp (I.uh b hb) with e|hb
 .rw[e];exact I.free
 .obtain⟨_,o,ho,_⟩:=I.ok.nM.mem hb;exact I.base.free b o ho (I.ok.IA b hb) λz=>I.ok.Bm b z hb
def Inv.step(I:Inv X N9 σ H s)(P6:∀b∈ch,(b∈X.ex\/X.s₀.heap.objs.size<=b)/\b≠X.env.locals/\(∀x c,X.env.cells.lookup x=some c->c≠b)/\∀p∈X.pn++N9,p.1≠b)(keep:∀b o,b≠X.env.locals->b ∉ X.fs->b ∉ ch->s.heap.get? b=some o->H b=none->h'.get? b=some o)(slot:∀b o,b≠X.env.locals->b∈X.fs->b ∉ ch->s.heap.get? b=some o->H b=none->∃sl,h'.get? b=some { o with slots:=sl })(free:∀b o,b ∉ ch->s.heap.get? b=some o->H b=none->H' b=none)(there:∀b o,b ∉ ch->s.heap.get? b=some o->∃o',h'.get? b=some o')(kR:∀b xs,H b=some (.tup xs)->H' b=some (.tup xs))(m7:∀b o u,H b=some (.jx o u)->H' b=some (.jx o u))(tV:∀b ps,H b=some (.JI ps)->∃more,H' b=some (.JI (ps++more)))(ns:∀m,s.heap.Ns X.env.locals m->h'.Ns X.env.locals m)(br:kI X.prog X.w H' h')(hg:AllBare g'):Inv X N9 σ H' { s with heap:=h',gens:=g',drawn:=d',toks:=t' }:=by
 have neL:∀b o,X.s₀.heap.get? b=some o->b≠X.env.locals:=λb o e=>SW (S8 (SK e) I.ok.above);have neC:∀b o,X.s₀.heap.get? b=some o->b ∉ X.ex->b ∉ ch:=λb o e hx hb=>by
  rcases(P6 b hb).1 with z|z
  .exact hx z
  .exact absurd (S8 (SK e) z) (U6 _)
 have cellK:∀x c,X.env.cells.lookup x=some c->∀v,s.heap.IsCell c v->h'.IsCell c v:=λx c e v ⟨o,ho,hd⟩=>by
  have Sn:c ∉ ch:=λz=>(P6 c z).2.2.1 x c e rfl
  by_cases hc:c∈X.fs
  .obtain⟨sl,q⟩:=slot c o (I.JV x c e) hc Sn ho (I.kN x c e);exact⟨_,q,hd⟩
  .exact⟨o,keep c o (I.JV x c e) hc Sn ho (I.kN x c e),hd⟩
 refine⟨I.ok,I.os,hg,⟨λb o e n hb hx=>?_,λb o e n hb hx=>?_,λb o e n hx=>?_,λb o e hx=>?_,λb xs e=>kR b xs (I.base.kR b xs e),λb o xs e=>m7 b o xs (I.base.m7 b o xs e),λb ps e=>?_⟩,?_,λx c e=>?_,?_,λx c e=>?_,λp hp=>?_,br,I.len⟩
 .exact keep b o (neL b o e) hb (neC b o e hx) (I.base.keep b o e n hb hx) (I.base.free b o e n hx)
 .obtain⟨sl,e1⟩:=I.base.slot b o e n hb hx;obtain⟨sl',e2⟩:=slot b _ (neL b o e) hb (neC b o e hx) e1 (I.base.free b o e n hx);exact⟨sl',e2⟩
 .obtain⟨o',e1⟩:=I.base.there b o e hx;exact free b o' (neC b o e hx) e1 (I.base.free b o e n hx)
 .obtain⟨o',e1⟩:=I.base.there b o e hx;exact there b o' (neC b o e hx) e1
 .obtain⟨m1,e1⟩:=I.base.tV b ps e;obtain⟨m2,e2⟩:=tV b _ e1;exact⟨m1++m2,by rw[e2,Array.append_assoc]⟩
 .obtain⟨m,hn,hl⟩:=I.loc;refine⟨m,ns m hn,λi x v e1 e2 e3=>?_⟩;obtain⟨u,r,l⟩:=hl i x v e1 e2 e3;refine⟨u,r,?_⟩;rcases l with l|⟨k,c,e,z⟩
  .exact .inl l
  .exact .inr ⟨k,c,e,cellK x c e _ z⟩
 .obtain⟨v,z⟩:=I.cell x c e;exact⟨v,cellK x c e v z⟩
 .obtain⟨m,⟨o,_,_,ho,_⟩,_⟩:=I.loc;exact free _ o (λz=>(P6 _ z).2.1 rfl) ho I.free
 .obtain⟨v,o,ho,hd⟩:=I.cell x c e;exact free c o (λz=>(P6 c z).2.2.1 x c e rfl) ho (I.kN x c e)
 .obtain⟨e,n,ne,nf,d⟩:=I.pin p hp;have Sn:p.1 ∉ ch:=λz=>(P6 p.1 z).2.2.2 p hp rfl;exact⟨keep p.1 p.2 ne nf Sn e n,free p.1 p.2 Sn e n,ne,nf,d⟩
def Inv.un(I:Inv X N9 σ H s)(u:Un X.fs [] H H' s.heap h')(br:kI X.prog X.w H' h'):Inv X N9 σ H' { s with heap:=h',toks:=t' }:=by
 obtain⟨m,⟨o,es,ep,ho,r⟩,_⟩:=id I.loc;obtain⟨sl,hL⟩:=u.any ho I.free ↑13;exact I.step (g':=s.gens) (d':=s.drawn) (ch:=[]) (λ_ z=>nomatch z) (λb o _ hb _ e n=>u.keep b o e n hb ↑13) (λb o _ hb _ e n=>u.slot b o e n hb ↑13) (λb o _ e n=>u.free b o e n ↑13) (λb o _ e=>u.there b o e ↑13) u.kR u.m7 u.tV (λm' hm=>by
  obtain⟨o',RU,Q6,PU,r'⟩:=hm;rw[ho] at PU;cases PU;exact⟨_,RU,Q6,hL,r'⟩) br I.bare
def Inv.call(I:Inv X N9 σ H s)(u:Un (vY X.stack) ch H H' s.heap h')(br:kI X.prog X.w H' h')(hg:AllBare g')(P6:∀b∈ch,(b∈X.ex\/X.s₀.heap.objs.size<=b)/\b≠X.env.locals/\(∀x c,X.env.cells.lookup x=some c->c≠b)/\∀p∈X.pn++N9,p.1≠b):Inv X N9 σ H' { s with heap:=h',gens:=g',drawn:=d',toks:=t' }:=by
 obtain⟨m,⟨o,es,ep,ho,r⟩,_⟩:=id I.loc;obtain⟨sl,hL⟩:=u.any ho I.free λz=>(P6 _ z).2.1 rfl;exact I.step (ch:=ch) P6 (λb o hL hb hc e n=>u.keep b o e n (λz=>(SQ.mp (I.uh b z)).elim hL hb) hc) (λb o _ _ hc e n=>u.any e n hc) (λb o hc e n=>u.free b o e n hc) (λb o hc e=>u.there b o e hc) u.kR u.m7 u.tV (λm' hm=>by
  obtain⟨o',RU,Q6,PU,r'⟩:=hm;rw[ho] at PU;cases PU;exact⟨_,RU,Q6,hL,r'⟩) br hg
def Inv.turned(I:Inv X N9 σ H s)(k:∀b o,b≠it->s.heap.get? b=some o->h'.get? b=some o)(hn:H it=none)(hL:it≠X.env.locals)(h1:it∈X.ex\/X.s₀.heap.objs.size<=it)(h2:∀x c,X.env.cells.lookup x=some c->c≠it)(h3:∀p∈X.pn++N9,p.1≠it):Inv X N9 σ H { s with heap:=h',toks:=t' }:=by
 have nit:∀b u,H b=some u->b≠it:=λb u e z=>by rw[z,hn] at e;cases e
 refine I.step (g':=s.gens) (d':=s.drawn) (ch:=[it]) (λb hb=>?_) (λb o _ _ hc e _=>k b o (λz=>hc (by simp[z])) e) (λb o _ _ hc e _=>⟨o.slots,k b o (λz=>hc (by simp[z])) e⟩) (λ_ _ _ _ n=>n)
  (λb o hc e=>⟨o,k b o (λz=>hc (by simp[z])) e⟩) (λ_ _ e=>e) (λ_ _ _ e=>e) (λb ps e=>⟨#[],by rw[e];simp⟩) (λm hm=>?_) (λb u e=>?_) I.bare
 .have e:b=it:=by simpa using hb
  subst e;exact⟨h1,hL,h2,h3⟩
 .obtain⟨o,es,ep,ho,r⟩:=hm;exact⟨o,es,ep,k _ o (UN hL) ho,r⟩
 .refine(I.br b u e).qE (λc v hc q=>k c v ?_ q) (λ_ q=>q) λ_ _ q=>q;rcases hc with z|z
  .rw[z];exact nit b u e
  .exact nit c _ z
def Inv.tok(I:Inv X N9 σ H s)(t:Nat):Inv X N9 σ H { s with toks:=t }:=I.un (h':=s.heap) (t':=t) Un.refl I.br
theorem Inv.kept{t':Nat}(I:Inv X N9 σ H s)(k:∀b u,s.heap.get? b=some u->h'.get? b=some u):Inv X N9 σ H { s with heap:=h',toks:=t' }:=I.un (Un.kept k) (I.br.kept k)
theorem Inv.laid{a:Addr}{o:HO}{t':Nat}(I:Inv X N9 σ H s)(k:∀b u,s.heap.get? b=some u->h'.get? b=some u)(hp:s.heap.objs.size<=a)(new:bf X.prog X.w (upd H a o) h' a o):Inv X N9 σ (upd H a o) { s with heap:=h',toks:=t' }:=I.un (Un.laid k hp (I.br.fresh hp)) (I.br.laid k hp new)
theorem Inv.write{x e:Addr}{o:HO}{t':Nat}(I:Inv X N9 σ H s)(mu:K3 (H x))(he:e=x\/H e=some (.own x))(k:∀b u,b≠e->s.heap.get? b=some u->h'.get? b=some u)(RJ:∃u,h'.get? e=some u)(new:bf X.prog X.w (upd H x o) h' x o):Inv X N9 σ (upd H x o) { s with heap:=h',toks:=t' }:=I.un (Un.write mu he k RJ) (I.br.write mu he k RJ new)
def Inv.xT{QX:List (Addr×Obj)}(I:Inv X N9 σ H s)(h:∀p∈QX,s.heap.get? p.1=some p.2/\H p.1=none/\p.1≠X.env.locals/\p.1 ∉ X.fs/\∀v,p.2.data≠.cell v):Inv X QX σ H s :=
 ⟨I.ok,I.os,I.bare,I.base,I.loc,I.cell,I.free,I.kN,λp hp=>(TR.mp hp).elim (λz=>I.pin p (Ut _ z)) (h p),I.br,I.len⟩
def uA(hN:N.Nodup){j:Nat}(a:N[i]?=some x)(b:N[j]?=some x):i=j:=by
 obtain⟨h1,e1⟩:=Tw.mp a;obtain⟨h2,e2⟩:=Tw.mp b;exact(List.getElem_inj hN).mp (e1.trans e2.symm)
def mC{M:Model}{Q:Unit->Shared->Prop}(I:Inv X N9 σ H s)(hN:X.N.Nodup)(hi:X.N[i]?=some x)(hx:Loc X.env.scope x)(r:RelV v u)(h:∀s',Inv X N9 (σ.set i (some v)) H s'->(∃a,VW a s.heap s'.heap/\(a=X.env.locals\/X.env.cells.lookup x=some a))->Q () s')(hf:autoParam ↑1 aF._auto_1):wpAny M A (storeName X.env x u) Q E s:=by
 obtain⟨m,hn,hl⟩:=id I.loc;have hcls:(X.env.scope.kind==.class||(X.env.scope.kind==.module&&X.env.locals != X.env.globals))=false:=by rw[I.ok.kind];rfl
 have hiσ:i<σ.length:=by rw[I.len];exact(Tw.mp hi).1
 have JV:=I.JV;have tracked:∀{a:Addr}{h':Heap},(∃o,s.heap.get? a=some o/\H a=none)->VW a s.heap h'->kI X.prog X.w H h':=λ{a h'} ha hs b ob e=>by
  obtain⟨_,_,Qt⟩:=ha;refine(I.br b ob e).qE (λc w' hc q=>(hs.2 c ?_).trans q) (λ_ q=>q) λ_ _ q=>q;rintro rfl;rcases hc with rfl|hc
  .rw[Qt] at e;cases e
  .rw[Qt] at hc;cases hc
 rcases hx with hk|hk
 .refine wpAny_storeName_local hk hn (λh' hn' hs=>?_) hcls;obtain⟨oL,_,_,hoL,_⟩:=id hn;refine h _ ⟨I.ok,I.os,I.bare,⟨λb o e n hb hx=>?_,λb o e n hb hx=>?_,I.base.free,λb o e hx=>?_,I.base.kR,I.base.m7,I.base.tV⟩,⟨_,hn',λj y v' e1 e2 e3=>?_⟩,λy c e=>?_,I.free,I.kN,λp hp=>?_,tracked ⟨oL,hoL,I.free⟩ hs,by simpa using I.len⟩ ⟨_,hs,.inl rfl⟩
  .exact(hs.2 b (SW (S8 (SK e) I.ok.above))).trans (I.base.keep b o e n hb hx)
  .obtain⟨sl,e1⟩:=I.base.slot b o e n hb hx;exact⟨sl,(hs.2 b (SW (S8 (SK e) I.ok.above))).trans e1⟩
  .obtain⟨o',e1⟩:=I.base.there b o e hx;exact⟨o',(hs.2 b (SW (S8 (SK e) I.ok.above))).trans e1⟩
  .by_cases hj:j=i
   .subst hj;rw[hi] at e1;cases e1;rw[YO hiσ] at e2;cases e2;exact⟨u,r,.inl ⟨hk,by simp⟩⟩
   .rw[ZN (UN hj)] at e2;obtain⟨u',r',q⟩:=hl j y v' e1 e2 e3;refine⟨u',r',?_⟩;rcases q with ⟨k,e⟩|⟨k,c,e,z⟩
    .refine .inl ⟨k,?_⟩;have:y≠x:=λe=>hj (uA hN e1 (e▸hi));simp[this,e]
    .exact .inr ⟨k,c,e,z.sameBut hs (JV y c e)⟩
  .obtain⟨w',z⟩:=I.cell y c e;exact⟨w',z.sameBut hs (JV y c e)⟩
  .obtain⟨e,n,ne,nf,d⟩:=I.pin p hp;exact⟨(hs.2 p.1 ne).trans e,n,ne,nf,d⟩
 .have hfn:X.fn x=true:=by
   rcases hf with z|z
   .exact z
   .rw[z] at hk;cases hk
  obtain⟨c,hc⟩:=I.ok.has x (.inl hk);obtain⟨w',z⟩:=I.cell x c hc;refine wpAny_storeName_cell I.ok.kind hk hc z (λh' Qz hs=>?_);obtain⟨oc,hoc,hocd⟩:=id z;refine h { s with heap:=h' } ⟨I.ok,I.os,I.bare,⟨λb o e n hb hx=>?_,λb o e n hb hx=>?_,I.base.free,λb o e hx=>?_,I.base.kR,I.base.m7,I.base.tV⟩,⟨m,hn.sameBut hs (UN (JV x c hc)),λj y v' e1 e2 e3=>?_⟩,λy c' e=>?_,I.free,I.kN,λp hp=>?_,tracked ⟨oc,hoc,I.kN x c hc⟩ hs,by simpa using I.len⟩ ⟨c,hs,.inr hc⟩
  .exact(hs.2 b (SW (S8 (SK e) (I.ok.J9 x c hfn hc)))).trans (I.base.keep b o e n hb hx)
  .obtain⟨sl,e1⟩:=I.base.slot b o e n hb hx;exact⟨sl,(hs.2 b (SW (S8 (SK e) (I.ok.J9 x c hfn hc)))).trans e1⟩
  .obtain⟨o',e1⟩:=I.base.there b o e hx;exact⟨o',(hs.2 b (SW (S8 (SK e) (I.ok.J9 x c hfn hc)))).trans e1⟩
  .by_cases hj:j=i
   .subst hj;rw[hi] at e1;cases e1;rw[YO hiσ] at e2;cases e2;exact⟨u,r,.inr ⟨.inl hk,c,hc,Qz⟩⟩
   .rw[ZN (UN hj)] at e2;obtain⟨u',r',q⟩:=hl j y v' e1 e2 e3;refine⟨u',r',?_⟩;rcases q with q|⟨k,c',e,z'⟩
    .exact .inl q
    .refine .inr ⟨k,c',e,z'.sameBut hs ?_⟩;rintro rfl;exact hj (uA hN e1 (I.ok.inj _ _ _ e hc▸hi))
  .by_cases hcc:c'=c
   .subst hcc;exact⟨_,Qz⟩
   .obtain⟨w2,z2⟩:=I.cell y c' e;exact⟨w2,z2.sameBut hs hcc⟩
  .obtain⟨e,n,ne,nf,d⟩:=I.pin p hp;refine⟨(hs.2 p.1 ?_).trans e,n,ne,nf,d⟩;intro q;rw[q,hoc] at e;have q':oc=p.2:=Th e;exact d w' (by rwa[<- q'])
def vc{M:Model}{Q:Unit->Shared->Prop}(I:Inv X N9 σ H s)(hN:X.N.Nodup)(hi:X.N[i]?=some x)(hx:Loc X.env.scope x)(r:RelV v u)(h:∀s',Inv X N9 (σ.set i (some v)) H s'->Q () s')(hf:autoParam ↑1 aF._auto_1):wpAny M A (storeName X.env x u) Q E s :=
 mC I hN hi hx r (λs' I' _=>h s' I') hf
def Inv.C_{s':Shared}(I:Inv X N9 σ H s)(ho:s'.os=s.os)(u:Un (vY X.stack) ch H H' s.heap s'.heap)(br:kI X.prog X.w H' s'.heap)(hg:AllBare s'.gens)(P6:∀b∈ch,(b∈X.ex\/X.s₀.heap.objs.size<=b)/\b≠X.env.locals/\(∀x c,X.env.cells.lookup x=some c->c≠b)/\∀p∈X.pn++N9,p.1≠b):Inv X N9 σ H' s':=by
 obtain⟨h',g',d',t',o'⟩:=s';have e:o'=s.os:=ho;subst e;exact I.call (g':=g') (t':=t') (d':=d') u br hg P6
end
abbrev XK:=Value->Option Addr->Hp->Prop
abbrev St:=List (Option V)
abbrev VK:=V->Hp->Prop
abbrev TE:=St->Hp->VK->Prop
abbrev TT:=St->Hp->(Bool->Hp->Prop)->Prop
abbrev TA:=St->Hp->(List V->Hp->Prop)->Prop
structure Ends where
 nx:St->Hp->Prop
 rt:VK
 bk:St->Hp->Prop:=λ_ _=>False
 ct:St->Hp->Prop:=λ_ _=>False
abbrev TS:=Ends->St->Hp->Prop
def EP(X:Cx)(N9:List (Addr×Obj))(σ:St)(Q:VK)(u:Value)(s':Shared):Prop:=∃v H',Inv X N9 σ H' s'/\RelV v u/\Q v H'
def TP(X:Cx)(N9:List (Addr×Obj))(σ:St)(Q:Bool->Hp->Prop)(b:Bool)(s':Shared):Prop:=∃H',Inv X N9 σ H' s'/\Q b H'
def AP(X:Cx)(N9:List (Addr×Obj))(σ:St)(Q:List V->Hp->Prop)(us:List Value)(s':Shared):Prop:=∃vs H',Inv X N9 σ H' s'/\Vals vs us/\Q vs H'
def SP(X:Cx)(N9:List (Addr×Obj))(D:Ends)(f:Flow)(s':Shared):Prop :=
 match f with
 | .next=>∃σ' H',Inv X N9 σ' H' s'/\D.nx σ' H'
 | .brk=>∃σ' H',Inv X N9 σ' H' s'/\D.bk σ' H'
 | .cont=>∃σ' H',Inv X N9 σ' H' s'/\D.ct σ' H'
 |.ret u=>∃v σ' H',Inv X N9 σ' H' s'/\RelV v u/\D.rt v H'
def PE(X:Cx)(e:Expr)(t:TE):Prop :=
 ∀(N9:List (Addr×Obj))(s:Shared)(σ:St)(H:Hp)(Q:VK),Inv X N9 σ H s->t σ H Q->wpAny ↑8 X.A (eval e X.env) (EP X N9 σ Q) X.xe s
def PT(X:Cx)(e:Expr)(t:TT):Prop :=
 ∀(N9:List (Addr×Obj))(s:Shared)(σ:St)(H:Hp)(Q:Bool->Hp->Prop),Inv X N9 σ H s->t σ H Q->wpAny ↑8 X.A (isTrue e X.env (eval e X.env)) (TP X N9 σ Q) X.xe s
def PW(X:Cx)(e:Expr)(t:TT):Prop :=
 ∀(whole:Sem Value)(N9:List (Addr×Obj))(s:Shared)(σ:St)(H:Hp)(Q:Bool->Hp->Prop),Inv X N9 σ H s->t σ H Q->wpAny ↑8 X.A (isTrue e X.env whole) (TP X N9 σ Q) X.xe s
variable{e:Expr}
def PW.pt{t:TT}(h:PW X e t):PT X e t:=h _
def PA(X:Cx)(es:List Expr)(t:TA):Prop :=
 ∀(pos:Pos)(N9:List (Addr×Obj))(s:Shared)(σ:St)(H:Hp)(Q:List V->Hp->Prop),Inv X N9 σ H s->t σ H Q->wpAny ↑8 X.A (spliced (backTo pos (starEach es X.env))) (AP X N9 σ Q) X.xe s
def PS(X:Cx)(st:Stmt)(t:TS):Prop :=
 ∀(N9:List (Addr×Obj))(s:Shared)(σ:St)(H:Hp)(D:Ends),Inv X N9 σ H s->t D σ H->wpAny ↑8 X.A (exec st X.env) (SP X N9 D) X.xe s
def mW(X:Cx)(st:List Stmt)(t:TS):Prop :=
 ∀(N9:List (Addr×Obj))(s:Shared)(σ:St)(H:Hp)(D:Ends),Inv X N9 σ H s->t D σ H->wpAny ↑8 X.A (execs st X.env) (SP X N9 D) X.xe s
def ck{α:Type}{t:Sem α}{Q Q':α->Shared->Prop}{M:Model}(h:wpAny M A t Q E s)(hQ:∀a s,Q a s->Q' a s):wpAny M A t Q' E s:=Vc h hQ λ_ _ x=>x
variable{Q:Value->Shared->Prop}{σ:St}
variable{ta:TE}
variable{c:Expr}
section
def Cr(i:Nat):TE:=fun σ H Q=>∃v,σ[i]?=some (some v)/\Q v H
def tC(v:V):TE:=λ_ H Q=>Q v H
def iE{pos:Pos}(hN:X.N[i]?=some x)(hv:AN X.env.scope x)(hd:autoParam ↑7 aD._auto_1)(O7:autoParam ↑6 aD._auto_1):PE X (.Name x pos) (Cr i):=by
 intro N9 s σ H Q I h;obtain⟨v,e,h⟩:=h;obtain⟨m,hn,hl⟩:=I.loc;obtain⟨u,r,l⟩:=hl i x v hN e hv;have fin:EP X N9 σ Q u s:=⟨v,H,I,r,h⟩
 rcases l with ⟨hk,hm⟩|⟨hk,c,hc,Qs⟩
 .exact wpAny_Name (wpAny_loadName_local I.ok.kind hk hn hm fin) hd
 .rcases hk with hk|hk
  .exact wpAny_Name (wpAny_loadName_cell I.ok.kind hk hc Qs fin) hd
  .exact wpAny_Name (wpAny_loadName_free I.ok.kind hk hc Qs fin O7) hd
def xp{i j pos}:PE X (.Constant (.int i) j pos) (tC (.int i)):=λ_ _ _ H _ I h=>wpAny_Constant_int ⟨.int i,H,I.tok _,⟨_,rfl⟩,h⟩
def LH{b j pos}:PE X (.Constant (.bool b) j pos) (tC (.bl b)):=λ_ _ _ H _ I h=>Constant_bool ⟨.bl b,H,I,rfl,h⟩
def G2{j pos}:PE X (.Constant .none j pos) (tC .dq):=λ_ _ _ H _ I h=>Constant_none ⟨.dq,H,I,rfl,h⟩
def Gl(X:Cx)(x:Str):Prop:=X.env.kindOf x=some .globalImplicit
def sT{pos:Pos}(I:Inv X N9 σ H s)(hg:Gl X x)(hm:X.mg x=some u)(h:Q u s)(hd:autoParam ↑7 aD._auto_1):wpAny ↑8 X.A (eval (.Name x pos) X.env) Q E s :=
 X4 I.ok.kind hg (Calls.loadGlobal_global (by rw[I.ok.glob];exact I.mod.glob.keeps I.bk) hm h) hd
def iy{pos:Pos}(I:Inv X N9 σ H s)(hg:Gl X x)(hm:X.mg x=none)(hv:bootBuiltins x=some u)(h:Q u s)(hn:autoParam (x ≠ "__name__") aD._auto_1)(hd:autoParam ↑7 aD._auto_1):wpAny ↑8 X.A (eval (.Name x pos) X.env) Q E s:=by
 obtain⟨mb,h1,h2⟩:=I.mod.blt;exact X4 I.ok.kind hg (Calls.loadGlobal_builtin (by rw[I.ok.glob];exact I.mod.glob.keeps I.bk) hm (by rw[I.ok.blt];exact h1.keeps I.bk) ((h2 x hn).trans hv) h) hd
def FH{pos:Pos}(hg:Gl X x)(hm:X.mg x=some u)(r:RelV v u)(hd:autoParam ↑7 aD._auto_1):PE X (.Name x pos) (tC v) :=
 λ_ _ _ H _ I h=>sT I hg hm ⟨v,H,I,r,h⟩ hd
def dO{pos:Pos}(hg:Gl X x)(hm:X.mg x=none)(hv:bootBuiltins x=some u)(r:RelV v u)(hn:autoParam (x ≠ "__name__") aD._auto_1)(hd:autoParam ↑7 aD._auto_1):PE X (.Name x pos) (tC v) :=
 λ_ _ _ H _ I h=>iy I hg hm hv ⟨v,H,I,r,h⟩ hn hd
variable{a b:Expr}{tb:TE}{pos:Pos}
def tB(t:TE):TT:=fun σ H Q=>t σ H λx H1=>∃c,x=.bl c/\Q c H1
def JM{t:TE}(h:PE X e t)(he:autoParam (∀whole,isTrue e X.env whole=(do let v <- whole;standAt e.pos;holding [v] (truthy v))) aI._auto_1):PT X e (tB t):=by
 intro N9 s σ H Q I hw;refine isTrue_plain (ck (h N9 s σ H _ I hw) λv s1 ⟨x,H1,I1,r1,q1⟩=>?_) (he _);obtain⟨d,rfl,q⟩:=q1;cases r1;exact Us ⟨H1,I1,q⟩
variable{tA tB':TT}{rest:List Expr}
def ME(t u:TT):TT:=fun σ H Q=>t σ H λc H1=>if c=true then u σ H1 Q else Q false H1
def NO(t u:TT):TT:=fun σ H Q=>t σ H λc H1=>if c=true then Q true H1 else u σ H1 Q
def Ml(t:TT):TT:=fun σ H Q=>t σ H λc H1=>Q (!c) H1
def pw_and1(ha:PT X a tA):PW X (.BoolOp .And [a] pos) tA:=by
 intro wh N9 s σ H Q I h;refine isTrue_and (ck (ha N9 s σ H Q I h) λc s1 e=>?_);cases c with
 | true=>exact isTrue_and_nil e
 |false=>exact e
def pw_or1(ha:PT X a tA):PW X (.BoolOp .Or [a] pos) tA:=by
 intro wh N9 s σ H Q I h;refine isTrue_or (ck (ha N9 s σ H Q I h) λc s1 e=>?_);cases c with
 | false=>exact isTrue_or_nil e
 |true=>exact e
def pw_and(ha:PT X a tA)(hb:PW X (.BoolOp .And (b::rest) pos) tB'):PW X (.BoolOp .And (a::b::rest) pos) (ME tA tB'):=by
 intro wh N9 s σ H Q I h;refine isTrue_and (ck (ha N9 s σ H _ I h) λc s1 ⟨H1,I1,q1⟩=>?_);cases c with
 | true=>exact hb wh N9 s1 σ H1 Q I1 q1
 |false=>exact⟨H1,I1,q1⟩
def pw_or(ha:PT X a tA)(hb:PW X (.BoolOp .Or (b::rest) pos) tB'):PW X (.BoolOp .Or (a::b::rest) pos) (NO tA tB'):=by
 intro wh N9 s σ H Q I h;refine isTrue_or (ck (ha N9 s σ H _ I h) λc s1 ⟨H1,I1,q1⟩=>?_);cases c with
 | true=>exact⟨H1,I1,q1⟩
 |false=>exact hb wh N9 s1 σ H1 Q I1 q1
def JU(ha:PT X a tA):PT X (.UnaryOp .Not a pos) (Ml tA):=by
 intro N9 s σ H Q I h;exact isTrue_not (ha N9 s σ H (λc H1=>Q (!c) H1) I h)
def J5(ta tb:TE):TE:=fun σ H Q=>ta σ H λx H1=>∃c,x=.bl c/\if c=true then tb σ H1 Q else Q (.bl false) H1
def K_(ta:TE):TE:=fun σ H Q=>ta σ H λx H1=>∃c,x=.bl c/\Q (.bl (!c)) H1
def wR{op}{t:TE}(h:PE X a t):PE X (.BoolOp op [a] pos) t:=λN9 s σ H Q I hw=>BoolOp_one (h N9 s σ H Q I hw)
def HM(ha:PE X a ta)(hb:PE X (.BoolOp .And (b::rest) pos) tb):PE X (.BoolOp .And (a::b::rest) pos) (J5 ta tb):=by
 intro N9 s σ H Q I h;refine BoolOp_and (ck (ha N9 s σ H _ I h) λv s1 ⟨x,H1,I1,r1,q1⟩=>?_);obtain⟨c,rfl,q1⟩:=q1;cases r1;refine Us ?_;cases c with
 | true=>exact hb N9 s1 σ H1 Q I1 q1
 |false=>exact⟨.bl false,H1,I1,rfl,q1⟩
def Iq(ha:PE X a ta):PE X (.UnaryOp .Not a pos) (K_ ta):=by
 intro N9 s σ H Q I h;refine UnaryOp_ (ck (ha N9 s σ H _ I h) λv s1 ⟨x,H1,I1,r1,q1⟩=>?_);obtain⟨c,rfl,q1⟩:=q1;cases r1;exact not_of (Us ⟨.bl (!c),H1,I1,rfl,q1⟩)
def N5(t:TT)(ta tb:TE):TE:=fun σ H Q=>t σ H λc H1=>if c=true then ta σ H1 Q else tb σ H1 Q
def Ct(hc:PT X c tA)(ha:PE X a ta)(hb:PE X b tb):PE X (.IfExp c a b pos) (N5 tA ta tb):=by
 intro N9 s σ H Q I h;refine wpAny_IfExp (ck (hc N9 s σ H _ I h) λd s1 ⟨H1,I1,q1⟩=>?_);cases d with
 | true=>exact ha N9 s1 σ H1 Q I1 q1
 |false=>exact hb N9 s1 σ H1 Q I1 q1
end
def h9(K:SD)(H:Hp)(a:Addr)(xs:List V):Prop :=
 Rd H a (.lst xs) ∨
  ∃(o:Obj)(Ob:Array Value)(n:Nat),K.lookup a=some o/\o.cls=.type "list" /\ o.dict=none/\o.data=.seq Ob n/\Ob.size<=sizeLine/\Vals xs Ob.toList
def fJ(K:SD)(H:Hp)(a:Addr)(xs:List V):Prop :=
 Rd H a (.tup xs) ∨
  ∃(o:Obj)(Ob:Array Value)(n:Nat),K.lookup a=some o/\o.cls=.type "tuple" /\ o.data=.seq Ob n/\Ob.size<=sizeLine/\Vals xs Ob.toList
def M9:Value->Option V
 | .none=>some .dq
 | .bool b=>some (.bl b)
 | .int i _=>some (.int i)
 | .str x _=>some (.str x)
 | .bytes b _=>some (.byt b)
 | .float b _=>some (.F_ b)
 | .ref a=>some (.ref a)
 | .type n=>some (.ty n)
 |_=>none
def RelV.abs{x:V}(r:RelV x u):M9 u=some x:=by
 cases x with
 | dq=>cases r;rfl
 | bl _=>cases r;rfl
 | int _=>obtain⟨t,rfl⟩:=r;rfl
 | str _=>obtain⟨t,rfl⟩:=r;rfl
 | byt _=>obtain⟨t,rfl⟩:=r;rfl
 | F_ _=>obtain⟨t,rfl⟩:=r;rfl
 | ref _=>cases r;rfl
 |ty _=>cases r;rfl
def RelV.inj{x y:V}{u:Value}(r:RelV x u)(q:RelV y u):x=y:=Th (r.abs.symm.trans q.abs)
theorem Vals.inj:∀{xs ys:List V}{us:List Value},Vals xs us->Vals ys us->xs=ys
 | _,_,_,.nil,.nil=>rfl
 |_,_,_,.cons r t,.cons r' t'=>by rw[r.inj r',Vals.inj t t']
section
variable{a:Addr}{xs ys:List V}
def h9.of{K:SD}(h:H a=some (.lst xs)):h9 K H a xs:=.inl (.inl h)
def fJ.of{K:SD}(h:H a=some (.tup xs)):fJ K H a xs:=.inl (.inl h)
theorem Inv.list(I:Inv X N9 σ H s)(h:h9 X.K H a xs):∃Ob:List Value,Vals xs Ob/\PlainL s.heap a Ob.toArray/\xs.length<=sizeLine:=by
 rcases h with h|⟨o,Ob,n,hk,hc,hd,hs,hz,r⟩
 .obtain⟨z,Ob,n,r,e⟩:=h.ok I.br;exact⟨Ob,r,⟨_,n,e,rfl,rfl,rfl⟩,z⟩
 .refine⟨Ob.toList,r,⟨o,n,I.mq a o hk,hc,hd,by simpa using hs⟩,?_⟩;have e:=r.length;simp only[Tf] at e;lia
theorem Inv.tuple(I:Inv X N9 σ H s)(h:fJ X.K H a xs):∃Ob:List Value,Vals xs Ob/\IsTup s.heap a Ob.toArray/\xs.length<=sizeLine:=by
 rcases h with h|⟨o,Ob,n,hk,hc,hs,hz,r⟩
 .obtain⟨z,Ob,r,p⟩:=h.ok I.br;exact⟨Ob,r,p,z⟩
 .refine⟨Ob.toList,r,⟨o,I.mq a o hk,hc,n,by simpa using hs⟩,?_⟩;have e:=r.length;simp only[Tf] at e;lia
def Inv.qi(I:Inv X N9 σ H s)(h:h9 X.K H a xs)(h':h9 X.K H a ys):xs=ys:=by
 obtain⟨Ob,r,⟨o,n,e,_,_,d⟩,_⟩:=I.list h;obtain⟨its',r',⟨o',n',e',_,_,d'⟩,_⟩:=I.list h';rw[e] at e';cases e';rw[d] at d';injection d' with d1 _
 have:Ob=its':=by simpa using congrArg aao d1
 subst this;exact r.inj r'
def Inv.mU(I:Inv X N9 σ H s)(h:fJ X.K H a xs)(h':fJ X.K H a ys):xs=ys:=by
 obtain⟨Ob,r,⟨o,e,_,n,d⟩,_⟩:=I.tuple h;obtain⟨its',r',⟨o',e',_,n',d'⟩,_⟩:=I.tuple h';rw[e] at e';cases e';rw[d] at d';injection d' with d1 _
 have:Ob=its':=by simpa using congrArg aao d1
 subst this;exact r.inj r'
end
abbrev Cx.qV(X:Cx)(E:Value->Shared->Prop):Cx:={ X with xe:=E }
theorem Cx.Ok.qV{X:Cx}(ok:X.Ok)(E:Value->Shared->Prop):(X.qV E).Ok :=
 ⟨ok.mod,ok.kind,ok.glob,ok.blt,ok.above,ok.inj,ok.has,ok.J9,ok.hd,ok.frames,ok.Mb,ok.MT,ok.bs,ok.Gz,ok.yH,ok.Bm,ok.nM,ok.IA⟩
def Cx.Ok.iG(ok:(X.qV E).Ok):X.Ok :=
 ⟨ok.mod,ok.kind,ok.glob,ok.blt,ok.above,ok.inj,ok.has,ok.J9,ok.hd,ok.frames,ok.Mb,ok.MT,ok.bs,ok.Gz,ok.yH,ok.Bm,ok.nM,ok.IA⟩
theorem Inv.qV(I:Inv X N9 σ H s)(E:Value->Shared->Prop):Inv (X.qV E) N9 σ H s:=⟨I.ok.qV E,I.os,I.bare,I.base,I.loc,I.cell,I.free,I.kN,I.pin,I.br,I.len⟩
theorem Inv.iG(I:Inv (X.qV E) N9 σ H s):Inv X N9 σ H s:=⟨I.ok.iG,I.os,I.bare,I.base,I.loc,I.cell,I.free,I.kN,I.pin,I.br,I.len⟩
theorem SP.iG{D:Ends}{f:Flow}{s':Shared}(h:SP (X.qV E) N9 D f s'):SP X N9 D f s':=by
 cases f with
 | next=>obtain⟨σ',H',I,q⟩:=h;exact⟨σ',H',I.iG,q⟩
 | brk=>obtain⟨σ',H',I,q⟩:=h;exact⟨σ',H',I.iG,q⟩
 | cont=>obtain⟨σ',H',I,q⟩:=h;exact⟨σ',H',I.iG,q⟩
 |ret u=>obtain⟨v,σ',H',I,r,q⟩:=h;exact⟨v,σ',H',I.iG,r,q⟩
variable{te:TE}
variable{tc:TT}
section
variable{st:Stmt}{rest:List Stmt}{t u:TS}{pos:Pos}
def KA:TS:=λD σ H=>D.nx σ H
def Nd(t u:TS):TS:=λD σ H=>t { D with nx:=u D } σ H
def DZ:mW X [] KA:=λ_ _ σ H _ I h=>Zp ⟨σ,H,I,h⟩
def BW(h1:PS X st t)(h2:mW X rest u):mW X (st::rest) (Nd t u):=by
 intro N9 s σ H D I h;refine wpAny_execs_cons (ck (h1 N9 s σ H { D with nx:=u D } I h) λf s1 q=>?_);cases f with
 | next =>
  obtain⟨σ',H',I',q⟩:=q;exact h2 N9 s1 σ' H' D I' q
 | ret v=>exact q
 | brk=>exact q
 |cont=>exact q
def Ks:TS:=λD σ H=>D.ct σ H
def uK:PS X (.Continue pos) Ks:=λ_ _ σ H _ I h=>wpAny_Continue ⟨σ,H,I,h⟩
def Inv.quiet(I:Inv X N9 σ H s):interactive X.env=false:=by simp[interactive,I.ok.kind]
def Lj(te:TE):TS:=λD σ H=>te σ H λ_ H1=>D.nx σ H1
def yk(he:PE X e te)(hs:autoParam (swapsWith e none pos.line X.env=pure false) aR._auto_1):PS X (.Expr e pos) (Lj te):=by
 intro N9 s σ H D I h;exact wpAny_Expr_any (ck (he N9 s σ H _ I h) λv s1 ⟨x,H1,I1,r1,q1⟩=>⟨σ,H1,I1,q1⟩) I.quiet hs
def ML(te:TE):TS:=λD σ H=>te σ H D.rt
def GW(he:PE X e te):PS X (.Return (some e) pos) (ML te):=by
 intro N9 s σ H D I h;exact wpAny_Return_some (ck (he N9 s σ H _ I h) λv s1 ⟨x,H1,I1,r1,q1⟩=>⟨x,σ,H1,I1,r1,q1⟩)
def Mf(c:TT)(t u:TS):TS:=λD σ H=>c σ H λb H1=>if b=true then t D σ H1 else u D σ H1
def Lk{a b:List Stmt}(hc:PT X c tc)(ha:mW X a t)(hb:mW X b u):PS X (.If c a b pos) (Mf tc t u):=by
 intro N9 s σ H D I h;refine wpAny_If (ck (hc N9 s σ H _ I h) λd s1 ⟨H1,I1,q1⟩=>?_);cases d with
 | true=>exact ha N9 s1 σ H1 D I1 q1
 |false=>exact hb N9 s1 σ H1 D I1 q1
end
abbrev TG:=V->St->Hp->(St->Hp->Prop)->Prop
abbrev Jk:=List V->St->Hp->(St->Hp->Prop)->Prop
def PG(X:Cx)(target:Expr)(t:TG):Prop :=
 ∀ (N9:List (Addr×Obj)) (s:Shared) (σ:St) (H:Hp) (v:V) (u:Value) (Q:St->Hp->Prop),Inv X N9 σ H s->RelV v u->t v σ H Q ->
  wpAny ↑8 X.A (assign target X.env u) (λ_ s'=>∃σ' H',Inv X N9 σ' H' s'/\Q σ' H') X.xe s
def LZ(X:Cx)(ts:List Expr)(t:Jk):Prop :=
 ∀ (N9:List (Addr×Obj)) (s:Shared) (σ:St) (H:Hp) (vs:List V) (us:List Value) (Q:St->Hp->Prop),Inv X N9 σ H s->Vals vs us->t vs σ H Q ->
  wpAny ↑8 X.A (assignInOrder ((assignEach ts X.env).map (·.2)) us) (λ_ s'=>∃σ' H',Inv X N9 σ' H' s'/\Q σ' H') X.xe s
variable{es:List Expr}
variable{n k:Nat}
section
variable{pos:Pos}
def aE(i:Nat):TG:=λv σ H Q=>Q (σ.set i (some v)) H
def FV(hN:X.N.Nodup)(hi:X.N[i]?=some x)(hx:Loc X.env.scope x)(hf:autoParam ↑1 aF._auto_1):PG X (.Name x pos) (aE i):=by
 intro N9 s σ H v u Q I r h;exact Yo (vc I hN hi hx r (λs' I'=>⟨_,H,I',h⟩) hf)
def jw:Jk:=λvs σ H Q=>vs=[]/\Q σ H
def bA(t:TG)(u:Jk):Jk:=λvs σ H Q=>∃v r,vs=v::r/\t v σ H fun σ' H'=>u r σ' H' Q
def cK:LZ X [] jw:=by
 intro N9 s σ H vs us Q I r h;obtain⟨e,h⟩:=h;subst e;cases r;exact assignInOrder_nil ⟨σ,H,I,h⟩
def aJ{t:TG}{u:Jk}(h1:PG X e t)(h2:LZ X es u)(hs:autoParam ((assignEach (e::es) X.env).map (·.2)=assign e X.env::(assignEach es X.env).map (·.2)) aR._auto_1):LZ X (e::es) (bA t u):=by
 intro N9 s σ H vs us Q I r h;obtain⟨v,vr,e1,h⟩:=h;subst e1;cases r with
 | cons r rr =>
  rw[hs];refine assignInOrder_cons (ck (h1 N9 s σ H _ _ _ I r h) λ_ s1 ⟨σ1,H1,I1,q1⟩=>?_);exact h2 N9 s1 σ1 H1 _ _ Q I1 rr q1
def jB(K:SD)(n:Nat)(t:Jk):TG:=λv σ H Q=>∃a xs,v=.ref a/\fJ K H a xs/\xs.length=n/\t xs σ H Q
def dQ{t:Jk}(hc:X.calm=true)(h:LZ X es t)(hn:autoParam ((assignEach es X.env).length=n) aR._auto_1)(OV:autoParam ((assignEach es X.env).findIdx? (·.1)=none) aR._auto_1):PG X (.Tuple es k pos) (jB X.K n t):=by
 intro N9 s σ H v u Q I r hw;obtain⟨a,xs,e1,hq,hl,hw⟩:=hw;subst e1;cases r;obtain⟨Ob,rv,ht,hz⟩:=I.tuple hq;refine assign_Tuple_tuple (I.ok.hd hc) ht (by simp[hn,<- hl,rv.length]) OV λh' hx=>?_;have I1:Inv X N9 σ H { s with heap:=h' }:=I.kept (t':=s.toks) λb o e=>hx b o (SW (SK e)) e;exact h N9 _ σ H xs _ Q I1 (by simpa using rv) hw
def Iu(te:TE)(g:TG):TS:=λD σ H=>te σ H λx H1=>g x σ H1 D.nx
def tN{pos':Pos}(hN:X.N.Nodup)(hi:X.N[i]?=some x)(hx:Loc X.env.scope x)(he:PE X e te)(hs:autoParam (swapsWith e (some (.Name x pos')) pos.line X.env=pure false) aR._auto_1)(hf:autoParam ↑1 aF._auto_1):PS X (.Assign [.Name x pos'] e pos) (Iu te (aE i)):=by
 intro N9 s σ H D I h;refine wpAny_Assign_Name (ck (he N9 s σ H _ I h) λv s1 ⟨y,H1,I1,r1,q1⟩=>?_) hs;exact vc I1 hN hi hx r1 (λs2 I2=>⟨_,H1,I2,q1⟩) hf
end
variable{tb:TS}{body:List Stmt}
section
variable{pos:Pos}
def JS(c:TT)(tb:TS):TS:=λD σ H=>∃W:Nat->St->Hp->Prop,(∃m,W m σ H)/\∀m σ H,W m σ H ->
 c σ H λb H1=>if b=true then ∃N:St->Hp->Prop,(∀σ' H',N σ' H'->∃m',m'<m/\W m' σ' H')/\tb { D with nx:=N,ct:=N,bk:=D.nx } σ H1 else D.nx σ H1
def As(hp:PassesOwn ↑8 X.A X.env X.xe)(hc:PT X c tc)(hb:mW X body tb):PS X (.While c body [] pos) (JS tc tb):=by
 intro N9 s σ H D I h;obtain⟨W,⟨m0,w0⟩,turn⟩:=h;refine wpAny_While (codeAny_whileLoop (λn s'=>∃σ' H',Inv X N9 σ' H' s'/\W n σ' H') ?_ m0 ⟨σ,H,I,w0⟩);rintro n s1 ⟨σ1,H1,I1,w1⟩;refine VR hp (ck (hc N9 s1 σ1 H1 _ I1 (turn n σ1 H1 w1)) λb s2 ⟨H2,I2,q2⟩=>?_);cases b with
 | true =>
  obtain⟨N,hN,q2⟩:=q2;rw[if_pos rfl];refine VR hp (ck (hb N9 s2 σ1 H2 _ I2 q2) λf s3 q3=>?_);cases f with
  | next =>
   obtain⟨σ3,H3,I3,n3⟩:=q3;obtain⟨m',hm,w3⟩:=hN σ3 H3 n3;exact⟨m',hm,σ3,H3,I3,w3⟩
  | cont =>
   obtain⟨σ3,H3,I3,n3⟩:=q3;obtain⟨m',hm,w3⟩:=hN σ3 H3 n3;exact⟨m',hm,σ3,H3,I3,w3⟩
  | brk=>exact q3
  | ret v=>exact q3
 | false =>
  rw[if_neg Tq];exact Zp ⟨σ1,H2,I2,q2⟩
end
structure It where
 go:Nat->Hp->Prop
 uv:Nat->Hp->V->Hp->Prop
 stop:Nat->Hp->Prop
def lj(X:Cx)(N9:List (Addr×Obj))(H:Hp)(b:Addr):Prop :=
 H b=none/\b≠X.env.locals/\b ∉ X.fs/\(b∈X.ex\/X.s₀.heap.objs.size<=b)/\(∀x c,X.env.cells.lookup x=some c->c≠b)/\∀p∈X.pn++N9,p.1≠b
def Inv.qL(I:Inv X N9 σ H s)(hb:s.heap.objs.size<=b)(hn:H' b=none):lj X N9 H' b:=by
 refine⟨hn,Uu (S8 I.lt hb),I.MJ hb,.inr (Ug I.sz hb),λx c e z=>?_,λp hp z=>?_⟩
 .obtain⟨v,q⟩:=I.cell x c e;exact absurd (S8 q.lt (by rwa[z])) (U6 _)
 .exact absurd (S8 (SK (I.pin p hp).1) (by rwa[z])) (U6 _)
structure Turn (P:Program) (w:World) (K:SD) (tg:Expr) (J:It) (fp:List Addr) (it:Addr) (tn:Nat->Heap->Prop):Prop where
 mem:it∈fp
 obj:∀i h,tn i h->∀b∈fp,∃o,h.get? b=some o/\∀v,o.data≠.cell v
 keep:∀i h h',tn i h->(∀b∈fp,∀o,h.get? b=some o->h'.get? b=some o)->tn i h'
 item:∀(X:Cx),X.prog=P->X.w=w->X.K=K->X.calm=true->∀(i:Nat)(N9:List (Addr×Obj))(s:Shared)(σ:St)(H:Hp)(E:Value->Shared->Prop),Inv X N9 σ H s->(∀b∈fp,lj X N9 H b)->tn i s.heap->J.go i H ->
  wpAny (model P w) X.A (pyNext (.ref it)) (λr s1=>∃u,r=some u ∧
   wpAny (model P w) X.A (letOwnedTupleGo tg (.ref it) u) (λ_ s2=>∃x H',Inv X N9 σ H' s2/\RelV x u/\J.uv i H x H'/\tn (i+1) s2.heap/\∀b∈fp,H' b=none) E s1) E s
 done:∀(X:Cx),X.prog=P->X.w=w->X.K=K->X.calm=true->∀(i:Nat)(N9:List (Addr×Obj))(s:Shared)(σ:St)(H:Hp)(E:Value->Shared->Prop),Inv X N9 σ H s->(∀b∈fp,lj X N9 H b)->tn i s.heap->J.stop i H ->
  wpAny (model P w) X.A (pyNext (.ref it)) (λr s1=>r=none/\Inv X N9 σ H s1) E s
 self:∀(A:Around)(i:Nat)(s:Shared)(Q:Value->Shared->Prop)(E:Value->Shared->Prop),tn i s.heap->Q (.ref it) s->wpAny (model P w) A (pyIter (.ref it)) Q E s
abbrev TI:=St->Hp->(It->Hp->Prop)->Prop
def Mp(X:Cx)(N9:List (Addr×Obj))(σ:St)(tg:Expr)(R:It->Hp->Prop)(itv:Value)(s2:Shared):Prop :=
 ∃(it:Addr)(fp:List Addr)(tn:Nat->Heap->Prop)(J:It)(H':Hp),itv=.ref it/\Inv X N9 σ H' s2/\Turn X.prog X.w X.K tg J fp it tn/\tn 0 s2.heap/\(∀b∈fp,lj X N9 H' b)/\R J H'
def PI(X:Cx)(tg iter:Expr)(wi:TI):Prop :=
 ∀ (N9:List (Addr×Obj)) (s:Shared) (σ:St) (H:Hp) (R:It->Hp->Prop),Inv X N9 σ H s->wi σ H R ->
  wpAny ↑8 X.A (eval iter X.env) (λv s1=>wpAny ↑8 X.A (pyIter v) (Mp X N9 σ tg R) X.xe s1) X.xe s
variable{tg:Expr}
def uW {M : Model}{n : String}{vs : Array Value}{Q : Unit -> Shared -> Prop}(ho : s.heap.get? it=some o)(hc : o.cls=.type n)(hd : o.data=.fields vs)(hn : ["enumerate","zip","dict_itemiterator","dict_reverseitemiterator","odict_iterator","itertools.zip_longest","itertools.pairwise"].contains n=false)(hQ : Q () s) : wpAny M A (letOwnedTupleGo tg (.ref it) u) Q E s := by
  unfold letOwnedTupleGo;cases tg<;>first
    | exact SA hQ
    | (cases u<;>first
        | exact SA hQ
        | (refine Rz (wpAny_load ho ?_)
           rw [hc,hd];show wpAny M A (if (["enumerate","zip","dict_itemiterator","dict_reverseitemiterator","odict_iterator","itertools.zip_longest","itertools.pairwise"].contains n && vs[0]? == some (rawInt _))=true then _ else _) Q E s;rw [if_neg (by intro h; rw [hn,ZO] at h; cases h)];exact SA hQ))
def Ny(K:SD)(a:Addr):It :=
 ⟨λi H=>∃xs x,h9 K H a xs/\xs[i]?=some x,λi H x H'=>H'=H/\∀xs,h9 K H a xs->xs[i]?=some x,λi H=>∃xs,h9 K H a xs/\xs.length<=i⟩
def Nr(K:SD)(a:Addr):It :=
 ⟨λi H=>∃xs x,fJ K H a xs/\xs[i]?=some x,λi H x H'=>H'=H/\∀xs,fJ K H a xs->xs[i]?=some x,λi H=>∃xs,fJ K H a xs/\xs.length<=i⟩
def J8(lo:Int)(n:Nat):It:=⟨λi _=>i<n,λi H x H'=>H'=H/\x=.int (lo+i),λi _=>n<=i⟩
theorem zu{K:SD}(a it:Addr):Turn P w K tg (Ny K a) [it] it (λi h=>h.IsListIter it a i) where
 mem:=by simp
 obj:=λi h st b hb=>by
  have e:b=it:=by simpa using hb
  subst e;obtain⟨o,e,c,d⟩:=st;exact⟨o,e,λv z=>by rw[d] at z;cases z⟩
 keep:=λi h h' st k=>st.at λo e=>k it ↑13 o e
 item:=by
  intro X hP hw hK hc i N9 s σ H E I hf st hg;subst hP hw hK;obtain⟨xs,x,hq,hx⟩:=hg;obtain⟨Ob,rv,p,hz⟩:=I.list hq;obtain⟨u,hu,ru⟩:=rv.get hx;obtain⟨f0,f1,f2,f3,f4,f5⟩:=hf it ↑13;refine wpAny_pyNext_list_item st p.isList (x:=u) (by simpa using hu) λh' Oc sb=>?_;have I1:Inv X N9 σ H { s with heap:=h' }:=I.turned (t':=s.toks) (λb o hb e=>(sb.2 b hb).trans e) f0 f1 f3 f4 f5;obtain⟨o,e,c,d⟩:=id Oc;exact⟨u,rfl,uW (s:={ s with heap:=h' }) e c d ↑12 ⟨x,H,I1,ru,⟨rfl,λys hy=>by rwa[I.qi hy hq]⟩,Oc,λb hb=>(hf b hb).1⟩⟩
 done:=by
  intro X hP hw hK hc i N9 s σ H E I hf st hg;subst hP hw hK;obtain⟨xs,hq,hx⟩:=hg;obtain⟨Ob,rv,p,hz⟩:=I.list hq;obtain⟨f0,f1,f2,f3,f4,f5⟩:=hf it ↑13;have hl:=rv.length;exact wpAny_pyNext_list_end (I.ok.hd hc) st p.isList (by simp;lia) λh' eb=>⟨rfl,I.turned (t':=s.toks) (λb o hb e=>eb b o hb e) f0 f1 f3 f4 f5⟩
 self:=λ_ _ _ _ _ st h=>wpAny_pyIter_listiter st h
theorem w8{K:SD}(a it:Addr):Turn P w K tg (Nr K a) [it] it (λi h=>h.IsTupleIter it a i) where
 mem:=by simp
 obj:=λi h st b hb=>by
  have e:b=it:=by simpa using hb
  subst e;obtain⟨o,e,c,d⟩:=st;exact⟨o,e,λv z=>by rw[d] at z;cases z⟩
 keep:=λi h h' st k=>st.at λo e=>k it ↑13 o e
 item:=by
  intro X hP hw hK hc i N9 s σ H E I hf st hg;subst hP hw hK;obtain⟨xs,x,hq,hx⟩:=hg;obtain⟨Ob,rv,p,hz⟩:=I.tuple hq;obtain⟨u,hu,ru⟩:=rv.get hx;obtain⟨f0,f1,f2,f3,f4,f5⟩:=hf it ↑13;refine wpAny_pyNext_tuple_item st (show s.heap.IsTuple a Ob.toArray from p) (x:=u) (by simpa using hu) λh' Oc sb=>?_;have I1:Inv X N9 σ H { s with heap:=h' }:=I.turned (t':=s.toks) (λb o hb e=>(sb.2 b hb).trans e) f0 f1 f3 f4 f5;obtain⟨o,e,c,d⟩:=id Oc;exact⟨u,rfl,uW (s:={ s with heap:=h' }) e c d ↑12 ⟨x,H,I1,ru,⟨rfl,λys hy=>by rwa[I.mU hy hq]⟩,Oc,λb hb=>(hf b hb).1⟩⟩
 done:=by
  intro X hP hw hK hc i N9 s σ H E I hf st hg;subst hP hw hK;obtain⟨xs,hq,hx⟩:=hg;obtain⟨Ob,rv,p,hz⟩:=I.tuple hq;obtain⟨f0,f1,f2,f3,f4,f5⟩:=hf it ↑13;have hl:=rv.length;exact wpAny_pyNext_tuple_end (I.ok.hd hc) st (show s.heap.IsTuple a Ob.toArray from p) (by simp;lia) λh' eb=>⟨rfl,I.turned (t':=s.toks) (λb o hb e=>eb b o hb e) f0 f1 f3 f4 f5⟩
 self:=λ_ _ _ _ _ st h=>wpAny_pyIter_tupleiter st h
theorem wJ{K:SD}(it:Addr)(lo:Int)(n:Nat):Turn P w K tg (J8 lo n) [it] it (λi h=>IsRangeIter h it (lo+(i:Nat)*1) ((n:Int)-(i:Nat)) 1) where
 mem:=by simp
 obj:=λi h st b hb=>by
  have e:b=it:=by simpa using hb
  subst e;exact⟨_,st,λv z=>by
   have z':Data.fields _=Data.cell v:=z;cases z'⟩
 keep:=λi h h' st k=>k it ↑13 _ st
 item:=by
  intro X hP hw hK hc i N9 s σ H E I hf st hg;subst hP hw hK;obtain⟨f0,f1,f2,f3,f4,f5⟩:=hf it ↑13;have W:=Walks.range (prog:=X.prog) (w:=X.w) (I.ok.hd hc) it lo 1 n;refine W.item i s _ _ hg st λv h' tk hv Oc kk=>?_;obtain⟨t,rfl⟩:=hv;have I1:Inv X N9 σ H { s with heap:=h',toks:=tk }:=I.turned (λb o hb e=>kk b o (by simpa using hb) e) f0 f1 f3 f4 f5;refine⟨_,rfl,uW (s:={ s with heap:=h',toks:=tk }) (n := "range_iterator") Oc rfl rfl ↑12 ⟨.int (lo+i),H,I1,⟨t,?_⟩,⟨rfl,rfl⟩,Oc,λb hb=>(hf b hb).1⟩⟩;rw[aaS]
 done:=by
  intro X hP hw hK hc i N9 s σ H E I hf st hg;subst hP hw hK;obtain⟨f0,f1,f2,f3,f4,f5⟩:=hf it ↑13;exact YQ (I.ok.hd hc) st (by have:n<=i:=hg;lia) λh' eb=>⟨rfl,I.turned (t':=s.toks) (λb o hb e=>eb b o hb e) f0 f1 f3 f4 f5⟩
 self:=λ_ _ _ _ _ st h=>YR st h
variable{p:Pos}
variable{fp:List Addr}
theorem vL{R:It->Hp->Prop}{lo hi:Int}{t u v:Tok}{tk:Nat}(I:Inv X N9 σ H s)(h1:-(2^62)<=lo)(h2:lo<2^62)(h3:-(2^62)<=hi)(h4:hi<2^62)(q:R (J8 lo (hi-lo).toNat) H):wpAny ↑8 X.A (pyIter (.ref s.heap.objs.size)) (Mp X N9 σ tg R) E { s with heap:=s.heap.push { cls:=.type "range",data:=.fields #[.int lo t,.int hi u,.int 1 v] },toks:=tk }:=by
 refine wpAny_pyIter_range (IsRange.new ..) (small_one h1 h2 h3 h4) ?_;have I1:Inv X N9 σ H { s with heap:=s.heap.push { cls:=.type "range",data:=.fields #[.int lo t,.int hi u,.int 1 v] },toks:=tk }:=I.kept λb o e=>Sw _ e;refine⟨(s.heap.push { cls:=.type "range",data:=.fields #[.int lo t,.int hi u,.int 1 v] }).objs.size,[(s.heap.push { cls:=.type "range",data:=.fields #[.int lo t,.int hi u,.int 1 v] }).objs.size],_,_,H,rfl,
  I1.kept (t':=tk) λb o e=>Sw _ e,wJ _ lo (hi-lo).toNat,?_,λb hb=>?_,q⟩
 .have e1:lo+((0:Nat):Int)*1=lo:=by simp
  have e2:(((hi-lo).toNat:Nat):Int)-((0:Nat):Int)=Tz lo hi 1:=by rw[rangeSize_one];split<;>lia
  show IsRangeIter _ _ (lo+((0:Nat):Int)*1) ((((hi-lo).toNat:Nat):Int)-((0:Nat):Int)) 1;rw[e1,e2];exact SH _ rfl
 .have e:b=(s.heap.push { cls:=.type "range",data:=.fields #[.int lo t,.int hi u,.int 1 v] }).objs.size:=by simpa using hb
  subst e;exact I1.qL (SE _) (I1.br.fresh (SE _))
def F9(ta:TA):TI:=fun σ H R=>ta σ H λvs H1=>∃j:Int,vs=[.int j]/\-(2^62)<=j/\j<2^62/\R (J8 0 j.toNat) H1
def Gq(ta:TA):TI:=fun σ H R=>ta σ H λvs H1=>∃i j:Int,vs=[.int i,.int j]/\(-(2^62)<=i/\i<2^62/\-(2^62)<=j/\j<2^62)/\R (J8 i (j-i).toNat) H1
theorem dW{a:Expr}{ta:TA}{pos:Pos}(hg:Gl X "range")(hm:X.mg "range"=none)(ha:PA X [a] ta)(hs:autoParam (starEach [a] X.env=[(false,eval a X.env)]) aR._auto_1):PI X tg (.Call (.Name "range" p) [a] [] pos) (F9 ta):=by
 intro N9 s σ H R I h;refine Call_ (iy I hg hm boot_range (Uk (ck (ha pos N9 s σ H _ I h) λus s1 ⟨vs,H1,I1,r1,q1⟩=>?_) hs rfl));obtain⟨j,e,q1,q2,q⟩:=q1;subst e;cases r1 with
 | cons r rr =>
  cases rr;obtain⟨t,rfl⟩:=r;exact call_range_1 (vL I1 ⋯ ⋯ q1 q2 (by simpa using q))
def yF{a b:Expr}{ta:TA}{pos:Pos}(hg:Gl X "range")(hm:X.mg "range"=none)(ha:PA X [a,b] ta)(hs:autoParam (starEach [a,b] X.env=[(false,eval a X.env),(false,eval b X.env)]) aR._auto_1)(Py:autoParam (starEach [b] X.env=[(false,eval b X.env)]) aR._auto_1):PI X tg (.Call (.Name "range" p) [a,b] [] pos) (Gq ta):=by
 intro N9 s σ H R I h;refine Call_ (iy I hg hm boot_range (Uk (ck (ha pos N9 s σ H _ I h) λus s1 ⟨vs,H1,I1,r1,q1⟩=>?_) (by rw[hs,Py]) (by rw[Py];rfl)));obtain⟨i,j,e,⟨q1,q2,q3,q4⟩,q⟩:=q1;subst e;cases r1 with
 | cons r rr =>
  cases rr with
  | cons r' rr =>
   cases rr;obtain⟨t,rfl⟩:=r;obtain⟨t',rfl⟩:=r';exact call_range_2 (vL I1 q1 q2 q3 q4 q)
def M1(wi:TI)(g:TG)(tb:TS):TS:=λD σ H=>wi σ H λJ H1=>∃W:Nat->Nat->St->Hp->Prop,(∃m,W 0 m σ H1)/\∀i m σ H,W i m σ H ->
 (J.stop i H/\D.nx σ H)\/(J.go i H/\∃N:St->Hp->Prop,(∀σ' H',N σ' H'->∃m',m'<m/\W (i+1) m' σ' H')/\∀x H',J.uv i H x H'->g x σ H' fun σ2 H2=>tb { D with nx:=N,ct:=N,bk:=D.nx } σ2 H2)
def nh(fp:List Addr)(h:Heap):List (Addr×Obj):=fp.filterMap λb=>(h.get? b).map λo=>(b,o)
def jb(hb:b∈fp)(e:h.get? b=some o):(b,o)∈nh fp h:=X5.mpr ⟨b,hb,by rw[e];rfl⟩
def zv{p:Addr×Obj}(hp:p∈nh fp h):p.1∈fp/\h.get? p.1=some p.2:=by
 obtain⟨b,hb,e⟩:=X5.mp hp;cases q:h.get? b with
 | none=>rw[q] at e;cases e
 | some o =>
  rw[q] at e;have e':(b,o)=p:=Th e;subst e';exact⟨hb,q⟩
def Inv.pinned(I:Inv X N9 σ H s)(hf:∀b∈fp,lj X N9 H b)(ho:∀b∈fp,∃o,s.heap.get? b=some o/\∀v,o.data≠.cell v):Inv X (N9++nh fp s.heap) σ H s :=
 I.xT λp hp=>(TR.mp hp).elim (λz=>I.pin p (TJ _ z)) λz=>by
  obtain⟨hb,e⟩:=zv z;obtain⟨f0,f1,f2,_⟩:=hf p.1 hb;obtain⟨o,e',d⟩:=ho p.1 hb;rw[e] at e';cases e';exact⟨e,f0,f1,f2,d⟩
def Inv.mf{pl:List (Addr×Obj)}(I:Inv X (N9++pl) σ H s):Inv X N9 σ H s:=I.xT λp hp=>I.pin p (TJ _ (Ut _ hp))
def Hq{iter:Expr}{wi:TI}{g:TG}{pos:Pos}(hp:PassesOwn ↑8 X.A X.env X.xe)(hc:X.calm=true)(hi:PI X tg iter wi)(hg:PG X tg g)(hb:mW X body tb)(hs:autoParam ↑5 aI._auto_1):PS X (.For tg iter body [] pos) (M1 wi g tb):=by
 intro N9 s σ H D I h;refine wpAny_For (ck (hi N9 s σ H _ I h) λv s1 h1=>ck h1 λitv s2 h2=>?_) hs;obtain⟨it,fp,tn,J,H2,e,I2,T,Om,f2,W,⟨m0,w0⟩,turn⟩:=h2;subst e;have Qp:∀{H':Hp},(∀b∈fp,H' b=none)->∀b∈fp,lj X N9 H' b:=λhn b hb=>⟨hn b hb,(f2 b hb).2⟩
 refine codeAny_forLoop_any (λn s'=>∃i σ' H',Inv X N9 σ' H' s'/\tn i s'.heap/\(∀b∈fp,H' b=none)/\W i n σ' H') ?_ m0 ⟨0,σ,H2,I2,Om,λb hb=>(f2 b hb).1,w0⟩;rintro n s3 ⟨i,σ3,H3,I3,PH,fr3,w3⟩;rcases turn i n σ3 H3 w3 with ⟨stop,qn⟩|⟨go,N,hN,step⟩
 .refine VR hp (ck (T.done X rfl rfl rfl hc i N9 s3 σ3 H3 X.xe I3 (Qp fr3) PH stop) λr s4 ⟨hr,I4⟩=>?_);subst hr;exact Zp ⟨σ3,H3,I4,qn⟩
 .refine VR hp (ck (T.item X rfl rfl rfl hc i N9 s3 σ3 H3 X.xe I3 (Qp fr3) PH go) λr s4 ⟨u,hr,h4⟩=>?_);subst hr;refine VR hp (ck h4 λ_ s5 ⟨x,H5,I5,r5,y5,Rq,fr5⟩=>?_);have I5':=I5.pinned (Qp fr5) (T.obj _ _ Rq);refine VR hp (ck (hg _ s5 σ3 H5 x u _ I5' r5 (step x H5 y5)) λ_ s6 ⟨σ6,H6,I6,q6⟩=>?_);refine VR hp (ck (hb _ s6 σ6 H6 _ I6 q6) λf s7 q7=>?_);have again:∀{σ7:St}{H7:Hp},Inv X (N9++nh fp s5.heap) σ7 H7 s7->N σ7 H7->∃m,m<n/\∃i σ' H',Inv X N9 σ' H' s7/\tn i s7.heap/\(∀b∈fp,H' b=none)/\W i m σ' H':=λ{σ7 H7} I7 n7=>by
   obtain⟨m',hm,w7⟩:=hN σ7 H7 n7;refine⟨m',hm,i+1,σ7,H7,I7.mf,T.keep _ _ _ Rq λb hb o e=>(I7.pin (b,o) (TJ _ (TJ _ (jb hb e)))).1,λb hb=>?_,w7⟩;obtain⟨o,e,d⟩:=T.obj _ _ Rq b hb;exact(I7.pin (b,o) (TJ _ (TJ _ (jb hb e)))).2.1
  cases f with
  | next=>obtain⟨σ7,H7,I7,n7⟩:=q7;exact again I7 n7
  | cont=>obtain⟨σ7,H7,I7,n7⟩:=q7;exact again I7 n7
  | brk=>obtain⟨σ7,H7,I7,q7⟩:=q7;exact⟨σ7,H7,I7.mf,q7⟩
  |ret v=>obtain⟨x7,σ7,H7,I7,r7,q7⟩:=q7;exact⟨x7,σ7,H7,I7.mf,r7,q7⟩
abbrev R2:=V->V->Hp->VK->Prop
def gf(X:Cx)(f:Value->Value->Sem Value)(r:R2):Prop :=
 ∀ (N9:List (Addr×Obj)) (s:Shared) (σ:St) (H:Hp) (x y:V) (v u:Value) (Q:VK),Inv X N9 σ H s->RelV x v->RelV y u->r x y H Q ->
  wpAny ↑8 X.A (f v u) (EP X N9 σ Q) X.xe s
def MO(X:Cx)(f:Value->Sem Value)(r:V->Hp->VK->Prop):Prop :=
 ∀ (N9:List (Addr×Obj)) (s:Shared) (σ:St) (H:Hp) (x:V) (v:Value) (Q:VK),Inv X N9 σ H s->RelV x v->r x H Q ->
  wpAny ↑8 X.A (f v) (EP X N9 σ Q) X.xe s
def cv(X:Cx)(f:Value)(r:List V->Hp->VK->Prop):Prop :=
 ∀ (N9:List (Addr×Obj)) (s:Shared) (σ:St) (H:Hp) (xs:List V) (us:List Value) (Q:VK),Inv X N9 σ H s->Vals xs us->r xs H Q ->
  wpAny ↑8 X.A (call f us) (EP X N9 σ Q) X.xe s
def J3(r:R2)(ta tb:TE):TE:=fun σ H Q=>ta σ H λx H1=>tb σ H1 λy H2=>r x y H2 Q
def Nn(r:V->Hp->VK->Prop)(ta:TE):TE:=fun σ H Q=>ta σ H λx H1=>r x H1 Q
def rI(C:Int->Int->Prop)(g:Int->Int->V):R2:=λx y H Q=>∃i j,x=.int i/\y=.int j/\C i j/\Q (g i j) H
def xG(g:Int->Int->V):R2:=λx y H Q=>∃i j,x=.int i/\y=.int j/\Q (g i j) H
def rU(g:Int->V):V->Hp->VK->Prop:=λx H Q=>∃i,x=.int i/\Q (g i) H
variable{f:Value->Value->Sem Value}
variable{r:R2}
section
variable{a b:Expr}{tb tc:TE}{pos:Pos}
def Ig(ha:PE X a ta)(hb:PE X b tb){R:V->V->Hp->Prop}(I:Inv X N9 σ H s)(h:ta σ H λx H1=>tb σ H1 λy H2=>R x y H2)(hf:∀v u s2 x y H2,Inv X N9 σ H2 s2->RelV x v->RelV y u->R x y H2->wpAny ↑8 X.A (f v u) Q X.xe s2):wpAny ↑8 X.A (eval a X.env) (λv s₁=>wpAny ↑8 X.A (eval b X.env) (λu s₂=>wpAny ↑8 X.A (f v u) Q X.xe s₂) X.xe s₁) X.xe s:=by
 refine ck (ha N9 s σ H _ I h) λv s1 ⟨x,H1,I1,r1,q1⟩=>?_;refine ck (hb N9 s1 σ H1 _ I1 q1) λu s2 ⟨y,H2,I2,r2,q2⟩=>?_;exact hf v u s2 x y H2 I2 r1 r2 q2
def K1{op:Operator}(ho:gf X (binaryOp op) r)(ha:PE X a ta)(hb:PE X b tb):PE X (.BinOp a op b pos) (J3 r ta tb):=by
 intro N9 s σ H Q I h;exact wpAny_BinOp (Ig ha hb I h λv u s2 x y H2 I2 rx ry q=>ho N9 s2 σ H2 x y v u Q I2 rx ry q)
def K7{op:UnaryOp}{r:V->Hp->VK->Prop}(ho:MO X (unaryOp op) r)(ha:PE X a ta):PE X (.UnaryOp op a pos) (Nn r ta):=by
 intro N9 s σ H Q I h;exact UnaryOp_ (ck (ha N9 s σ H _ I h) λv s1 ⟨x,H1,I1,r1,q1⟩=>ho N9 s1 σ H1 x v Q I1 r1 q1)
def MU{C:Int->Int->Prop}{g:Int->Int->Int}(rule:∀(i j:Int)(t u:Tok)(s:Shared)(Q:Value->Shared->Prop)(E:Value->Shared->Prop),C i j->Q (.int (g i j) s.toks) { s with toks:=s.toks+1 }->wpAny ↑8 X.A (f (.int i t) (.int j u)) Q E s):gf X f (rI C λi j=>.int (g i j)):=by
 intro N9 s σ H x y v u Q I rx ry h;obtain⟨i,j,rfl,rfl,hc,q⟩:=h;obtain⟨t,rfl⟩:=rx;obtain⟨t',rfl⟩:=ry;exact rule i j t t' s _ _ hc ⟨.int (g i j),H,I.tok _,⟨_,rfl⟩,q⟩
def Kt{g:Int->Int->Int}(rule:∀(i j:Int)(t u:Tok)(s:Shared)(Q:Value->Shared->Prop)(E:Value->Shared->Prop),Q (.int (g i j) s.toks) { s with toks:=s.toks+1 }->wpAny ↑8 X.A (f (.int i t) (.int j u)) Q E s):gf X f (xG λi j=>.int (g i j)):=by
 intro N9 s σ H x y v u Q I rx ry h;obtain⟨i,j,rfl,rfl,q⟩:=h;obtain⟨t,rfl⟩:=rx;obtain⟨t',rfl⟩:=ry;exact rule i j t t' s _ _ ⟨.int (g i j),H,I.tok _,⟨_,rfl⟩,q⟩
def DW{g:Int->Int->Bool}(rule:∀(i j:Int)(t u:Tok)(s:Shared)(Q:Value->Shared->Prop)(E:Value->Shared->Prop),Q (.bool (g i j)) s->wpAny ↑8 X.A (f (.int i t) (.int j u)) Q E s):gf X f (xG λi j=>.bl (g i j)):=by
 intro N9 s σ H x y v u Q I rx ry h;obtain⟨i,j,rfl,rfl,q⟩:=h;obtain⟨t,rfl⟩:=rx;obtain⟨t',rfl⟩:=ry;exact rule i j t t' s _ _ ⟨.bl (g i j),H,I,rfl,q⟩
def Ik:gf X (binaryOp .Add) (xG λi j=>.int (i+j)):=Kt λ_ _ _ _ _ _ _ q=>add_int q
def Jm:gf X (binaryOp .Sub) (xG λi j=>.int (i-j)):=Kt λ_ _ _ _ _ _ _ q=>sub_int q
def E6:gf X (binaryOp .Mod) (rI (λ_ j=>j≠0) λi j=>.int (i.fmod j)):=MU λ_ _ _ _ _ _ _ hc q=>mod_int' hc q
def NZ{f:Value->Sem Value}{g:Int->Int}(rule:∀(i:Int)(t:Tok)(s:Shared)(Q:Value->Shared->Prop)(E:Value->Shared->Prop),Q (.int (g i) s.toks) { s with toks:=s.toks+1 }->wpAny ↑8 X.A (f (.int i t)) Q E s):MO X f (rU λi=>.int (g i)):=by
 intro N9 s σ H x v Q I rx h;obtain⟨i,rfl,q⟩:=h;obtain⟨t,rfl⟩:=rx;exact rule i t s _ _ ⟨.int (g i),H,I.tok _,⟨_,rfl⟩,q⟩
def JW:MO X (unaryOp .USub) (rU λi=>.int (-i)):=NZ λ_ _ _ _ _ q=>neg_int q
end
variable{op:CmpOp}
variable{us:List Value}
section
variable{a b:Expr}{tb tc:TE}{pos:Pos}
def xr{Q:VK}{k k':Bool}(I:Inv X N9 σ H s)(q:Q (.bl k) H)(e:k=k'):EP X N9 σ Q (.bool k') s:=by
 subst e;exact⟨.bl k,H,I,rfl,q⟩
def uH:gf X (compareOp .Lt) (xG λi j=>.bl (decide (i<j))):=DW λ_ _ _ _ _ _ _ q=>lt_int q
def pB:gf X (compareOp .LtE) (xG λi j=>.bl (decide (i<=j))):=DW λ_ _ _ _ _ _ _ q=>le_int q
def Gy:gf X (compareOp .Gt) (xG λi j=>.bl (decide (j<i))):=DW λ_ _ _ _ _ _ _ q=>gt_int q
def GJ:gf X (compareOp .GtE) (xG λi j=>.bl (decide (j<=i))):=DW λ_ _ _ _ _ _ _ q=>ge_int q
def Bs:gf X (compareOp .Is) (λx y H Q=>y=.dq/\Q (.bl (decide (x=.dq))) H):=by
 intro N9 s σ H x y v u Q I rx ry h;obtain⟨rfl,q⟩:=h;cases ry;refine is_none_gen (xr I q ?_);cases x<;>first
  | (cases rx;rfl)
  |(obtain⟨t,rfl⟩:=rx;rfl)
def gf.or{r':R2}(h:gf X f r)(h':gf X f r'):gf X f (λx y H Q=>r x y H Q\/r' x y H Q):=by
 intro N9 s σ H x y v u Q I rx ry q;rcases q with q|q
 .exact h N9 s σ H x y v u Q I rx ry q
 .exact h' N9 s σ H x y v u Q I rx ry q
def eJ(b:Expr)(h:autoParam (op≠.In) aD._auto_1)(h2:autoParam (op≠.NotIn) aD._auto_1):behindInMarks op b=false:=by
 have e1:(op==CmpOp.In)=false:=by cases op<;>first|rfl|exact absurd rfl h
 have e2:(op==CmpOp.NotIn)=false:=by cases op<;>first|rfl|exact absurd rfl h2
 cases b<;>simp[behindInMarks,e1,e2]
def Fl(ho:gf X (compareOp op) r)(ha:PE X a ta)(hb:PE X b tb)(hm:behindInMarks op b=false):PE X (.Compare a [op] [b] pos) (J3 r ta tb):=by
 intro N9 s σ H Q I h;exact wpAny_Compare1 (Ig ha hb I h λv u s2 x y H2 I2 rx ry q=>ho N9 s2 σ H2 x y v u Q I2 rx ry q) hm
def GC(t:TE):TT:=fun σ H Q=>t σ H λx H'=>∃k,x=.bl k/\Q k H'
def xJ(ho:gf X (compareOp op) r)(ha:PE X a ta)(hb:PE X b tb)(hm:behindInMarks op b=false):PT X (.Compare a [op] [b] pos) (GC (J3 r ta tb)):=by
 intro N9 s σ H Q I h;refine wpAny_isTrue_Compare1 (ck (ha N9 s σ H _ I h) λv s1 ⟨x,H1,I1,r1,q1⟩=>ck (hb N9 s1 σ H1 _ I1 q1) λu s2 ⟨y,H2,I2,r2,q2⟩ =>
  ck (ho N9 s2 σ H2 x y v u _ I2 r1 r2 q2) λc s3 ⟨z,H3,I3,r3,k,e,q3⟩=>?_) hm
 subst e;cases r3;exact Us ⟨H3,I3,q3⟩
def wt(r r':R2)(ta tb tc:TE):TE:=fun σ H Q=>ta σ H λx H1=>tb σ H1 λy H2=>r x y H2 λz H3=>∃k,z=.bl k ∧
 (if k=true then tc σ H3 λw' H4=>r' y w' H4 Q else Q (.bl false) H3)
def B7{Qn:CmpOp}{r':R2}(ho:gf X (compareOp op) r)(PU:gf X (compareOp Qn) r')(ha:PE X a ta)(hb:PE X b tb)(hc:PE X c tc)(hm:autoParam (lastMarks [op,Qn] [b,c]=false) aU._auto_1):PE X (.Compare a [op,Qn] [b,c] pos) (wt r r' ta tb tc):=by
 intro N9 s σ H Q I h;refine Compare_chain (ck (ha N9 s σ H _ I h) λv s1 ⟨x,H1,I1,r1,q1⟩=>chain_link (ck (hb N9 s1 σ H1 _ I1 q1) λu s2 ⟨y,H2,I2,r2,q2⟩ =>
  ck (ho N9 s2 σ H2 x y v u _ I2 r1 r2 q2) λd s3 ⟨z,H3,I3,r3,k,e,q3⟩=>?_)) hm
 subst e;cases r3;refine Us ?_;cases k with
 | false=>exact ite_ff ⟨.bl false,H3,I3,rfl,q3⟩
 |true=>exact ite_tt (chain_last (ck (hc N9 s3 σ H3 _ I3 q3) λw' s4 ⟨z',H4,I4,r4,q4⟩=>PU N9 s4 σ H4 y z' u w' Q I4 r2 r4 q4))
def DI{Qn:CmpOp}{r':R2}(ho:gf X (compareOp op) r)(PU:gf X (compareOp Qn) r')(ha:PE X a ta)(hb:PE X b tb)(hc:PE X c tc)(hm:autoParam (lastMarks [op,Qn] [b,c]=false) aU._auto_1):PT X (.Compare a [op,Qn] [b,c] pos) (GC (wt r r' ta tb tc)):=by
 intro N9 s σ H Q I h;refine isTrue_chain (ck (ha N9 s σ H _ I h) λv s1 ⟨x,H1,I1,r1,q1⟩=>test_link (ck (hb N9 s1 σ H1 _ I1 q1) λu s2 ⟨y,H2,I2,r2,q2⟩ =>
  ck (ho N9 s2 σ H2 x y v u _ I2 r1 r2 q2) λd s3 ⟨z,H3,I3,r3,k,e,q3⟩=>?_)) hm
 subst e;cases r3;refine Us ?_;cases k with
 | false =>
  obtain⟨k',e',q'⟩:=q3;cases e';exact ite_ff ⟨H3,I3,q'⟩
 | true =>
  refine ite_tt (test_last (ck (hc N9 s3 σ H3 _ I3 q3) λw' s4 ⟨z',H4,I4,r4,q4⟩=>ck (PU N9 s4 σ H4 y z' u w' _ I4 r2 r4 q4) λd' s5 ⟨z2,H5,I5,r5,k2,e2,q5⟩=>?_));subst e2;cases r5;exact Us ⟨H5,I5,q5⟩
def pO:(sizeLine:Nat)<2^63:=by rw[sizeLine_eq];decide
def wL:gf X (binaryOp .Add) (λx y H Q=>∃i j,x=.str i/\y=.str j/\i.length+j.length<=sizeLine/\Q (.str (i++j)) H):=by
 intro N9 s σ H x y v u Q I rx ry h;obtain⟨i,j,rfl,rfl,hz,q⟩:=h;obtain⟨t,rfl⟩:=rx;obtain⟨t',rfl⟩:=ry;exact add_str (λt' tk=>⟨.str (i++j),H,I.tok _,⟨_,rfl⟩,q⟩) hz
def vals1{x:V}(r:Vals [x] us):∃u,us=[u]/\RelV x u:=by
 cases r with
 |cons r1 r2=>cases r2;exact⟨_,rfl,r1⟩
def vals2{x y:V}(r:Vals [x,y] us):∃u w',us=[u,w']/\RelV x u/\RelV y w':=by
 cases r with
 | cons r1 r2 =>
  cases r2 with
  |cons r3 r4=>cases r4;exact⟨_,_,rfl,r1,r3⟩
def zJ(hc:X.calm=true):cv X (.builtin "max") (λxs H Q=>∃i j,xs=[.int i,.int j]/\Q (.int (if j>i then j else i)) H):=by
 intro N9 s σ H xs us Q I r h;obtain⟨i,j,rfl,q⟩:=h;obtain⟨u,w',rfl,⟨t,rfl⟩,⟨t',rfl⟩⟩:=vals2 r;refine max_two_ints (I.ok.hd hc) λh' tk k=>⟨_,H,I.kept k,?_,q⟩
 by_cases hj:j>i
 .rw[if_pos hj,if_pos hj];exact⟨_,rfl⟩
 .rw[if_neg hj,if_neg hj];exact⟨_,rfl⟩
def yX(hc:X.calm=true):cv X (.builtin "min") (λxs H Q=>∃i j,xs=[.int i,.int j]/\Q (.int (if j<i then j else i)) H):=by
 intro N9 s σ H xs us Q I r h;obtain⟨i,j,rfl,q⟩:=h;obtain⟨u,w',rfl,⟨t,rfl⟩,⟨t',rfl⟩⟩:=vals2 r;refine min_two_ints (I.ok.hd hc) λh' tk k=>⟨_,H,I.kept k,?_,q⟩
 by_cases hj:j<i
 .rw[if_pos hj,if_pos hj];exact⟨_,rfl⟩
 .rw[if_neg hj,if_neg hj];exact⟨_,rfl⟩
end
structure xc (h:Heap) (x dx C:Addr) (mA:Str->Option Value):Prop where
 obj:h.get? x=some (Vu C dx)
 ns:h.Ns1 dx mA
 ne:dx≠x
variable{mA:Str->Option Value}{dx:Addr}
def rf(n:h.Ns1 dx mA):∃od,h.get? dx=some od/\∀name,WY name od=some (mA name):=by
 obtain⟨o,es,ep,ho,hd,hk,_,hm⟩:=n;refine⟨o,ho,λname=>?_⟩;have e:=hm name;unfold nsFind findBy at e;rw[<- Array.find?_toList] at e;unfold WY;rw[hd];dsimp only
 split
 .rename_i y q;rw[q] at e;exact congrArg some e
 .rename_i q;rw[q] at e;have a:es.toList.any (·.refKey)=false:=by
   rw[List.any_eq_false];intro y hy;obtain⟨z,t,PN⟩:=hk y (Xv.mp hy);simp[DictEntry.refKey,PN]
  have a':¬ es.toList.any (·.refKey)=true:=by rw[a];exact Tq
  rw[if_neg a'];exact congrArg some e
variable{C:Addr}
def xc.look{x:Addr}(I:xc h x dx C mA):∃od,WZ h x (Vu C dx) C (some od)/\∀name,WY name od=some (mA name) :=
 let ⟨od,ho,hl⟩:=rf I.ns
 ⟨od,⟨I.obj,rfl,rfl,ho⟩,hl⟩
variable{prog:Program}
variable{pl:Sem Bool}
variable{kw:List (Str×Value)}
section
variable{K:SD}{x f:Addr}{name:Str}{v:Value}
def get_map{expr:Bool}(X:K.In s.heap)(I:xc s.heap x dx C mA)(hg:Xj K C name=true)(hh:W0 K C=true)(ha:T_ K (.ref C) name=some none)(hv:mA name=some v)(QP:aaE v=true)(h:Q v { s with toks:=s.toks+1 }):wpAny ↑11 A (getAttr (.ref x) name expr) Q E s:=by
 obtain⟨od,J,hl⟩:=I.look;exact PySem.W.get_value X J (XN hg).1 (PySem.W.findObj_own hh ha rfl (by rw[hl,hv])) QP h
def CS{Q:Value×List Value->Shared->Prop}(X:K.In s.heap)(I:xc s.heap x dx C mA)(hg:Xj K C name=true)(hf:T_ K (.ref C) name=some (some (.ref f)))(ht:YS K (.ref f)=true)(hv:mA name=none)(h:Q (.ref f,[.ref x]) s):wpAny ↑11 A (getMethod (.ref x) name pl) Q E s:=by
 obtain⟨od,J,hl⟩:=I.look;exact PySem.W.method_fn X J (XN hg).1 (XN hg).2 hf (beq_iff_eq.mp ht) (by show (WY name od).map (·.isSome)=some false;rw[hl,hv];rfl) h
theorem E8{ns:List Str}{Q:Unit->Shared->Prop}(X:K.In s.heap)(I:xc s.heap x dx C mA)(hs:T_ K (.ref C) "__setattr__"=some (some (.builtin "object.__setattr__")))(hp:aap K C=true)(ht:Zq K C name=some none)(hh:W0 K C=true)(hw:aan mA ns)(hsz:ns.length<=sizeLine)(h:∀h',xc h' x dx C (λy=>if y=name then some v else mA y)->VW dx s.heap h'->Q () { s with heap:=h',toks:=s.toks+2 }):wpAny ↑11 A (setAttr (.ref x) name v) Q E s:=by
 obtain⟨od,J,hl⟩:=I.look;refine PySem.W.set_plain X J hs (PySem.W.osa_open (s:={ s with toks:=s.toks+1 }) (r:=none) X J hp ht λb=>?_);obtain⟨cd,hc,Q1⟩:=Xk hh;have hx:s.heap.get? x=some ⟨.ref C,some dx,.plain,#[]⟩:=I.obj;refine Rz (SA (Rz (Rz (wpAny_loadPart hx (Rz (PySem.W.Looks.here (s:={ s with toks:=s.toks+1 }) (PySem.W.looks_clsIn X hc) ?_))))));rw[Q1];refine SA (a:=some dx) (Rz (SA (Rz ?_)));refine wpAny_nsSet1 (s:={ s with toks:=s.toks+1 }) I.ns λh' Rx Py=>?_;obtain⟨oD,esD,epD,hoD,hdD,Q9⟩:=Rx.count (PySem.Within.cons name v hw);refine Rz (wpAny_lookBehind hoD (by rw[hdD];exact pastItsLine_dict (Ug Q9 (by rw[Tj];lia))) ?_);exact SA (h _ ⟨(Py.2 _ (UN I.ne)).trans I.obj,Rx,I.ne⟩ Py)
def Av{R:Result->Shared->Prop}{vs:List Value}(X:K.In s.heap)(hm:aaY K C=true)(hi:T_ K (.ref C) "__init__"=some (some (.ref f)))(hf:PySem.W.typeIn K (.ref f)=some (.type "function"))(h:codeAny ↑11 (A.under (.builtin "type.__call__" ⟨.ref C::vs,kw⟩)) (.call (.ref f) ⟨.ref (s.heap.objs.size+1)::vs,kw⟩) (PySem.W.InitBack (s.heap.objs.size+1) R) { s with heap:=(s.heap.push UO).push (Vu C s.heap.objs.size) }):codeAny ↑11 A (.call (.ref C) ⟨vs,kw⟩) R s:=by
 obtain⟨hh,g,d,t,os⟩:=s;exact PySem.W.make_core (PySem.W.makes_of X hm) (Xw X hi) (λself=>PySem.W.bind_fn X self hf) (.inl rfl) h
end
def jy(f:Str)(v:V):List (Str×V)->List (Str×V)
 | []=>[(f,v)]
 |(g,x)::r=>if g=f then (g,v)::r else (g,x)::jy f v r
theorem nA(f g:Str)(v:V):∀fs:List (Str×V),(jy f v fs).lookup g=if g=f then some v else fs.lookup g
 | []=>by
  show VX g [(f,v)]=_
  by_cases h:g=f
  .have hb:(g==f)=true:=beq_iff_eq.mpr h;simp only[VX,hb,if_pos h]
  .have hb:(g==f)=false:=beq_eq_false_iff_ne.mpr h;simp only[VX,hb,if_neg h]
 | (k,x)::r=>by
  have ih:=nA f g v r;rw[show jy f v ((k,x)::r)=(if k=f then (k,v)::r else (k,x)::jy f v r) from rfl]
  by_cases hk:k=f
  .rw[if_pos hk]
   by_cases h:g=k
   .have hb:(g==k)=true:=beq_iff_eq.mpr h;simp only[VX,hb,if_pos (h.trans hk)]
   .have hb:(g==k)=false:=beq_eq_false_iff_ne.mpr h;simp only[VX,hb,if_neg (λe:g=f=>h (e.trans hk.symm))]
  .rw[if_neg hk]
   by_cases h:g=k
   .have hb:(g==k)=true:=beq_iff_eq.mpr h;simp only[VX,hb,if_neg (λe:g=f=>hk (h.symm.trans e))]
   .have hb:(g==k)=false:=beq_eq_false_iff_ne.mpr h;simp only[VX,hb];exact ih
theorem nu(f:Str)(v:V):∀fs:List (Str×V),f∈(jy f v fs).map (·.1)/\∀g,g∈fs.map (·.1)->g∈(jy f v fs).map (·.1)
 | []=>⟨by simp[jy],λg h=>by simp at h⟩
 | (k,x)::r=>by
  obtain⟨i1,i2⟩:=nu f v r;rw[show jy f v ((k,x)::r)=(if k=f then (k,v)::r else (k,x)::jy f v r) from rfl]
  by_cases hk:k=f
  .rw[if_pos hk];subst hk;exact⟨by simp,λg h=>by simpa using h⟩
  .rw[if_neg hk];refine⟨?_,λg h=>?_⟩
   .rw[S0];exact SO _ i1
   .rw[S0] at h ⊢;rcases SQ.mp h with e|e
    .exact SQ.mpr (.inl e)
    .exact SO _ (i2 g e)
theorem nI(f:Str)(v:V):∀fs:List (Str×V),(jy f v fs).length<=fs.length+1
 | []=>by simp[jy]
 | (k,x)::r=>by
  have ih:=nI f v r;rw[show jy f v ((k,x)::r)=(if k=f then (k,v)::r else (k,x)::jy f v r) from rfl]
  by_cases hk:k=f
  .rw[if_pos hk,Tj,Tj];lia
  .rw[if_neg hk,Tj,Tj];lia
def ko.some_of{o:Option Value}(r:ko (some v) o):∃u,o=some u/\RelV v u:=by
 cases o with
 | none=>exact(show False from r).elim
 |some u=>exact⟨u,rfl,r⟩
def ko.none_of{o:Option Value}(r:ko none o):o=none:=by
 cases o with
 | none=>rfl
 |some u=>exact(show False from r).elim
def zQ(r:RelV v u):aaE u=true:=by
 cases v with
 | dq=>cases (show u=TY from r);rfl
 | bl b=>cases (show u=Vt b from r);rfl
 | int i=>obtain⟨t,e⟩:=(show ∃t,u=WT i t from r);cases e;rfl
 | str x=>obtain⟨t,e⟩:=(show ∃t,u=XZ x t from r);cases e;rfl
 | byt b=>obtain⟨t,e⟩:=(show ∃t,u=Value.bytes b t from r);cases e;rfl
 | F_ b=>obtain⟨t,e⟩:=(show ∃t,u=ZM b t from r);cases e;rfl
 | ref a=>cases (show u=SN a from r);rfl
 |ty n=>cases (show u=Uy n from r);rfl
section
variable{a:Addr}{fs fs':List (Str×V)}
def l_(br:kI P w H h)(e:H a=some (.ins C dx fs)):∃mA,xc h a dx C mA/\(∀f,ko (fs.lookup f) (mA f))/\aan mA (fs.map (·.1))/\fs.length<=1000/\H dx=some (.own a):=by
 obtain⟨d,z,ne,ob,mA,n,r,q⟩:=(show bf P w H h a (.ins C dx fs) from br a _ e)
 exact⟨mA,⟨ob,n,ne⟩,r,q,z,d⟩
end
structure mn (K:SD) (C:Addr):Prop where
 pg:Xj K C Str.empty=true
 hd:W0 K C=true
 po:aap K C=true
 sa:T_ K (.ref C) "__setattr__"=some (some (.builtin "object.__setattr__"))
def mn.get{K:SD}(c:mn K C)(f:Str):Xj K C f=true:=c.pg
def bW(K:SD)(C:Addr)(f:Str):Prop:=T_ K (.ref C) f=some none
def bW.LC{K:SD}{f:Str}(n:bW K C f):Zq K C f=some none:=by
 unfold Zq;rw[show T_ K (.ref C) f=some none from n];rfl
structure Meth (K:SD) (C:Addr) (m:Str) (f:Addr):Prop where
 at_:T_ K (.ref C) m=some (some (.ref f))
 fn:YS K (.ref f)=true
 kp:Vn K (.ref f)=true
variable{m:Str}
section
variable{a:Addr}{fs:List (Str×V)}{f:Str}
def wc{b:Bool}(I:Inv X N9 σ H s)(e:H a=some (.ins C dx fs))(c:mn X.K C)(n:bW X.K C f)(l:fs.lookup f=some v)(h:∀u s',Inv X N9 σ H s'->RelV v u->Q u s'):wpAny ↑8 A (getAttr (.ref a) f b) Q E s:=by
 obtain⟨mA,O,r,_,_,_⟩:=l_ I.br e;obtain⟨u,hu,ru⟩:=ko.some_of (v:=v) (o:=mA f) (by rw[<- l];exact r f);exact get_map I.mq O (c.get f) c.hd n hu (zQ ru) (h u _ (I.tok _) ru)
def pC{g:Addr}{Q:Value×List Value->Shared->Prop}(I:Inv X N9 σ H s)(e:H a=some (.ins C dx fs))(c:mn X.K C)(k:Meth X.K C m g)(l:fs.lookup m=none)(h:Q (.ref g,[.ref a]) s):wpAny ↑8 A (getMethod (.ref a) m pl) Q E s:=by
 obtain⟨mA,O,r,_,_,_⟩:=l_ I.br e;have hn:mA m=none:=ko.none_of (by rw[<- l];exact r m);exact CS I.mq O (c.get m) k.at_ k.fn hn h
theorem xh{y:V}{Q:Unit->Shared->Prop}(I:Inv X N9 σ H s)(e:H a=some (.ins C dx fs))(c:mn X.K C)(n:bW X.K C f)(hl:fs.length<1000)(ry:RelV y u)(h:∀s',Inv X N9 σ (upd H a (.ins C dx (jy f y fs))) s'->Q () s'):wpAny ↑8 A (setAttr (.ref a) f u) Q E s:=by
 obtain⟨mA,O,r,wi,_,ho⟩:=l_ I.br e;have hz:(fs.map (·.1)).length<=sizeLine:=by rw[SG,sizeLine_eq];lia
 refine E8 I.mq O c.sa c.po n.LC c.hd wi hz λh' O' sb=>h _ ?_;have hd:∃o,h'.get? dx=some o:=let ⟨o,_,_,e',_⟩:=O'.ns;⟨o,e'⟩
 refine I.write (x:=a) (e:=dx) (by rw[e];exact Uz) (.inr ho) (λb q hb z=>(sb.2 b hb).trans z) hd ?_;refine⟨by rwa[au O.ne],?_,O.ne,O'.obj,_,O'.ns,λg=>?_,λg hg=>?_⟩
 .have:=nI f y fs;lia
 .show ko ((jy f y fs).lookup g) (if g=f then some u else mA g);rw[nA]
  by_cases q:g=f
  .rw[if_pos q,if_pos q];exact ry
  .rw[if_neg q,if_neg q];exact r g
 .by_cases q:g=f
  .rw[q];exact(nu f y fs).1
  .refine(nu f y fs).2 g (wi g λz=>hg ?_);show (if g=f then some u else mA g)=none;rwa[if_neg q]
def Inv.made(I:Inv X N9 σ H s):Inv X N9 σ (upd (upd H s.heap.objs.size (.own (s.heap.objs.size+1))) (s.heap.objs.size+1) (.ins C s.heap.objs.size [])) { s with heap:=(s.heap.push UO).push (Vu C s.heap.objs.size) }:=by
 have e1:(s.heap.push UO).get? s.heap.objs.size=some UO:=SH s.heap rfl;have e2:((s.heap.push UO).push (Vu C s.heap.objs.size)).get? (s.heap.objs.size+1)=some (Vu C s.heap.objs.size):=by
  have:=SH (s.heap.push UO) (o:=Vu C s.heap.objs.size) rfl
  rwa [TM] at this
 have e3:(s.heap.push UO).Ns s.heap.objs.size (λ_=>none):=⟨UO,#[],_,e1,rfl,(λe he=>absurd he ↑13),λ_=>rfl⟩
 have I1:=I.laid (a:=s.heap.objs.size) (o:=.own (s.heap.objs.size+1)) (h':=s.heap.push UO) (t':=s.toks) (λb u q=>Sw _ q) (SE _) ⟨_,e1⟩;refine I1.laid (a:=s.heap.objs.size+1) (o:=.ins C s.heap.objs.size []) (t':=s.toks) (λb u q=>Sw _ q) (YT (TM _ _)) ?_;have ne:s.heap.objs.size≠s.heap.objs.size+1:=SW (UG _);refine⟨by rw[au ne,ay],SX _,ne,e2,λ_=>none,(Heap.Ns1.of_empty e3).at λo q=>Sw _ q,λ_=>Uz,λy hy=>absurd rfl hy⟩
def FE{env:Env}{f:Str}{pos:Pos}(hb:attributeBase e f env (eval e env)=eval e env)(h:wpAny ↑11 A (eval e env) (λo s₁=>wpAny ↑11 A (getAttr o f true) Q E s₁) E s):wpAny ↑11 A (eval (.Attribute e f pos) env) Q E s :=
 Attribute_any_ h (by rw[arm_eval_Attribute,hb])
end
def MR(K:SD)(ta:TE)(f:Str):TE:=fun σ H Q=>ta σ H λx H1=>∃a C dx fs v,x=.ref a/\H1 a=some (.ins C dx fs)/\mn K C/\bW K C f/\fs.lookup f=some v/\Q v H1
def Mh(K:SD)(ta tv:TE)(f:Str):TS:=λD σ H=>tv σ H λy H1=>ta σ H1 λx H2=>∃a C dx fs,x=.ref a/\H2 a=some (.ins C dx fs)/\mn K C/\bW K C f/\fs.length<1000 ∧
 D.nx σ (upd H2 a (.ins C dx (jy f y fs)))
section
variable{o value:Expr}{f:Str}{pos pos' Sv:Pos}{tv:TE}
def HV(he:PE X e ta)(hb:attributeBase e f X.env (eval e X.env)=eval e X.env):PE X (.Attribute e f pos) (MR X.K ta f):=by
 intro N9 s σ H Q I h;refine FE hb (ck (he N9 s σ H _ I h) λu s1 ⟨x,H1,I1,rx,a,C,dx,fs,v,ex,ea,c,n,l,q⟩=>?_);subst ex;obtain rfl:u=SN a:=rx;exact wc I1 ea c n l λu' s2 I2 ru=>⟨v,H1,I2,ru,q⟩
def Ih(ha:PE X o ta)(hv:PE X value tv)(hs:swapsWith value (some (.Attribute o f pos')) pos.line X.env=pure false):PS X (.Assign [.Attribute o f pos'] value pos) (Mh X.K ta tv f):=by
 intro N9 s σ H D I h;refine plainObj_wpAny_Assign_Attribute (ck (hv N9 s σ H _ I h) λu s1 ⟨y,H1,I1,ry,q⟩=>ck (ha N9 s1 σ H1 _ I1 q) λov s2 ⟨x,H2,I2,rx,a,C,dx,fs,ex,ea,c,n,l,q2⟩=>?_) hs;subst ex;obtain rfl:ov=SN a:=rx;exact xh I2 ea c n l ry λs3 I3=>⟨σ,_,I3,q2⟩
end
section
variable{c:Value}{b:Bool}
inductive jJ (K:SD) (H:Hp):V->Value->Prop where
 | dq:jJ K H .dq (.type "NoneType")
 | bl (x:Bool):jJ K H (.bl x) (.type "bool")
 | int (i:Int):jJ K H (.int i) (.type "int")
 | str (x:Str):jJ K H (.str x) (.type "str")
 | F_ (x:UInt64):jJ K H (.F_ x) (.type "float")
 | lst {a:Addr} {xs:List V} (e:H a=some (.lst xs)):jJ K H (.ref a) (.type "list")
 | jx {a:Addr} {o:Obj} {xs:List V} (e:H a=some (.jx o (.lst xs))):jJ K H (.ref a) (.type "list")
 | tup {a:Addr} {xs:List V} (e:H a=some (.tup xs)):jJ K H (.ref a) (.type "tuple")
 | dK {a:Addr} {Oa:List (Key×V)} (e:H a=some (.dK Oa)):jJ K H (.ref a) (.type "dict")
 | dT {a:Addr} {Oa:List (List Key×V)} (e:H a=some (.dT Oa)):jJ K H (.ref a) (.type "dict")
 | ins {a C dx:Addr} {fs:List (Str×V)} (e:H a=some (.ins C dx fs)) (cl:mn K C) (ha:T_ K (.ref C) "__class__"=some (some (.builtin "object.__class__")))
   (hn:W2 K (.builtin "object.__class__") "__get__"=some (some (.builtin "getset_descriptor.__get__"))) (J1:XC K (.builtin "object.__class__")=some true)
   (hm:Yv K C (.type "object")=some true):jJ K H (.ref a) (.ref C)
def yE{x:V}{t:Value}(I:Inv X N9 σ H s)(rx:RelV x u)(ty:jJ X.K H x t)(e:Vo X.K t c=some b)(h:∀tk,Q (.bool b) { s with toks:=tk }):wpAny ↑8 A (call (.builtin "isinstance") [u,c]) Q E s:=by
 cases ty with
 | dq=>cases (show u=TY from rx);exact Um aaq I.mq Uz e (λz=>nomatch z) h
 | bl y=>cases (show u=Vt y from rx);exact Um aar I.mq Uz e (λz=>nomatch z) h
 | int i=>obtain⟨t,q⟩:=(show ∃t,u=WT i t from rx);cases q;exact Um aaF I.mq Uz e (λz=>nomatch z) h
 | str y=>obtain⟨t,q⟩:=(show ∃t,u=XZ y t from rx);cases q;exact Um aaG I.mq Uz e (λz=>nomatch z) h
 | F_ y=>obtain⟨t,q⟩:=(show ∃t,u=ZM y t from rx);cases q;exact Um aae I.mq Uz e (λz=>nomatch z) h
 | @lst a xs ea =>
  cases (show u=SN a from rx);obtain⟨_,_,n,_,h1⟩:=(show bf X.prog X.w H s.heap a (.lst xs) from I.br a _ ea)
  exact Um W3 I.mq ⟨_,h1,rfl⟩ e (λz=>nomatch z) h
 | @jx a ob xs ea =>
  cases (show u=SN a from rx);obtain⟨_,_,_,n,_,h1⟩:=(show bf X.prog X.w H s.heap a (.jx ob (.lst xs)) from I.br a _ ea)
  exact Um W3 I.mq ⟨_,h1,rfl⟩ e (λz=>nomatch z) h
 | @tup a xs ea =>
  cases (show u=SN a from rx);obtain⟨_,_,_,p⟩:=(show bf X.prog X.w H s.heap a (.tup xs) from I.br a _ ea)
  obtain⟨o,h1,h2,_⟩:=p;exact Um aaf I.mq ⟨o,h1,h2⟩ e (λz=>nomatch z) h
 | @dK a Oa ea =>
  cases (show u=SN a from rx);obtain⟨_,_,vs,_,p⟩:=(show bf X.prog X.w H s.heap a (.dK Oa) from I.br a _ ea)
  obtain⟨o,es,ep,h1,h2,_⟩:=p;exact Um W4 I.mq ⟨o,h1,h2.1⟩ e (λz=>nomatch z) h
 | @dT a Oa ea =>
  cases (show u=SN a from rx);obtain⟨_,_,xs,_,o,es,ep,h1,h2,_⟩:=(show bf X.prog X.w H s.heap a (.dT Oa) from I.br a _ ea)
  exact Um W4 I.mq ⟨o,h1,h2.1⟩ e (λz=>nomatch z) h
 | @ins a C dx fs ea cl ha hn J1 hm =>
  cases (show u=SN a from rx);obtain⟨mA,O,_⟩:=l_ I.br ea;obtain⟨od,J,_⟩:=O.look;exact Um (aaH (cl.get _) cl.hd ha hn J1 hm) I.mq J e (λz=>nomatch z) h
end
structure bU (k:Nat) (A:Around):Prop where
 hd:A.handled=none
 dp:A.depth+3*k+5<recursionLimit
 un:A.units+16*k+200<cLine
theorem bU.mono{j:Nat}(r:bU k A)(h:j<=k):bU j A:=⟨r.hd,by have:=r.dp;lia,by have:=r.un;lia⟩
theorem bU.deeper{k:Nat}{A:Around}(r:bU (k+1) A)(env:Env):bU k (A.deeper env) :=
 ⟨r.hd,by have:=r.dp;show A.depth+1+3*k+5<_;lia,by have:=r.un;show A.units+3+16*k+200<_;lia⟩
def xn:(A.under (.builtin "type.__call__" ⟨.ref C::us,kw⟩)).depth=A.depth+1:=by
 first|rfl|simp[aas,Code.weight,Code.isCreation,Code.isGuard,Code.isCaller,Code.frames,aat,guardIds]
def xi:(A.under (.builtin "type.__call__" ⟨.ref C::us,kw⟩)).units=A.units+1:=by
 first|rfl|simp[aas,Code.cUnits,Code.frames,aat]
theorem bU.make(r:bU (k+1) A)(C:Addr)(us:List Value)(kw:List (Str×Value)):bU k (A.under (.builtin "type.__call__" ⟨.ref C::us,kw⟩)) :=
 ⟨r.hd,by have:=r.dp;rw[xn];lia,by have:=r.un;rw[xi];lia⟩
theorem bU.depth{k:Nat}{A:Around}(r:bU k A):A.depth<recursionLimit:=by have:=r.dp;lia
theorem bU.units{k:Nat}{A:Around}(r:bU k A):A.units+64<cLine:=by have:=r.un;lia
theorem bU.JP(r:bU k A):A.units<cLine:=by have:=r.un;lia
def Bv:TA:=λ_ H Q=>Q [] H
def oY(ta:TE)(tr:TA):TA:=fun σ H Q=>ta σ H λx H1=>tr σ H1 λxs H2=>Q (x::xs) H2
section
variable{t:TA}{pos:Pos}
def i5:PA X [] Bv:=λ_ _ _ _ H Q I h=>Calls.spliced_nil ⟨[],H,I,.nil,h⟩
def cL(ha:PE X e te)(hr:PA X es t)(hs:autoParam ↑0 aR._auto_1):PA X (e::es) (oY te t):=by
 intro pos N9 s σ H Q I h;rw[hs];show wpAny _ _ (spliced ((false,eval e X.env)::backTo pos (starEach es X.env))) _ _ s;refine Calls.spliced_cons (ck (ha N9 s σ H _ I h) λu s1 ⟨x,H1,I1,r1,q1⟩=>?_);exact ck (hr pos N9 s1 σ H1 _ I1 q1) λus s2 ⟨xs,H2,I2,r2,q2⟩=>⟨x::xs,H2,I2,.cons r1 r2,q2⟩
def MZ(t:TA):TE:=fun σ H Q=>t σ H λxs H1=>xs.length<=sizeLine/\∀p,H1 p=none->Q (.ref p) (upd H1 p (.tup xs))
def Mq(t:TA):TE:=fun σ H Q=>t σ H λxs H1=>xs.length<=sizeLine/\∀p,H1 p=none->Q (.ref p) (upd H1 p (.lst xs))
def C2{x1}(h:PA X es t):PE X (.Tuple es x1 pos) (MZ t):=by
 intro N9 s σ H Q I hq;refine wpAny_Tuple_spliced (ck (h pos N9 s σ H _ I hq) λus s1 ⟨xs,H1,I1,r,z,q⟩=>⟨by rwa[<- r.length],?_⟩);have hf:H1 s1.heap.objs.size=none:=I1.br.fresh (SE _);refine⟨.ref s1.heap.objs.size,upd H1 s1.heap.objs.size (.tup xs),I1.laid (t':=s1.toks) (λb u e=>Sw _ e) (SE _) ?_,rfl,q _ hf⟩;exact⟨z,us,r,⟨_,SH _ rfl,rfl,_,rfl⟩⟩
def Cz(h:PA X es t):PE X (.List es pos) (Mq t):=by
 intro N9 s σ H Q I hq;refine wpAny_List_spliced (ck (h pos N9 s σ H _ I hq) λus s1 ⟨xs,H1,I1,r,z,q⟩=>⟨by rwa[<- r.length],?_⟩);have hf:H1 s1.heap.objs.size=none:=I1.br.fresh (SE _);refine⟨.ref s1.heap.objs.size,upd H1 s1.heap.objs.size (.lst xs),I1.laid (t':=s1.toks) (λb u e=>Sw _ e) (SE _) ?_,rfl,q _ hf⟩;exact⟨z,us,0,r,SH _ rfl⟩
end
abbrev Sp:=List V->Hp->VK->XK->Prop
abbrev JY:=List Env->Hp->Shared->XK->Value->Shared->Prop
structure wj (P:Program) (w:World) (K:SD) (mg:Str->Option Value) (base:Heap) (A:Around) (outer:List Env) (s:Shared) (H:Hp):Prop where
 frames:A.frames=some outer
 mod:Mod K mg base
 bs:∀b o,base.get? b=some o->s.heap.get? b=some o/\H b=none
 Gz:base.objs.size<=s.heap.objs.size
 nM:s.heap.FunFrames base outer
 IA:∀b∈vY outer,H b=none
 br:kI P w H s.heap
 bare:AllBare s.gens
def CE(outer:List Env)(P:Program)(w:World)(H:Hp)(s:Shared)(Q:VK)(u:Value)(s':Shared):Prop :=
 ∃v H',s'.os=s.os/\AllBare s'.gens/\Un (vY outer) [] H H' s.heap s'.heap/\kI P w H' s'.heap/\RelV v u/\Q v H'
def CR(CX:JY)(outer:List Env)(P:Program)(w:World)(H:Hp)(s:Shared)(Q:VK)(E:XK)(r:Result)(s':Shared):Prop :=
 match r with
 | .ok (.ret u)=>CE outer P w H s Q u s'
 | .ok _=>False
 |.error e=>CX outer H s E e s'
structure aT (P:Program) (w:World) (K:SD) (mg:Str->Option Value) (base:Heap) (CX:JY) (k:Nat) (f:Addr) (fd:FuncData) (ps:List Str) (sp:Sp):Prop where
 len:∀vs H Q E,sp vs H Q E->vs.length=ps.length
 run:∀(A:Around)(outer:List Env)(s:Shared)(H:Hp)(args:Args)(us:List Value)(vs:List V)(Q:VK)(E:XK),bU k A->wj P w K mg base A outer s H->BindsTo s fd args (ps.zip us)->Vals vs us->sp vs H Q E ->
  codeAny (model P w) A (.call (.ref f) args) (CR CX outer P w H s Q E) s
variable{outer:List Env}{base:Heap}{mg:Str->Option Value}
def wj.make{K:SD}(e:wj P w K mg base A outer s H)(C:Addr)(us:List Value)(kw:List (Str×Value)):wj P w K mg base (A.under (.builtin "type.__call__" ⟨.ref C::us,kw⟩)) outer s H:=⟨by first|exact e.frames|(simpa [aas,Code.envs,aat,pushEnvs] using e.frames),e.mod,e.bs,e.Gz,e.nM,e.IA,e.br,e.bare⟩
section
variable{s':Shared}
def Inv.mZ(I:Inv X N9 σ H s):wj X.prog X.w X.K X.mg X.base X.A X.stack s H :=
 ⟨I.ok.frames,I.ok.mod,I.bs,Ug I.ok.Gz I.sz,I.stack,I.tJ,I.br,I.bare⟩
def Inv.after{Q:VK}(I:Inv X N9 σ H s)(h:CE X.stack X.prog X.w H s Q u s'):EP X N9 σ Q u s':=by
 obtain⟨v,H',os,bare,un,br,r,q⟩:=h;obtain⟨hh,g,d,t,os'⟩:=s';obtain rfl:os'=s.os:=os;exact⟨v,H',I.call (h':=hh) (g':=g) (d':=d) (t':=t) (ch:=[]) un br bare (λb z=>absurd z ↑13),r,q⟩
end
def Binds(K:SD)(fd:FuncData)(ps:List Str)(ds:List Value):Prop :=
 ∀(s:Shared)(us:List Value),K.In s.heap->(us++ds).length=ps.length->BindsTo s fd ⟨us,[]⟩ (ps.zip (us++ds))
variable{ps:List Str}{fd:FuncData}
def Binds.all{K:SD}(h:∀us:List Value,us.length=ps.length->bindArgs fd ⟨us,[]⟩=pure (ps.zip us)):Binds K fd ps []:=λs us _ hl=>by
 rw[UC] at hl ⊢;exact .of_eq (h us hl)
variable{sp:Sp}{CX:JY}
section
variable{f:Addr}{OX:List V}{ds:List Value}{E:XK}{pos apos:Pos}{o:Expr}{t:TA}
structure Mk (K:SD) (C f:Addr):Prop where
 makes:aaY K C=true
 init:T_ K (.ref C) "__init__"=some (some (.ref f))
 fn:YS K (.ref f)=true
 kp:Vn K (.ref C)=true
end
def PK(X:Cx)(Sl:List Keyword)(t:TA):Prop :=
 ∀(pos:Pos)(N9:List (Addr×Obj))(s:Shared)(σ:St)(H:Hp)(Q:List V->Hp->Prop),Inv X N9 σ H s->t σ H Q->wpAny ↑8 X.A (evalAll ((backToKw pos (keywordEach Sl X.env)).map (·.2))) (AP X N9 σ Q) X.xe s
section
variable{f:Addr}{ks:List Str}{E:XK}{pos apos kpos:Pos}{o:Expr}{Sl:List Keyword}{t tk:TA}{nm:Option Str}
def IY:PK X [] Bv:=λ_ _ _ _ H Q I h=>wpAny_evalAll_nil ⟨[],H,I,.nil,h⟩
def FL(ha:PE X e te)(hr:PK X Sl t):PK X (⟨nm,e,kpos⟩::Sl) (oY te t):=by
 intro pos N9 s σ H Q I h;show wpAny _ _ (evalAll ((do let v <- eval e X.env;standAt pos;pure v)::(backToKw pos (keywordEach Sl X.env)).map (·.2))) _ _ s;refine wpAny_evalAll_cons (Rz (ck (ha N9 s σ H _ I h) λu s1 ⟨x,H1,I1,r1,q1⟩=>Rz (Yw (SA ?_))));exact ck (hr pos N9 s1 σ H1 _ I1 q1) λus s2 ⟨xs,H2,I2,r2,q2⟩=>⟨x::xs,H2,I2,.cons r1 r2,q2⟩
variable{g:List Value->List Value->List Value}{gV:List V->List V->List V}
end
structure dM (N P:List Str) (sc:Scope):Prop where
 kind:sc.kind=.function
 co:sc.isCoroutine=false
 gen:sc.isGenerator=false
 nd:N.Nodup
 pre:N.take P.length=P
 par:∀x∈P,sc.names.lookup x=some .local\/sc.names.lookup x=some .cell
 Ip:∀y∈sc.names,y.2≠.free
theorem rS{kindOf:Str->Option NameKind}{x:Str}:∀{binds:List (Str×Value)}{m:Str->Option Value},(∀v,(x,v) ∉ binds)->bindL kindOf binds m x=m x
 | [],_,_=>rfl
 | (n,v)::r,m,h=>by
  unfold bindL;rw[rS λw hw=>h w (SO _ hw)]
  split
  .have:x≠n:=by rintro rfl;exact h v SS
   simp[this]
  .rfl
theorem r9{kindOf:Str->Option NameKind}{x:Str}:∀{binds:List (Str×Value)}{m:Str->Option Value},(∀v,(x,v) ∉ binds)->bindC kindOf binds m x=m x
 | [],_,_=>rfl
 | (n,v)::r,m,h=>by
  unfold bindC;rw[r9 λw hw=>h w (SO _ hw)]
  split
  .rfl
  .have:x≠n:=by rintro rfl;exact h v SS
   simp[this]
theorem rQ{kindOf:Str->Option NameKind}{x:Str}{v:Value}:∀{P:List Str}{vs:List Value}{i:Nat}{m:Str->Option Value},P.Nodup->P[i]?=some x->vs[i]?=some v->kindOf x=some .local ->bindL kindOf (P.zip vs) m x=some v
 | [],_,_,_,_,h,_,_=>by simp at h
 | _::_,[],_,_,_,_,h,_=>by simp at h
 | p::P,w::vs,0,m,nd,h1,h2,hk=>by
  simp at h1 h2;subst h1;subst h2;show bindL kindOf ((p,w)::P.zip vs) m p=_;unfold bindL;rw[rS λv hv=>(Vv.mp nd).1 (UD hv).1,if_pos hk];simp
 | p::P,w::vs,i+1,m,nd,h1,h2,hk=>by
  show bindL kindOf ((p,w)::P.zip vs) m x=_;unfold bindL;exact rQ (i:=i) (Vv.mp nd).2 (by simpa using h1) (by simpa using h2) hk
theorem rH{kindOf:Str->Option NameKind}{x:Str}{v:Value}:∀{P:List Str}{vs:List Value}{i:Nat}{m:Str->Option Value},P.Nodup->P[i]?=some x->vs[i]?=some v->kindOf x≠some .local ->bindC kindOf (P.zip vs) m x=some v
 | [],_,_,_,_,h,_,_=>by simp at h
 | _::_,[],_,_,_,_,h,_=>by simp at h
 | p::P,w::vs,0,m,nd,h1,h2,hk=>by
  simp at h1 h2;subst h1;subst h2;show bindC kindOf ((p,w)::P.zip vs) m p=_;unfold bindC;rw[r9 λv hv=>(Vv.mp nd).1 (UD hv).1,if_neg hk];simp
 | p::P,w::vs,i+1,m,nd,h1,h2,hk=>by
  show bindC kindOf ((p,w)::P.zip vs) m x=_;unfold bindC;exact rH (i:=i) (Vv.mp nd).2 (by simpa using h1) (by simpa using h2) hk
def start(N:List Str)(vs:List V):St:=vs.map some++Sx (N.length-vs.length) none
def lJ(CX:JY)(P:Program)(w:World)(K:SD)(mg:Str->Option Value)(base:Heap)(N:List Str)(qual:Str)(scope:Scope)(f:Addr)(cd:Value)(A:Around)(outer:List Env)(s:Shared)(H:Hp)(E:XK):Cx where
 prog:=P
 w:=w
 K:=K
 mg:=mg
 base:=base
 A:=A.deeper (envOfC qual scope s.heap.objs.size f cd)
 N:=N
 s₀:=s
 H₀:=H
 env:=envOfC qual scope s.heap.objs.size f cd
 outer:=outer
 stack:=envOfC qual scope s.heap.objs.size f cd::outer
 ex:=[]
 calm:=true
 fn:=λ_=>true
 pn:=[]
 xe:=λe s'=>wpAny (model P w) (A.deeper (envOfC qual scope s.heap.objs.size f cd)) (leaving (envOfC qual scope s.heap.objs.size f cd) e) (λ_ Ss=>CX outer H s E e Ss) (λe' Ss=>CX outer H s E e' Ss) s'
def u6{sc:Scope}(h:sc.names.lookup x=some .cell):∃c,(cellsFrom n sc.names []).lookup x=some c:=by
 have q:=YU sc.names n [] (.inl h);exact V2.mp q
variable{scope:Scope}
theorem zi{K:SD}{qual:Str}{f:Addr}{cd:Value}{s1:Shared}{E:XK}{vs:List V}(S:dM N ps scope)(hd:A.handled=none)(e0:wj P w K mg base A outer s H)(hl:vs.length=ps.length)(r:Vals vs us)(x:InCallC s s.heap.objs.size (bindL (envOfC qual scope s.heap.objs.size f cd).kindOf (ps.zip us) λ_=>none) (cellsFrom (s.heap.objs.size+1) scope.names []) (bindC (envOfC qual scope s.heap.objs.size f cd).kindOf (ps.zip us) λ_=>none) s1):Inv (lJ CX P w K mg base N qual scope f cd A outer s H E) [] (start N vs) H s1:=by
 have OM:ps.length<=N.length:=by have:=congrArg Xx S.pre;rw[Xl] at this;lia
 obtain⟨h1,tk,rfl,hk⟩:=x.done;have lR:∀b:Addr,b ∉ (lJ CX P w K mg base N qual scope f cd A outer s H E).ex:=λb z=>absurd (show b∈([]:List Addr) from z) ↑13;refine⟨⟨e0.mod,S.kind,rfl,rfl,SE _,λy z c h1 h2=>?_,λy hy=>?_,λy c _ h=>?_,λ_=>hd,Around.frames_deeper e0.frames,.inr ⟨rfl,rfl⟩,λb z=>absurd z (lR b),e0.bs,e0.Gz,λb _ _=>lR b,λb z=>absurd z (lR b),e0.nM,e0.IA⟩,
  rfl,e0.bare,Un.kept hk,⟨_,x.toInCall.ns,λi y v h1 h2 h3=>?_⟩,λy c h=>⟨_,x.cell y c h⟩,e0.br.fresh (SE _),λy c h=>?_,λp hp=>absurd (show p∈([]:List (Addr×Obj)) from hp) ↑13,e0.br.kept hk,?_⟩
 .exact name_of_addr x.apart (V7 h1) (V7 h2)
 .have hy:scope.names.lookup y=some .cell\/scope.names.lookup y=some .free:=hy;rcases hy with hy|hy
  .exact u6 hy
  .exact absurd rfl (S.Ip _ (V7 hy))
 .exact Vz (x.above y c (V7 h))
 .have hi:i<vs.length:=by
   unfold start at h2
   by_cases hi:i<vs.length
   .exact hi
   .rw[To (by simpa using hi)] at h2;rw[WU] at h2
    split at h2<;>cases h2
  have ha:vs[i]?=some v:=by
   unfold start at h2;rw[TX (by simpa using hi),Te] at h2;cases e:vs[i]? with
   | none=>rw[e] at h2;cases h2
   | some a=>rw[e] at h2;cases h2;rfl
  obtain⟨u,hu,rv⟩:=r.get ha;have hp:ps[i]?=some y:=by
   rwa[<- S.pre,List.getElem?_take_of_lt ⋯]
  have ndP:ps.Nodup:=by rw[<- S.pre];exact S.nd.sublist (List.take_sublist _ _)
  refine⟨u,rv,?_⟩;rcases S.par y (ZP hp) with k|k
  .exact .inl ⟨k,rQ ndP hp hu k⟩
  .obtain⟨c,e⟩:=u6 (n:=s.heap.objs.size+1) k;refine .inr ⟨.inl k,c,e,?_⟩;have q:=x.cell y c e;rwa[rH ndP hp hu (by show scope.names.lookup y≠_;rw[k];decide)] at q
 .exact e0.br.fresh (Vz (x.above y c (V7 h)))
 .unfold start;show _=N.length;rw[S6,SG,Zz];lia
def Lx{K:SD}{f:Addr}{name qual:Str}{params:Arguments}{dV kV doc pm Ov ct oc:Value}{an od:Option Addr}{Q4:Array (Option Value)}(lk:K.lookup f=some ⟨oc,od,.func (UR name qual params body scope dV kV doc pm an Ov ct),Q4⟩)(O7:VG K Ov qual=true)(S:dM N ps scope)(len:∀vs H Q E,sp vs H Q E->vs.length=ps.length)(QJ:∀(A:Around)(outer:List Env)(s:Shared)(H:Hp)(vs:List V)(Q:VK)(E:XK),bU k (A.deeper (envOfC qual scope s.heap.objs.size f Ov))->sp vs H Q E ->∃t,mW (lJ CX P w K mg base N qual scope f Ov A outer s H E) body t/\t { nx:=λ_ H'=>Q .dq H',rt:=Q } (start N vs) H):aT P w K mg base CX (k+1) f (UR name qual params body scope dV kV doc pm an Ov ct) ps sp:=by
 refine⟨len,λA outer s H args us vs Q E hr e0 hb r hsp=>?_⟩;have hl:=len _ _ _ _ hsp;have KX:K.In s.heap:=e0.mod.J2.keeps λb o e=>(e0.bs b o e).1;have lim:s.heap.NoLimit:=e0.mod.nolimit.keeps λb o e=>(e0.bs b o e).1;have R5:∀y∈ps.zip us,scope.names.lookup y.1=some .local\/(scope.names.lookup y.1=some .cell/\((cellsFrom (s.heap.objs.size+1) scope.names []).lookup y.1).isSome=true):=λ⟨n,v⟩ hy=>by
  rcases S.par n (UD hy).1 with q|q
  .exact .inl q
  .exact .inr ⟨q,YU _ _ _ (.inl q)⟩
 refine codeAny_call_function hr.depth (KX _ _ lk) rfl S.co S.gen rfl (PySem.W.codeRec_of KX O7) (hb _ _ _ _ ?_);refine wpAny_newFunctionEnv_cells S.kind R5 λenv he s1 x=>?_;subst he;refine⟨lim.keeps x.toInCall.keep,codeAny_func ?_⟩;obtain⟨t,ht,hq⟩:=QJ A outer s H vs Q E (hr.deeper _) hsp;have I:Inv (lJ CX P w K mg base N qual scope f Ov A outer s H E) [] (start N vs) H s1:=zi S hr.hd e0 hl r x;refine Vc (ht [] s1 (start N vs) H _ I hq) (λfl s' hs=>?_) λe s' hs=>hs;have fin:∀{σ':St}{H':Hp}{v:V}{u:Value},Inv (lJ CX P w K mg base N qual scope f Ov A outer s H E) [] σ' H' s'->RelV v u->Q v H'->CE outer P w H s Q u s' :=
  λ{σ' H' v u} J rv q=>⟨v,H',J.os,J.bare,J.base,J.br,rv,q⟩
 cases fl with
 | ret u =>
  obtain⟨v,σ',H',J,rv,q⟩:=hs;exact fin J rv q
 | next =>
  obtain⟨σ',H',J,q⟩:=hs;exact fin (v:=V.dq) (u:=TY) J rfl q
 | brk =>
  obtain⟨_,_,_,q⟩:=hs;exact VH q
 | cont =>
  obtain⟨_,_,_,q⟩:=hs;exact VH q
section
variable{pos:Pos}{t:TA}{id T:String}{r:List V->Hp->VK->Prop}
def M4(r:List V->Hp->VK->Prop)(t:TA):TE:=fun σ H Q=>t σ H λvs H1=>r vs H1 Q
def qe(hc:cv X (.builtin id) r)(hg:Gl X x)(hm:X.mg x=none)(hv:bootBuiltins x=some (.builtin id))(ha:PA X (e::es) t)(hn:autoParam (x ≠ "__name__") aD._auto_1)(PL:autoParam ↑7 aD._auto_1)(he:autoParam ↑0 aR._auto_1)(OM:autoParam ↑2 aR._auto_1):PE X (.Call (.Name x p) (e::es) [] pos) (M4 r t):=by
 intro N9 s σ H Q I h;refine Wi (iy I hg hm hv ?_ hn PL);exact PyProof.Rows.callWith_builtin1 (ck (ha pos N9 s σ H _ I h) λus s1 ⟨vs,H1,I1,r1,q1⟩=>hc N9 s1 σ H1 vs us Q I1 r1 q1) he OM
def nr(hc:cv X (.type T) r)(hg:Gl X x)(hm:X.mg x=none)(hv:bootBuiltins x=some (.type T))(ha:PA X (e::es) t)(hn:autoParam (x ≠ "__name__") aD._auto_1)(PL:autoParam ↑7 aD._auto_1)(he:autoParam ↑0 aR._auto_1)(OM:autoParam ↑2 aR._auto_1):PE X (.Call (.Name x p) (e::es) [] pos) (M4 r t):=by
 intro N9 s σ H Q I h;refine Wi (iy I hg hm hv ?_ hn PL);exact Uk (ck (ha pos N9 s σ H _ I h) λus s1 ⟨vs,H1,I1,r1,q1⟩=>hc N9 s1 σ H1 vs us Q I1 r1 q1) he OM
end
end L2
namespace HT
open PySem PyProof.Rows
def lexLt:List Int->List Int->Bool
 | [],[]=>false
 | [],_::_=>true
 | _::_,[]=>false
 |x::xs,y::ys=>if x=y then lexLt xs ys else decide (x<y)
def bJ(x y:Int)(xs ys:List Int):lexLt (x::xs) (y::ys)=if x=y then lexLt xs ys else decide (x<y):=rfl
def qz:lexLt [] []=false:=rfl
def pL(y:Int)(ys:List Int):lexLt [] (y::ys)=true:=rfl
def pN(x:Int)(xs:List Int):lexLt (x::xs) []=false:=rfl
def u5(A:Around)(s:Shared)(a:Int)(t:Tok)(c:Int)(u:Tok):∃e,SeqAt.EqAt A s (.int a t) (.int c u) e/\(e=true ↔ a=c) :=
 ⟨(a==c),SeqAt.EqAt.int_int a t c u,by simp⟩
def uU(A:Around)(s:Shared)(a:Int)(t:Tok)(c:Int)(u:Tok)(prog:Program)(w:World)(E:Value->Shared->Prop)(Q:Value->Shared->Prop)(h:Q (.bool (decide (a<c))) s):wpAny ↑11 A (richCompare .Lt (.int a t) (.int c u)) Q E s :=
 (PyProof.Rows.lt_int h:wpAny ↑11 A (compareOp .Lt (.int a t) (.int c u)) Q E s)
section
open PySem.SeqAt
open PySem.AutoSeq1 (wpAny_loadPart')
open PySem.MeetsSeq PySem.MeetsSeq2 PySem.MeetsSeq3
def qI(l b:Addr)(items OI:Array Value)(n n2:Nat)(dd Q5:Option Addr)(sl Rp:Array (Option Value))(ns ms:List Int)(hi:IntsAre items.toList ns)(hj:IntsAre OI.toList ms):Meets (Builtin.«tuple.__lt__» ⟨[.ref l,.ref b],[]⟩) (λ_ R s=>s.heap.get? l=some { cls:=.type "tuple",dict:=dd,data:=.seq items n,slots:=sl }/\s.heap.get? b=some { cls:=.type "tuple",dict:=Q5,data:=.seq OI n2,slots:=Rp } ∧R (.ok (.ret (.bool (lexLt ns ms)))) s) :=
 .of_wp λprog w A R s h=>by
  obtain⟨hp,g,d,tk,os⟩:=s;obtain⟨hl,hb,h⟩:=h;have f2:=V3;have z1:items.size=ns.length:=by rw[<- hi.length];simp
  have z2:OI.size=ms.length:=by rw[<- hj.length];simp
  wp_walk using Wn hl,Wn hb,wpAny_forIn_list _ (λrest b s'=>b.1=none/\s'=⟨hp,g,d,tk,os⟩/\∃(vs ws:List Value)(QF QE:List Int),rest=vs.zip ws ∧
   IntsAre vs QF/\IntsAre ws QE/\QF.length+OI.size=QE.length+items.size/\R (.ok (.ret (.bool (lexLt QF QE)))) ⟨hp,g,d,tk,os⟩) _
  case turn =>
   rintro⟨y,x⟩ rest b s' ⟨hb',rfl,vs,ws,QF,QE,hz,hvi,hwi,hlen,hR⟩;cases hvi with
   | nil=>rw[Yp] at hz;cases hz
   | cons a t hvi' =>
    cases hwi with
    | nil=>rw[aag] at hz;cases hz
    | cons c u hwi' =>
     rw[UX] at hz;injection hz with hyx CF
     injection hyx with hy hx
     subst hy hx;rw[bJ] at hR;simp only[Tj] at hlen;obtain⟨e,he,QL⟩:=u5 A.in1 ⟨hp,g,d,tk,os⟩ a t c u;refine Rz (he prog w _ _ ?_);cases e with
     | true =>
      rw[if_pos (QL.mp rfl)] at hR
      wp_walk
      exact⟨rfl,rfl,_,_,_,_,CF,hvi',hwi',by lia,hR⟩
     | false =>
      rw[if_neg (λq=>absurd (QL.mpr q) Tq)] at hR;have hri:=uU A.in1 ⟨hp,g,d,tk,os⟩ a t c u prog w
      wp_walk using hri
      exact⟨_,rfl,by simpa using hR⟩
  case fin =>
   rintro⟨b1,b2⟩ s' ⟨hb',rfl,vs,ws,QF,QE,hz,hvi,hwi,hlen,hR⟩;simp only at hb';subst hb';have hv:lexLt QF QE=decide (items.size<OI.size):=by
    cases hvi with
    | nil =>
     cases hwi with
     | nil =>
      simp only[VS] at hlen;rw[qz];exact(decide_eq_false ⋯).symm
     | cons c u hw =>
      simp only[VS,Tj] at hlen;rw[pL];exact(decide_eq_true ⋯).symm
    | cons a t hv =>
     cases hwi with
     | nil =>
      simp only[VS,Tj] at hlen;rw[pN];exact(decide_eq_false ⋯).symm
     | cons c u hw =>
      rw[UX] at hz;cases hz
   rw[hv] at hR
   wp_walk
   exact⟨_,rfl,by simpa [Builtin.Tuple.tupleCompareSizes] using hR⟩
  case h =>
   exact⟨rfl,rfl,items.toList,OI.toList,ns,ms,rfl,hi,hj,by lia,h⟩
end
variable{Q:Value->Shared->Prop}{items:Array Value}
section
variable{prog:Program}{w:World}{A:Around}{E:Value->Shared->Prop}{s:Shared}
def wb{l b:Addr}{OI:Array Value}{ns ms:List Int}(hl:IsTup s.heap l items)(hb:IsTup s.heap b OI)(hi:IntsAre items.toList ns)(hj:IntsAre OI.toList ms)(hu:A.units<cLine)(h:Q (.bool (lexLt ns ms)) s):wpAny ↑11 A (compareOp .Lt (.ref l) (.ref b)) Q E s:=by
 obtain⟨⟨cls,dd,data,sl⟩,ho,hc,n,hd⟩:=id hl;obtain⟨⟨RQ,Q5,data2,Rp⟩,Qe,QC,n2,hd2⟩:=id hb;simp only at hc hd QC hd2;subst hc hd QC hd2;exact richCompare_meets_room (op:=.Lt) ⟨_,ho,rfl⟩ ⟨_,Qe,rfl⟩ PySem.F.slot_tuple_lt PySem.F.entry_tuple_lt (PySem.F.args_tuple_lt_2 _ _) (qI l b items OI n n2 dd Q5 sl Rp ns ms hi hj)
  ⟨ho,Qe,show Vt (lexLt ns ms)≠ZQ/\Q (.bool (lexLt ns ms)) s from ⟨(λx=>nomatch x),h⟩⟩ hu
def E5{t b:Addr}{vs ws:List Value}(ht:IsTup s.heap t vs.toArray)(hb:IsTup s.heap b ws.toArray)(hv:vs≠[])(h1:ws=[]->Q (.ref t) s)(h2:ws≠[]->Q (.ref s.heap.objs.size) { s with heap:=s.heap.push { cls:=.type "tuple",data:=.seq (vs++ws).toArray } })(hsz:vs.length+ws.length<=sizeLine):wpAny ↑11 A (binaryOp .Add (.ref t) (.ref b)) Q E s:=by
 obtain⟨⟨cls,dd,data,sl⟩,ho,hc,n,hd⟩:=id ht;obtain⟨⟨RQ,Q5,data2,Rp⟩,Qe,QC,n2,hd2⟩:=id hb;simp only at hc hd QC hd2;subst hc hd QC hd2;have e:vs.toArray++ws.toArray=(vs++ws).toArray:=by simp
 by_cases hw:ws=[]
 .exact aau ⟨_,ho,rfl⟩ ⟨_,Qe,rfl⟩ YB Z7 W5 WV (WM _ _)
   (tuple_addW1 t b vs.toArray ws.toArray n n2 dd Q5 sl Rp (by simpa using hv) (by simp[hw])) ⟨ho,Qe,h1 hw⟩
 .refine aau ⟨_,ho,rfl⟩ ⟨_,Qe,rfl⟩ YB Z7 W5 WV (WM _ _)
   (tuple_addW2 t b vs.toArray ws.toArray n n2 dd Q5 sl Rp (by simpa using hv) (by simpa using hw) (by rwa[S2,S2])) ⟨ho,Qe,?_⟩
  rw[e];exact h2 hw
def cW(n d:Nat):Option Int->Nat
 | none=>d
 |some v=>if v<0 then (v+(n:Int)).toNat else min v.toNat n
def BQ(n d:Nat):cW n d none=d:=rfl
theorem sU(n d k:Nat):cW n d (some (k:Int))=min k n:=by
 show (if (k:Int)<0 then ((k:Int)+(n:Int)).toNat else min (k:Int).toNat n)=min k n;rw[if_neg ⋯,Ud]
theorem Je(n d:Nat)(hd:d<=n)(o:Option Int):cW n d o<=n:=by
 cases o with
 | none=>exact hd
 | some v =>
  show (if v<0 then (v+(n:Int)).toNat else min v.toNat n)<=n
  by_cases hv:v<0
  .rw[if_pos hv];lia
  .rw[if_neg hv];exact Nat.min_le_right _ _
theorem xM(v:Int)(n d:Nat):(if v<0 then max (v+(n:Int)) 0 else min v (n:Int))=((cW n d (some v):Nat):Int):=by
 show (if v<0 then max (v+(n:Int)) 0 else min v (n:Int))=(((if v<0 then (v+(n:Int)).toNat else min v.toNat n):Nat):Int)
 by_cases hv:v<0
 .simp only[if_pos hv];lia
 .simp only[if_neg hv];lia
theorem wz(lo hi:Option Int)(n:Nat):WI lo hi 1 (n:Int)=(((cW n 0 lo:Nat):Int),((cW n n hi:Nat):Int)):=by
 have h1:¬ ((1:Int)<0):=by lia
 unfold WI;simp only[h1,if_false];refine Prod.ext ?_ ?_
 .cases lo with
  | none=>rfl
  | some v=>exact xM v n 0
 .cases hi with
  | none=>rfl
  |some v=>exact xM v n n
theorem v_(i j:Nat):VQ (i:Int) (j:Int) 1=j-i:=by
 unfold VQ;have h1:(1:Int)>0:=by lia
 simp only[h1,if_true,Int.ediv_one]
 split<;>lia
def qk{v:Value}{o:Option Int}{Q:Option Int->Shared->Prop}(p:IsPart v o)(h:Q o s):wpAny ↑11 A (Builtin.Slice.slicePartIndex v) Q E s:=by
 cases p with
 | none=>exact slicePart_none h
 |int i t=>exact slicePart_int h
def iN{sl:Addr}{vl vu:Value}{lo hi:Option Int}{n:Nat}{Q:Int×Int×Nat->Shared->Prop}(hs:s.heap.IsSliceOf sl vl vu .none)(pl:IsPart vl lo)(pu:IsPart vu hi)(h:Q (((cW n 0 lo:Nat):Int),1,cW n n hi-cW n 0 lo) s):wpAny ↑11 A (X6 (.ref sl) (pure (n:Int))) Q E s:=by
 obtain⟨os,RA,hcs,RZ⟩:=id hs;unfold X6 Builtin.Slice.sliceFields;refine Rz (Rz (Tv RA RZ (x:=vl) rfl (Rz (Tv RA RZ (x:=vu) rfl (Rz (Tv RA RZ (x:=.none) rfl (SA ?_)))))));refine Rz (slicePart_none ?_);show wpAny _ _ (if ((1:Int)==0)=true then _ else _) _ _ s;rw[if_neg ↑12];refine Rz (qk pl (Rz (qk pu (Rz (SA ?_)))));show wpAny _ _ (match WI lo hi 1 (n:Int) with|(lo,hi)=>pure (lo,(1:Int),VQ lo hi 1)) _ _ s;rw[wz lo hi n];show wpAny _ _ (pure (((cW n 0 lo:Nat):Int),(1:Int),VQ ((cW n 0 lo:Nat):Int) ((cW n n hi:Nat):Int) 1)) _ _ s;rw[v_];exact SA h
theorem Ac(xs:Array Value)(i k:Nat):((S1 k).filterMap λ(m:Nat)=>xs[((i:Int)+(m:Int)*1).toNat]?).toArray=((xs.toList.drop i).take k).toArray:=by
 have e:(λ(m:Nat)=>xs[((i:Int)+(m:Int)*1).toNat]?)=λm=>xs[i+m]?:=by
  funext m
  have:((i:Int)+(m:Int)*1).toNat=i+m:=by lia
  rw[this]
 rw[e];have:=pick_run xs i k;rw[List.filterMap_map] at this;have e2:((λx=>xs[x]?)∘λx=>i+x)=λm=>xs[i+m]?:=rfl;rw[e2] at this;rw[this]
theorem ma{t sl:Addr}{vl vu:Value}{lo hi:Option Int}(ht:IsTup s.heap t items)(hs:s.heap.IsSliceOf sl vl vu .none)(pl:IsPart vl lo)(pu:IsPart vu hi)(hw:¬ (cW items.size 0 lo=0/\cW items.size items.size hi=items.size))(h:Q (.ref s.heap.objs.size) { s with heap:=s.heap.push { cls:=.type "tuple",data:=.seq ((items.toList.drop (cW items.size 0 lo)).take (cW items.size items.size hi-cW items.size 0 lo)).toArray } })(hsz:items.size<=sizeLine):wpAny ↑11 A (getItem (.ref t) (.ref sl)) Q E s:=by
 have Qx:sizeOk (.seq ((items.toList.drop (cW items.size 0 lo)).take (cW items.size items.size hi-cW items.size 0 lo)).toArray):=by
  show ((items.toList.drop (cW items.size 0 lo)).take (cW items.size items.size hi-cW items.size 0 lo)).toArray.size<=sizeLine;rw[S2,Xl,VE,Tf];lia
 have hj:cW items.size items.size hi<=items.size:=Je _ _ (SE _) hi;obtain⟨os,RA,hcs,RZ⟩:=id hs;have hTs:s.TypeIs (.ref sl) "slice" := ⟨os,RA,hcs⟩
 unfold getItem
 try with_reducible refine UE ?_
 first|refine Rz (SA ?_)|skip
 refine Rz (wpAny_sequenceKey ht.typeIs ↑12 ?_);refine Rz (T4 (name:=Tp "__getitem__") ht.typeIs Ul
  (Uc Ul ht.typeIs Z1 ?_ (args_tuple_getitem _ _)))
 show wpAny _ _ (X7 (.ref t) >>= _) _ _ s;refine Rz (tupleItemsOf_ ht ?_);refine Rz (WD hTs ?_);rw[if_pos ↑12];refine Rz (iN hs pl pu ?_);have hno:¬ ((((cW items.size 0 lo:Nat):Int)==0&&(1:Int)==1&&(cW items.size items.size hi-cW items.size 0 lo)==items.size)=true):=by
  intro q;rw[Ui,Ui] at q;have q1:((cW items.size 0 lo:Nat):Int)=0:=eq_of_beq q.1.1;have q2:cW items.size items.size hi-cW items.size 0 lo=items.size:=eq_of_beq q.2;exact hw ⟨by lia,by lia⟩
 show wpAny _ _ (if (((cW items.size 0 lo:Nat):Int)==0&&(1:Int)==1&&(cW items.size items.size hi-cW items.size 0 lo)==items.size)=true then _ else _) _ _ s;rw[if_neg hno,Ac]
 first
  | exact Rz (m:=V4 _) (Ue (SA ⟨_,rfl,SA h⟩) Qx)
  | exact Rz (m:=V4 _) (Ue (Rz (SA (SA ⟨_,rfl,SA h⟩))) Qx)
  | exact Rz (Rz (m:=V4 _) (Ue (SA (SA ⟨_,rfl,SA h⟩)) Qx))
  |exact Rz (Rz (m:=V4 _) (Ue (SA ⟨_,rfl,SA h⟩) Qx))
end
end HT
namespace L2
open PySem PySem.Spec PyProof.Rows
abbrev TO:=St->Hp->(Option Int->Hp->Prop)->Prop
def PO(X:Cx)(e:Option Expr)(t:TO):Prop :=
 ∀ (N9:List (Addr×Obj)) (s:Shared) (σ:St) (H:Hp) (Q:Option Int->Hp->Prop),Inv X N9 σ H s->t σ H Q ->
  wpAny ↑8 X.A (evalPart e X.env) (λu s'=>∃o H',Inv X N9 σ H' s'/\IsPart u o/\Q o H') X.xe s
def E_:TO:=λ_ H Q=>Q none H
def Lw(t:TE):TO:=fun σ H Q=>t σ H λx H1=>∃i,x=.int i/\Q (some i) H1
def intsAre_of{ns:List Int}:∀{us:List Value},Vals (ns.map V.int) us->IntsAre us ns:=by
 induction ns with
 | nil=>intro us r;rw[VY] at r;cases r;exact .nil
 | cons n ns ih =>
  intro us r;rw[S0] at r;cases r with
  | cons r1 r2 =>
   obtain⟨t,e⟩:=r1;subst e;exact .cons n t (ih r2)
variable{e:Expr}{X:Cx}
variable{r:V->Option Int->Option Int->Hp->VK->Prop}
section
variable{te:TE}{lo hi:Option Expr}{tl th:TO}{pos p2:Pos}
def Fx:PO X none E_:=by
 intro N9 s σ H Q I h;rw[evalPart_none];exact SA ⟨none,H,I,.none,h⟩
def E9(h:PE X e te):PO X (some e) (Lw te):=by
 intro N9 s σ H Q I hw;rw[evalPart_some];refine ck (h N9 s σ H _ I hw) λu s1 ⟨x,H1,I1,r1,q1⟩=>?_;obtain⟨i,rfl,q⟩:=q1;obtain⟨t,rfl⟩:=r1;exact⟨some i,H1,I1,.int i t,q⟩
def DJ(X:Cx)(r:V->Option Int->Option Int->Hp->VK->Prop):Prop :=
 ∀ (N9:List (Addr×Obj)) (s:Shared) (σ:St) (H:Hp) (x:V) (v vl vu:Value) (lo hi:Option Int) (sl:Addr) (Q:VK),Inv X N9 σ H s->RelV x v->s.heap.IsSliceOf sl vl vu .none->IsPart vl lo->IsPart vu hi->r x lo hi H Q ->
  ∃T id,typeLookup (.type T) "__getitem__"=pure (some (.builtin id))/\s.TypeIs v T/\wpAny ↑8 X.A (getItem v (.ref sl)) (EP X N9 σ Q) X.xe s
def DJ.or{r':V->Option Int->Option Int->Hp->VK->Prop}(h:DJ X r)(h':DJ X r'):DJ X (λx lo hi H Q=>r x lo hi H Q\/r' x lo hi H Q):=by
 intro N9 s σ H x v vl vu lo hi sl Q I rx hs pl pu q;rcases q with q|q
 .exact h N9 s σ H x v vl vu lo hi sl Q I rx hs pl pu q
 .exact h' N9 s σ H x v vl vu lo hi sl Q I rx hs pl pu q
def NK(r:V->Option Int->Option Int->Hp->VK->Prop)(te:TE)(tl th:TO):TE:=fun σ H Q=>te σ H λx H1=>tl σ H1 λl H2=>th σ H2 λu H3=>r x l u H3 Q
def CA(hr:DJ X r)(he:PE X e te)(hl:PO X lo tl)(hu:PO X hi th):PE X (.Subscript e (.Slice lo hi none p2) pos) (NK r te tl th):=by
 intro N9 s σ H Q I h;refine Subscript_ (ck (he N9 s σ H _ I h) λv s1 ⟨x,H1,I1,r1,q1⟩=>?_);refine wpAny_Slice (ck (hl N9 s1 σ H1 _ I1 q1) λvl s2 ⟨l,H2,I2,pl,q2⟩=>ck (hu N9 s2 σ H2 _ I2 q2) λvu s3 ⟨u,H3,I3,pu,q3⟩=>?_);rw[evalPart_none];refine SA ?_;have I4:Inv X N9 σ H3 { s3 with heap:=s3.heap.push { cls:=.type "slice",data:=.fields #[vl,vu,.none] } }:=I3.kept (t':=s3.toks) λb ob q=>Sw _ q;obtain⟨T,id,hT,ht,hg⟩:=hr N9 { s3 with heap:=s3.heap.push { cls:=.type "slice",data:=.fields #[vl,vu,.none] } } σ H3 x v vl vu l u s3.heap.objs.size Q I4 r1 (Heap.IsSliceOf.new ..) pl pu q3;show wpAny ↑8 X.A (subscriptTail e (.Slice lo hi none p2) v (.ref s3.heap.objs.size)) (EP X N9 σ Q) X.xe { s3 with heap:=s3.heap.push { cls:=.type "slice",data:=.fields #[vl,vu,.none] } };exact tail_any (ops:=[.ref s3.heap.objs.size,v]) ht hT hg (by with_unfolding_all rfl)
def uO(xs:List V)(lo hi:Option Int):List V:=(xs.drop (HT.cW xs.length 0 lo)).take (HT.cW xs.length xs.length hi-HT.cW xs.length 0 lo)
theorem nK(xs:List V)(lo hi:Option Int):(uO xs lo hi).length<=xs.length:=by
 unfold uO;rw[Xl,VE];lia
def MV(K:SD):V->Option Int->Option Int->Hp->VK->Prop:=λx lo hi H Q=>∃a xs,x=.ref a/\fJ K H a xs ∧
 ¬ (HT.cW xs.length 0 lo=0/\HT.cW xs.length xs.length hi=xs.length)/\∀p,H p=none->Q (.ref p) (upd H p (.tup (uO xs lo hi)))
def Ha:DJ X (MV X.K):=by
 intro N9 s σ H x v vl vu lo hi sl Q I rx hs pl pu h;obtain⟨a,xs,rfl,hx,hw,q⟩:=h;cases rx;obtain⟨Ob,r,ht,hz⟩:=I.tuple hx;have hlen:Ob.toArray.size=xs.length:=by rw[S2];exact r.length.symm
 refine⟨"tuple",_,Ul.lookup,ht.typeIs,?_⟩;refine HT.ma ht hs pl pu (by rwa[hlen]) ?_ (by rwa[hlen]);rw[hlen];refine⟨.ref s.heap.objs.size,_,I.laid (t':=s.toks) (o:=.tup (uO xs lo hi)) (λb ob q=>Sw _ q) (SE _) ?_,rfl,q _ (I.br.fresh (SE _))⟩;exact⟨Ug (nK xs lo hi) hz,_,(r.drop (HT.cW xs.length 0 lo)).take (HT.cW xs.length xs.length hi-HT.cW xs.length 0 lo),aaI _ _⟩
def Ga(K:SD):R2:=λx y H Q=>∃a b xs ys,x=.ref a/\y=.ref b/\fJ K H a xs/\fJ K H b ys/\xs≠[]/\xs.length+ys.length<=sizeLine ∧
 (ys=[]->Q (.ref a) H)/\(ys≠[]->∀p,H p=none->Q (.ref p) (upd H p (.tup (xs++ys))))
def Vals.lZ{xs:List V}{us:List Value}(r:Vals xs us):us=[] ↔ xs=[]:=by
 cases r with
 | nil=>simp
 |cons _ _=>simp
def D8:gf X (binaryOp .Add) (Ga X.K):=by
 intro N9 s σ H x y v u Q I rx ry h;obtain⟨a,b,xs,ys,rfl,rfl,ha,hb,hx,hz,q1,q2⟩:=h;cases rx;cases ry;obtain⟨Ob,r1,p1,_⟩:=I.tuple ha;obtain⟨Pw,r2,p2,_⟩:=I.tuple hb;refine HT.E5 p1 p2 (λz=>hx (r1.lZ.mp z)) (λz=>⟨.ref a,H,I,rfl,q1 (r2.lZ.mp z)⟩) (λz=>?_) (by rwa[<- r1.length,<- r2.length]);refine⟨.ref s.heap.objs.size,_,I.laid (t':=s.toks) (o:=.tup (xs++ys)) (λb ob q=>Sw _ q) (SE _) ?_,rfl,q2 (λw=>z (r2.lZ.mpr w)) _ (I.br.fresh (SE _))⟩;exact⟨by rwa[S6],_,r1.append r2,aaI _ _⟩
end
def Gr(n:Nat)(i:Int):Option Nat:=if 0<=i then (if i<n then some i.toNat else none) else if -(n:Int)<=i then some (i+n).toNat else none
variable{α:Type}
def qr(xs:List α)(i:Int):Option α:=(Gr xs.length i).bind λj=>xs[j]?
variable{j n:Nat}{i:Int}
theorem Fq(h:Gr n i=some j):seqIndex? i n=some j/\j<n/\-(n:Int)<=i/\i<n:=by
 unfold Gr at h
 by_cases h0:0<=i
 .rw[if_pos h0] at h
  by_cases h1:i<n
  .rw[if_pos h1] at h;have e:i.toNat=j:=Th h;exact⟨by rw[seqIndex_of h0 h1,e],by lia,by lia,h1⟩
  .rw[if_neg h1] at h;cases h
 .rw[if_neg h0] at h
  by_cases h1:-(n:Int)<=i
  .rw[if_pos h1] at h;have e:(i+n).toNat=j:=Th h;exact⟨by rw[seqIndex_neg ⋯ h1,e],by lia,h1,by lia⟩
  .rw[if_neg h1] at h;cases h
def tQ{xs:List α}{v:α}(h:qr xs i=some v):∃j,seqIndex? i xs.length=some j/\xs[j]?=some v/\j<xs.length/\-(xs.length:Int)<=i/\i<xs.length:=by
 unfold qr at h;cases e:Gr xs.length i with
 | none=>rw[e] at h;cases h
 | some j =>
  rw[e] at h;obtain⟨h1,h2,h3,h4⟩:=Fq e;exact⟨j,h1,h,h2,h3,h4⟩
theorem tX{xs:List α}{v:α}(h:xs[j]?=some v):qr xs (j:Int)=some v:=by
 have hj:j<xs.length:=(Tw.mp h).1;have e:Gr xs.length (j:Int)=some j:=by
  unfold Gr;rw[if_pos ⋯,if_pos ⋯];simp
 unfold qr;rwa[e]
def oh(b:Expr):Prop:=∀o i,subscripted b false o i=operate [o,i] (getItem o i)
def Es(X:Cx)(r:R2):Prop :=
 ∀ (value slice:Expr) (N9:List (Addr×Obj)) (s:Shared) (σ:St) (H:Hp) (x y:V) (v u:Value) (Q:VK),Inv X N9 σ H s->RelV x v->RelV y u->r x y H Q ->
  subscripted slice false v u=operate [v,u] (getItem v u)->wpAny ↑8 X.A (subscriptTail value slice v u) (EP X N9 σ Q) X.xe s
def Ni(X:Cx)(id:String)(r:V->List V->Hp->VK->Prop):Prop :=
 ∀ (N9:List (Addr×Obj)) (s:Shared) (σ:St) (H:Hp) (x:V) (xs:List V) (v:Value) (us:List Value) (Q:VK),Inv X N9 σ H s->RelV x v->Vals xs us->r x xs H Q ->
  wpAny ↑8 X.A (call (.builtin id) (v::us)) (EP X N9 σ Q) X.xe s
variable{s:Shared}{H:Hp}{σ:St}{N9:List (Addr×Obj)}
section
variable{a b:Expr}{ta tb:TE}{pos:Pos}
def Es.or{r r':R2}(h:Es X r)(h':Es X r'):Es X (λx y H Q=>r x y H Q\/r' x y H Q):=by
 intro value slice N9 s σ H x y v u Q I rx ry q hs;rcases q with q|q
 .exact h value slice N9 s σ H x y v u Q I rx ry q hs
 .exact h' value slice N9 s σ H x y v u Q I rx ry q hs
def GH{r:R2}(hr:Es X r)(ha:PE X a ta)(hb:PE X b tb)(hs:oh b):PE X (.Subscript a b pos) (J3 r ta tb):=by
 intro N9 s σ H Q I h;exact Subscript_ (Ig ha hb I h λv u s2 x y H2 I2 rx ry q=>hr a b N9 s2 σ H2 x y v u Q I2 rx ry q (hs _ _))
def KR(K:SD):R2:=λx y H Q=>∃p xs i v,x=.ref p/\y=.int i/\h9 K H p xs/\qr xs i=some v/\Q v H
def LM(K:SD):R2:=λx y H Q=>∃p xs i v,x=.ref p/\y=.int i/\fJ K H p xs/\qr xs i=some v/\Q v H
def Km:R2:=λx y H Q=>∃z i c,x=.str z/\y=.int i/\z.length<=sizeLine/\qr z.cps.toList i=some c/\Q (.str ⟨#[c]⟩) H
theorem D4:Es X (KR X.K):=by
 intro value slice N9 s σ H x y v u Q I rx ry h hs;obtain⟨p,xs,i,z,rfl,rfl,hq,he,q⟩:=h;cases rx;obtain⟨t,rfl⟩:=ry;obtain⟨Ob,r,pl,hz⟩:=I.list hq;obtain⟨j,h1,h2,h3,h4,h5⟩:=tQ he;obtain⟨w,ew,P1⟩:=r.get h2;have hl:=r.length;have hn:=pO;have fin:EP X N9 σ Q w s:=⟨z,H,I,P1,q⟩
 by_cases h0:0<=i
 .have hj:i.toNat=j:=by
   rw[seqIndex_of h0 h5] at h1;exact Th h1
  exact item_listR pl.isList h0 ⋯ (by rw[hj];simpa using ew) fin hs
 .have hj:(i+(Ob.toArray.size:Int)).toNat=j:=by
   rw[seqIndex_neg ⋯ h4] at h1;rw[S2,<- hl];exact Th h1
  exact YV (x:=w) pl.isList.typeIs slot_list_getitem.lookup
   (wpAny_getItem_list_neg (Q:=λr s'=>r=w/\EP X N9 σ Q r s') pl.isList ⋯ (by rw[S2]<;>lia) ⋯ (by rw[hj];simpa using ew) ⟨rfl,fin⟩) hs
theorem G3:Es X (LM X.K):=by
 intro value slice N9 s σ H x y v u Q I rx ry h hs;obtain⟨p,xs,i,z,rfl,rfl,hq,he,q⟩:=h;cases rx;obtain⟨t,rfl⟩:=ry;obtain⟨Ob,r,pl,hz⟩:=I.tuple hq;obtain⟨j,h1,h2,h3,h4,h5⟩:=tQ he;obtain⟨w,ew,P1⟩:=r.get h2;have hl:=r.length;have hn:=pO;have fin:EP X N9 σ Q w s:=⟨z,H,I,P1,q⟩
 exact YV (x:=w) pl.typeIs slot_tuple_getitem.lookup
  (getItem_tuple (j:=j) (Q:=λr s'=>r=w/\EP X N9 σ Q r s') pl ⋯ ⋯ (by rwa[S2,<- hl]) (by simpa using ew) ⟨rfl,fin⟩) hs
theorem Jn:Es X Km:=by
 intro value slice N9 s σ H x y v u Q I rx ry h hs;obtain⟨z,i,c,rfl,rfl,hz,he,q⟩:=h;obtain⟨t,rfl⟩:=rx;obtain⟨t',rfl⟩:=ry;obtain⟨j,h1,h2,h3,h4,h5⟩:=tQ he;have hl:z.cps.toList.length=z.length:=by simp[Str.length]
 rw[hl] at h1 h4 h5;have hn:=pO;exact tail_any (typeIs_str s z t) slot_str_getitem.lookup (getItem_str (c:=c) (by
  have e1:decide (i < -(2^63:Int))=false:=decide_eq_false ⋯;have e2:decide (i>=2^63)=false:=decide_eq_false ⋯;rw[e1,e2,Bool.or_false]) (by rw[h1];simpa using h2) ⟨.str ⟨#[c]⟩,H,I.tok _,⟨_,rfl⟩,q⟩) hs
def Nv(K:SD):R2:=λx y H Q=>KR K x y H Q\/LM K x y H Q\/Km x y H Q
def Ck:Es X (Nv X.K):=D4.or (G3.or Jn)
theorem s_(lo hi:Option Int)(n:Nat):(sliceBounds lo hi none n).1=((HT.cW n 0 lo:Nat):Int)/\(sliceBounds lo hi none n).2.1=((HT.cW n n hi:Nat):Int)/\(sliceBounds lo hi none n).2.2=1:=by
 refine⟨?_,?_,rfl⟩
 .cases lo with
  | none=>simp[sliceBounds,HT.cW]
  | some i =>
   simp only[sliceBounds,HT.cW,aaJ,show (1:Int)>0 by decide,if_true]
   by_cases h:i<0
   .simp only[h,if_true]<;>lia
   .simp only[h,if_false]<;>lia
 .cases hi with
  | none=>simp[sliceBounds,HT.cW]
  | some i =>
   simp only[sliceBounds,HT.cW,aaJ,show (1:Int)>0 by decide,if_true]
   by_cases h:i<0
   .simp only[h,if_true]<;>lia
   .simp only[h,if_false]<;>lia
def qA(Ob:List Value)(lo hi:Option Int):slicePick Ob.toArray lo hi none=((Ob.drop (HT.cW Ob.length 0 lo)).take (HT.cW Ob.length Ob.length hi-HT.cW Ob.length 0 lo)).toArray:=by
 obtain⟨h1,h2,h3⟩:=s_ lo hi Ob.toArray.size;unfold slicePick;rw[h1,h2,h3];simp only[sliceRange_one,pick_run,S2]<;>rfl
def M3(K:SD):V->Option Int->Option Int->Hp->VK->Prop:=λx lo hi H Q=>∃a xs,x=.ref a/\h9 K H a xs/\∀p,H p=none->Q (.ref p) (upd H p (.lst (uO xs lo hi)))
theorem DU:DJ X (M3 X.K):=by
 intro N9 s σ H x v vl vu lo hi sl Q I rx hs pl pu h;obtain⟨a,xs,rfl,hx,q⟩:=h;cases rx;obtain⟨Ob,r,ht,hz⟩:=I.list hx;have hlen:=r.length;refine⟨"list",_,slot_list_getitem.lookup,ht.isList.typeIs,?_⟩;refine wpAny_getItem_list_slice ht.isList hs pl pu .none ↑13 ?_ (by rw[S2]<;>lia);rw[qA,<- hlen];refine⟨.ref s.heap.objs.size,_,I.laid (t':=s.toks) (o:=.lst (uO xs lo hi)) (λb ob q=>Sw _ q) (SE _) ?_,rfl,q _ (I.br.fresh (SE _))⟩;exact⟨Ug (nK xs lo hi) hz,_,0,(r.drop (HT.cW xs.length 0 lo)).take (HT.cW xs.length xs.length hi-HT.cW xs.length 0 lo),SH _ rfl⟩
theorem sY:cv X (.builtin "len") (λxs H Q=>∃p ys,xs=[.ref p]/\(h9 X.K H p ys\/fJ X.K H p ys)/\Q (.int ys.length) H):=by
 intro N9 s σ H xs us Q I r h;obtain⟨p,ys,rfl,hq,q⟩:=h;obtain⟨u,rfl,rx⟩:=vals1 r;cases rx;have hn:=pO;rcases hq with hq|hq
 .obtain⟨Ob,r',pl,hz⟩:=I.list hq;have hlen:=r'.length;exact Calls.call_len_list pl.isList (by simp only[S2]<;>lia) ⟨.int ys.length,H,I.tok _,⟨s.toks+1,by rw[S2,hlen]⟩,q⟩
 .obtain⟨Ob,r',pl,hz⟩:=I.tuple hq;have hlen:=r'.length;exact len_tuple pl (by simp only[S2]<;>lia) ⟨.int ys.length,H,I.tok _,⟨s.toks+1,by rw[S2,hlen]⟩,q⟩
theorem tH:cv X (.builtin "len") (λxs H Q=>∃z,xs=[.str z]/\z.length<=sizeLine/\Q (.int z.length) H):=by
 intro N9 s σ H xs us Q I r h;obtain⟨z,rfl,hz,q⟩:=h;obtain⟨u,rfl,t,rfl⟩:=vals1 r;have hn:=pO;exact len_str ⋯ ⟨.int z.length,H,I.tok _,⟨_,rfl⟩,q⟩
def cv.or{f:Value}{r r':List V->Hp->VK->Prop}(h:cv X f r)(h':cv X f r'):cv X f (λxs H Q=>r xs H Q\/r' xs H Q):=by
 intro N9 s σ H xs us Q I rs q;rcases q with q|q
 .exact h N9 s σ H xs us Q I rs q
 .exact h' N9 s σ H xs us Q I rs q
theorem sW:cv X (.type "list") (λxs H Q=>∃p ys,xs=[.ref p]/\(h9 X.K H p ys\/fJ X.K H p ys)/\∀l,H l=none->Q (.ref l) (upd H l (.lst ys))):=by
 intro N9 s σ H xs us Q I r h;obtain⟨p,ys,rfl,hq,q⟩:=h;obtain⟨u,rfl,rx⟩:=vals1 r;cases rx;have fin:∀(Ob:List Value),Vals ys Ob->ys.length<=sizeLine->∀(h':Heap)(c':Nat),(∀b o',s.heap.get? b=some o'->h'.get? b=some o') ->
   h'.get? s.heap.objs.size=some { cls:=.type "list",dict:=none,data:=.seq Ob.toArray c',slots:=#[] }->EP X N9 σ Q (.ref s.heap.objs.size) { s with heap:=h' }:=λOb r' hz h' c' kp e =>
  ⟨.ref s.heap.objs.size,_,I.laid (t':=s.toks) kp (SE _) (show bf X.prog X.w _ h' _ (.lst ys) from ⟨hz,Ob,c',r',e⟩),rfl,q _ (I.br.fresh (SE _))⟩
 rcases hq with hq|hq
 .obtain⟨Ob,r',pl,hz⟩:=I.list hq;have hlen:=r'.length;obtain⟨o,ho,hc,n,hd⟩:=pl.isList;exact call_list_seq p (.inl rfl) ho hc hd (λh' c' kp e=>fin Ob r' hz h' c' kp e) (by simp only[S2]<;>lia)
 .obtain⟨Ob,r',pl,hz⟩:=I.tuple hq;have hlen:=r'.length;obtain⟨o,ho,hc,n,hd⟩:=pl;exact call_list_seq p (.inr rfl) ho hc hd (λh' c' kp e=>fin Ob r' hz h' c' kp e) (by simp only[S2]<;>lia)
theorem qH:cv X (.type "tuple") (λxs H Q=>∃p ys,xs=[.ref p]/\((h9 X.K H p ys/\∀l,H l=none->Q (.ref l) (upd H l (.tup ys)))\/(fJ X.K H p ys/\Q (.ref p) H))):=by
 intro N9 s σ H xs us Q I r h;obtain⟨p,ys,rfl,h⟩:=h;obtain⟨u,rfl,rx⟩:=vals1 r;cases rx;rcases h with ⟨hq,q⟩|⟨hq,q⟩
 .obtain⟨Ob,r',pl,hz⟩:=I.list hq;have hlen:=r'.length;refine call_tuple_list pl.isList (λh' kp=>?_) (by simp only[S2]<;>lia);have I1:Inv X N9 σ H { s with heap:=h' }:=I.kept (t':=s.toks) kp;have I2:Inv X N9 σ (upd H h'.objs.size (.tup ys)) { s with heap:=h'.push { cls:=.type "tuple",data:=.seq Ob.toArray } } :=
   I1.laid (t':=s.toks) (λb o e=>Sw _ e) (SE _) (show bf X.prog X.w _ _ _ (.tup ys) from ⟨hz,Ob,r',aaI _ _⟩)
  exact⟨.ref h'.objs.size,_,I2,rfl,q _ (I1.br.fresh (SE _))⟩
 .obtain⟨Ob,r',pl,hz⟩:=I.tuple hq;exact call_tuple_same pl ⟨.ref p,H,I,rfl,q⟩
def MW(K:SD)(T:String)(x:V)(H:Hp):Prop:=match x with
 | .str _=>T="str"
 | .int _=>T="int"
 | .ref p=>(T="list" /\ ∃xs,h9 K H p xs)\/(T="tuple" /\ ∃o,K.lookup p=some o/\o.cls=.type "tuple" /\ o.dict=none) ∨
   (T="dict" /\ ((∃Oa,H p=some (.dK Oa))\/∃Oa,H p=some (.dT Oa)))\/(T="set" /\ ∃S n,H p=some (.set S n))
 |_=>False
def Bp{T:String}{x:V}{v:Value}(I:Inv X N9 σ H s)(r:RelV x v)(ty:MW X.K T x H):s.TypeIs v T/\∀a,v=.ref a->∃ob,s.heap.get? a=some ob/\ob.dict=none:=by
 cases x with
 | str z =>
  obtain⟨t,rfl⟩:=r;cases (show T="str" from ty);exact⟨typeIs_str s z t,λ_ e=>nomatch e⟩
 | int i =>
  obtain⟨t,rfl⟩:=r;cases (show T="int" from ty);exact⟨YW s i t,λ_ e=>nomatch e⟩
 | ref p =>
  cases r;rcases ty with ⟨rfl,xs,hq⟩|⟨rfl,o,hk,hc,hd⟩|⟨rfl,hk⟩|⟨rfl,S,n,hk⟩
  .obtain⟨Ob,_,pl,_⟩:=I.list hq;refine⟨pl.isList.typeIs,λa e=>?_⟩;cases e;obtain⟨o,n,e,c,hd,_⟩:=pl;exact⟨o,e,hd⟩
  .refine⟨⟨o,I.mq p o hk,hc⟩,λa e=>?_⟩;cases e;exact⟨o,I.mq _ o hk,hd⟩
  .have z:∃o,s.heap.get? p=some o/\o.ExactDict:=by
    rcases hk with ⟨Oa,hk⟩|⟨Oa,hk⟩
    .obtain⟨_,_,_,_,o,_,_,e,ex,_⟩:=I.br p _ hk;exact⟨o,e,ex⟩
    .obtain⟨_,_,_,_,o,_,_,e,ex,_⟩:=I.br p _ hk;exact⟨o,e,ex⟩
   obtain⟨o,e,ex⟩:=z;refine⟨⟨o,e,ex.1⟩,λa e2=>?_⟩;cases e2;exact⟨o,e,ex.2.1⟩
  .obtain⟨o,_,_,_,e,ex,_⟩:=I.br p _ hk;refine⟨⟨o,e,ex.1⟩,λa e2=>?_⟩;cases e2;exact⟨o,e,ex.2.1⟩
 |_=>exact VH ty
def K9(K:SD)(T:String)(r:V->List V->Hp->VK->Prop)(to:TE):TE:=fun σ H Q=>to σ H λx H1=>MW K T x H1/\r x [] H1 Q
def NP(K:SD)(T:String)(r:V->List V->Hp->VK->Prop)(to:TE)(t:TA):TE:=fun σ H Q=>to σ H λx H1=>MW K T x H1/\t σ H1 λxs H2=>r x xs H2 Q
variable{o:Expr}{es:List Expr}{to:TE}{t:TA}{name:Str}{apos Oy:Pos}{T id:String}{r:V->List V->Hp->VK->Prop}
def IU(pa:PlainAttrs T)(slot:Slot T name id)(hty:typeOf (.builtin id)=pure (.type "method_descriptor"))(hm:Ni X id r)(ho:PE X o to)(P8:autoParam (attributeBase o name X.env (eval o X.env)=eval o X.env) aR._auto_1)(P9:autoParam ((apos.endLine==Oy.line)=true) aR._auto_1):PE X (.Call (.Attribute o name apos) [] [] Oy) (K9 X.K T r to):=by
 intro N9 s σ H Q I h;refine wpAny_Call_method0_late P8 P9 (ck (ho N9 s σ H _ I h) λv s1 ⟨x,H1,I1,r1,ty,q1⟩=>?_);obtain⟨h1,h2⟩:=Bp I1 r1 ty;exact⟨T,id,pa,slot,hty,h1,h2,YX rfl (PySem.evalArgs_none (hm N9 s1 σ H1 x [] v [] Q I1 r1 .nil q1))⟩
def K6(pa:PlainAttrs T)(slot:Slot T name id)(hty:typeOf (.builtin id)=pure (.type "method_descriptor"))(hm:Ni X id r)(ho:PE X o to)(ha:PA X (e::es) t)(P8:autoParam (attributeBase o name X.env (eval o X.env)=eval o X.env) aR._auto_1)(Rt:autoParam (((backTo Oy (starEach (e::es) X.env)).all (λx=>!x.1)&&(backToKw Oy (keywordEach [] X.env)).all (λx=>x.1.isSome) && decide ((e::es).length+([]:List Keyword).length+(if ([]:List Keyword).isEmpty then 0 else 1)<30))=true) aR._auto_1)(P9:autoParam ((apos.endLine==Oy.line)=true) aR._auto_1)(hs:autoParam ↑0 aR._auto_1)(Qk:autoParam ((backTo Oy (starEach es X.env)).any (·.1)=false) aR._auto_1):PE X (.Call (.Attribute o name apos) (e::es) [] Oy) (NP X.K T r to t):=by
 intro N9 s σ H Q I h;refine wpAny_Call_method_late P8 Rt P9 rfl (ck (ho N9 s σ H _ I h) λv s1 ⟨x,H1,I1,r1,ty,q1⟩=>?_);obtain⟨h1,h2⟩:=Bp I1 r1 ty;refine⟨T,id,pa,slot,hty,h1,h2,?_⟩;have hA:=ha Oy N9 s1 σ H1 _ I1 q1;rw[hs] at hA ⊢;refine YX (by show (false||(backTo Oy (starEach es X.env)).any (·.1))=false;rw[Qk]<;>rfl) (Calls.evalArgs_plain ?_);exact ck hA λus s2 ⟨vs,H2,I2,r2,q2⟩=>hm N9 s2 σ H2 x vs v us Q I2 r1 r2 q2
end
def Nw(X:Cx)(id:String)(r:V->List V->Hp->VK->Prop):Prop :=
 ∀ (N9:List (Addr×Obj)) (s:Shared) (σ:St) (H:Hp) (x:V) (xs:List V) (v:Value) (us:List Value) (Q:VK),Inv X N9 σ H s->RelV x v->Vals xs us->r x xs H Q ->
  wpAny ↑8 X.A (call (.builtin id) (v::us)) (EP X N9 σ Q) X.xe s
def Vals.one:∀{x:V}{us:List Value},Vals [x] us->∃u,us=[u]/\RelV x u
 |_,_,.cons r .nil=>⟨_,rfl,r⟩
def Vals.zero:∀{us:List Value},Vals [] us->us=[]
 |_,.nil=>rfl
theorem Vals.dropLast{xs:List V}{us:List Value}(h:Vals xs us):Vals xs.dropLast us.dropLast:=by
 induction h with
 | nil=>exact .nil
 | cons r t ih =>
  cases t with
  | nil=>exact .nil
  |cons q t'=>exact .cons r ih
theorem Vals.rep{xs:List V}{us:List Value}(h:Vals xs us):∀k:Nat,Vals (Sx k xs).flatten (Sx k us).flatten
 | 0=>.nil
 | k+1=>by
  rw[Uh,Uh,U8,U8];exact Vals.append h (Vals.rep h k)
theorem wV(l:List α):l.eraseIdx (l.length-1)=l.dropLast:=by
 induction l with
 | nil=>rfl
 | cons a r ih =>
  cases r with
  | nil=>rfl
  | cons b r =>
   have e:(a::b::r).length-1=((b::r).length-1)+1:=by
    have h1:(a::b::r).length=r.length+2:=rfl;have h2:(b::r).length=r.length+1:=rfl;lia
   rw[e,List.eraseIdx_cons_succ,ih]
   all_goals rfl
theorem foldl_rep(Ob:List Value):∀(k:Nat)(acc:List Value),X8 (λx1 x2=>x1++x2) acc.toArray (Sx k Ob.toArray)=(acc++(Sx k Ob).flatten).toArray
 | 0,acc=>by simp
 | k+1,acc=>by
  have e:acc.toArray++Ob.toArray=(acc++Ob).toArray:=by simp
  have e2:(acc++Ob)++(Sx k Ob).flatten=acc++(Sx (k+1) Ob).flatten:=by
   rw[Uh,U8,Ux]
  rw[<- e2,<- foldl_rep Ob k (acc++Ob),<- e,Uh,Wo]
variable{b:Addr}
variable{t':Nat}{Ob:List Value}
section
variable{l:Addr}{xs ys zs:List V}
def Inv.Kg{its':List Value}{f:Array Value->Array Value}(I:Inv X N9 σ H s)(hH:H l=some (.lst xs))(e:s.heap.get? l=some { cls:=.type "list",data:=.seq Ob.toArray n })(hf:f Ob.toArray=its'.toArray)(hv:Vals ys its')(hz:ys.length<=sizeLine):Inv X N9 σ (upd H l (.lst ys)) { s with heap:=s.heap.update l (Vd f),toks:=t' }:=by
 have q:=PySem.IsL.update e f;rw[hf] at q;refine I.write (x:=l) (e:=l) (by rw[hH];exact trivial) (.inl rfl) (λb' u hb hu=>(S5 s.heap (Vd f) (UN hb)).trans hu) ⟨_,q⟩ ?_;exact⟨hz,its',_,hv,q⟩
def Inv.Kv(I:Inv X N9 σ H s)(hv:Vals ys Ob)(hz:ys.length<=sizeLine):Inv X N9 σ (upd H s.heap.objs.size (.lst ys)) { s with heap:=s.heap.push { cls:=.type "list",data:=.seq Ob.toArray },toks:=t' } :=
 I.laid (λ_ _ q=>Sw _ q) (SE _) ⟨hz,Ob,0,hv,SH _ rfl⟩
theorem Inv.fresh(I:Inv X N9 σ H s):H s.heap.objs.size=none:=I.br.fresh (SE _)
def Inv.DC(I:Inv X N9 σ H s)(hH:H l=some (.lst xs)):xs.length<=sizeLine/\∃(Ob:List Value)(n:Nat),Vals xs Ob/\xs.length=Ob.length/\s.heap.get? l=some { cls:=.type "list",data:=.seq Ob.toArray n }:=by
 obtain⟨z,Ob,n,r,e⟩:=I.br l _ hH;exact⟨z,Ob,n,r,r.length,e⟩
theorem BF(h:n<=sizeLine):WN n=false:=by
 unfold WN;exact decide_eq_false ⋯
end
def Et:V->List V->Hp->VK->Prop:=λx vs H Q=>∃l xs y,x=.ref l/\vs=[y]/\H l=some (.lst xs)/\xs.length<sizeLine/\Q .dq (upd H l (.lst (xs++[y])))
theorem rB:Nw X "list.append" Et:=by
 intro N9 s σ H x vs v us Q I rx rv h;obtain⟨l,xs,y,rfl,rfl,hH,hz,q⟩:=h;cases rx;obtain⟨u,rfl,ru⟩:=rv.one;obtain⟨z,Ob,n,r,hl,e⟩:=I.DC hH;refine WQ F.slot_list_append ⟨_,e,rfl⟩ F.entry_list_append (F.args_list_append_2 _ _) (PySem.list_append l Ob.toArray n u (by rw[S2];lia)) ⟨e,?_⟩;refine⟨.dq,_,I.Kg (its':=Ob++[u]) hH e ↑13 (r.append (.cons ru .nil)) ?_,rfl,q⟩;rw[S6,UP];lia
def Lh:V->List V->Hp->VK->Prop:=λx vs H Q=>∃l xs y,x=.ref l/\vs=[]/\H l=some (.lst xs)/\xs[xs.length-1]?=some y/\Q y (upd H l (.lst xs.dropLast))
theorem GY:Nw X "list.pop" Lh:=by
 intro N9 s σ H x vs v us Q I rx rv h;obtain⟨l,xs,y,rfl,rfl,hH,hy,q⟩:=h;cases rx;have hus:=rv.zero;subst hus;obtain⟨z,Ob,n,r,hl,e⟩:=I.DC hH;obtain⟨u,hu,ru⟩:=r.get hy;have hy':Ob.toArray[Ob.toArray.size-1]?=some u:=by
  show Ob.toArray[Ob.length-1]?=some u;rwa[<- Tu,<- hl]
 refine WQ F.slot_list_pop ⟨_,e,rfl⟩ F.entry_list_pop (F.args_list_pop_1 _) (MeetsSeq.list_pop_last l Ob.toArray n u hy' (by rw[S2];lia)) ⟨e,?_⟩;refine⟨y,_,I.Kg (its':=Ob.dropLast) hH e ?_ r.dropLast ?_,ru,q⟩
 .show Ob.toArray.eraseIdxIfInBounds (Ob.toArray.size-1)=Ob.dropLast.toArray;rw[S2,List.eraseIdxIfInBounds_toArray,wV]
 .rw[List.length_dropLast];lia
def La:R2:=λx y H Q=>∃l b xs zs,x=.ref l/\y=.ref b/\H l=some (.lst xs)/\H b=some (.lst zs)/\xs.length+zs.length<=sizeLine/\∀p,H p=none->Q (.ref p) (upd H p (.lst (xs++zs)))
theorem IG:gf X (binaryOp .Add) La:=by
 intro N9 s σ H x y v u Q I rx ry h;obtain⟨l,b,xs,zs,rfl,rfl,hH,hB,hz,q⟩:=h;cases rx;cases ry;obtain⟨z,Ob,n,r,hl,e⟩:=I.DC hH;obtain⟨z2,Pw,n2,r2,Pt,e2⟩:=I.DC hB;refine PySem.P.add_list e e2 ?_ (by rw[S2,S2];lia);have ea:Ob.toArray++Pw.toArray=(Ob++Pw).toArray:=by simp
 rw[ea];exact⟨.ref _,_,I.Kv (t':=s.toks) (r.append r2) (by rw[S6];lia),rfl,q _ I.fresh⟩
def Lo:R2:=λx y H Q=>∃l k xs,x=.ref l/\y=.int k/\H l=some (.lst xs)/\-(2^63)<=k/\k<2^63/\xs.length*k.toNat<=sizeLine ∧
 ∀p,H p=none->Q (.ref p) (upd H p (.lst (Sx k.toNat xs).flatten))
def len_rep(xs:List α)(k:Nat):(Sx k xs).flatten.length=k*xs.length:=by
 induction k with
 | zero=>simp
 |succ k ih=>rw[Uh,U8,S6,ih,Nat.succ_mul,YY]
theorem Hz:gf X (binaryOp .Mult) Lo:=by
 intro N9 s σ H x y v u Q I rx ry h;obtain⟨l,k,xs,rfl,rfl,hH,h1,h2,hz,q⟩:=h;cases rx;obtain⟨t,rfl⟩:=ry;obtain⟨z,Ob,n,r,hl,e⟩:=I.DC hH;have hlen:Ob.toArray.size*k.toNat<=sizeLine:=by rwa[S2,<- hl]
 have hcap:¬ Ob.toArray.size*k.toNat>(2^63-1)/8:=by
  have:(sizeLine:Nat)<=(2^63-1)/8:=by decide
  lia
 have hfit:¬ (!Builtin.List.listFitsIndex k)=true:=by
  rw[fitsIndex_both h1 h2];exact Tq
 have R6:¬ WN (Ob.toArray.size*k.toNat)=true:=by
  rw[BF hlen];exact Tq
 have Pu:X8 (λx1 x2=>x1++x2) #[] (Sx (if Ob.toArray.isEmpty=true then 0 else k.toNat) Ob.toArray)=(Sx k.toNat Ob).flatten.toArray:=by
  have f0:∀m:Nat,X8 (λx1 x2=>x1++x2) #[] (Sx m Ob.toArray)=(Sx m Ob).flatten.toArray:=λm=>by
   have:=foldl_rep Ob m [];rwa[Zr] at this
  rw[f0];cases Ob with
  | nil=>simp
  | cons a r'=>rw[if_neg ↑13]
 refine Yi (T := "list") (U := "int") ↑12 ⟨_,e,rfl⟩ (λs'=>YW s' k t) noFill_list_mul F.fills_int_mul F.slot_int_rmul repeat_list F.slot_int_index.lookup
  (WQ F.slot_int_rmul (YW s k t) F.entry_int_rmul (F.args_int_rmul_2 _ _) (int___rmul___int_list k t l Ob.toArray n)
   ⟨e,rfl,⟨_,e,rfl⟩,WQ F.slot_list_mul ⟨_,e,rfl⟩ F.entry_list_mul (F.args_list_mul_2 _ _) (AutoListH.list___mul___list_int_3 l Ob.toArray n k t hfit hcap R6) ⟨e,?_⟩⟩)
 rw[Pu];exact⟨.ref _,_,I.Kv (t':=s.toks) (r.rep k.toNat) (by rwa[len_rep,W6]),rfl,q _ I.fresh⟩
variable{E:Value->Shared->Prop}{A:Around}{w:World}
section
variable{prog:Program}
end
variable{o:Option V}
variable{u:Value}{y:V}
section
variable{κ:Type}[DecidableEq κ]
def kz(Oa:List (κ×V))(k:κ):Option V:=(Oa.find? λkv=>decide (kv.1=k)).map (·.2)
def putK(Oa:List (κ×V))(k:κ)(v:V):List (κ×V) :=
 if (Oa.any λkv=>decide (kv.1=k))=true then Oa.map (λkv=>if kv.1=k then (kv.1,v) else kv) else Oa++[(k,v)]
def lG{p:κ×V}{r:List (κ×V)}{k:κ}(e:p.1=k):kz (p::r) k=some p.2:=by simp[kz,US,e]
def lM{p:κ×V}{r:List (κ×V)}{k:κ}(e:¬ p.1=k):kz (p::r) k=kz r k:=by simp[kz,US,e]
theorem pH(k:κ):∀Oa:List (κ×V),(Oa.any λkv=>decide (kv.1=k))=(kz Oa k).isSome
 | []=>rfl
 | p::r=>by
  rw[Xr]
  by_cases e:p.1=k
  .simp only[lG e,decide_eq_true e,Bool.true_or,Option.isSome_some]
  .rw[lM e,decide_eq_false e,Bool.false_or];exact pH k r
theorem nJ(Oa:List (κ×V))(k:κ)(v:V):(putK Oa k v).length<=Oa.length+1:=by
 unfold putK
 split
 .rw[SG];lia
 .rw[S6,Tj,VS];lia
def ko.mX{u:Option Value}(r:ko o u):o.isSome=u.isSome:=by
 cases o with
 | none=>cases u with
  | none=>rfl
  | some _=>exact(show False from r).elim
 | some _=>cases u with
  | none=>exact(show False from r).elim
  |some _=>rfl
def KV.val{Oa:List (κ×V)}{vs:List (κ×Value)}(r:KV Oa vs)(k:κ):ko (kz Oa k) (valueAt vs k):=by
 unfold KV at r
 induction r with
 | nil=>exact Uz
 | @cons p q ps qs h t ih =>
  obtain⟨h1,h2⟩:=h
  by_cases e:p.1=k
  .have e':q.1=k:=h1.symm.trans e;have b:valueAt (q::qs) k=some q.2:=by simp[valueAt,US,e']
   rwa[lG e,b]
  .have e':¬ q.1=k:=λz=>e (h1.trans z);have b:valueAt (q::qs) k=valueAt qs k:=by simp[valueAt,US,e']
   rwa[lM e,b]
theorem KV.any{Oa:List (κ×V)}{vs:List (κ×Value)}(r:KV Oa vs)(k:κ):(Oa.any λkv=>decide (kv.1=k))=vs.any λkv=>decide (kv.1=k):=by
 unfold KV at r
 induction r with
 | nil=>rfl
 |cons h t ih=>rw[Xr,Xr,ih,h.1]
def KV.Jy{Oa:List (κ×V)}{vs:List (κ×Value)}(r:KV Oa vs)(k:κ)(ry:RelV y u):KV (Oa.map λkv=>if kv.1=k then (kv.1,y) else kv) (vs.map λkv=>if kv.1=k then (kv.1,u) else kv):=by
 unfold KV at r ⊢
 induction r with
 | nil=>exact .nil
 | @cons p q ps qs h t ih =>
  rw[S0,S0];refine .cons ?_ ih;obtain⟨h1,h2⟩:=h
  by_cases e:p.1=k
  .rw[if_pos e,if_pos (h1.symm.trans e)];exact⟨h1,ry⟩
  .rw[if_neg e,if_neg (λz=>e (h1.trans z))];exact⟨h1,h2⟩
def KV.put{Oa:List (κ×V)}{vs:List (κ×Value)}(r:KV Oa vs)(k:κ)(ry:RelV y u):KV (putK Oa k y) (stored vs k u):=by
 unfold putK stored;rw[r.any k]
 by_cases e:(vs.any λkv=>decide (kv.1=k))=true
 .rw[if_pos e,if_pos e];exact r.Jy k ry
 .rw[if_neg e,if_neg e];exact Paired.snoc r ⟨rfl,ry⟩
theorem KV.length{Oa:List (κ×V)}{vs:List (κ×Value)}(r:KV Oa vs):Oa.length=vs.length:=Paired.length r
end
variable{k:Key}{P:Program}
def BC(r:RelV (kV k) u):(bP P w).is k u=true:=by
 cases k with
 | inl i=>obtain⟨t,e⟩:=(show ∃t,u=WT i t from r);subst e;exact vy P w i t
 |inr x=>obtain⟨t,e⟩:=(show ∃t,u=XZ x t from r);subst e;exact vG P w x t
theorem rj{P:Program}{w:World}:∀{ks:List Key}{us:List Value},Vals (ks.map kV) us->ItemsAre (bP P w) ks us
 | [],_,r=>by rw[VY] at r;cases r;exact .nil
 | k::ks,_,r=>by
  rw[S0] at r;cases r with
  |cons h t=>exact .cons (BC h) (rj t)
abbrev KT(H:Hp):List (List Key×V)->List (List Key×Addr×Value)->Prop:=Paired λp q=>p.1=q.1/\H q.2.1=some (.tup (p.1.map kV))/\RelV p.2 q.2.2
variable{xs:List (List Key×Addr×Value)}{Oa:List (List Key×V)}
def KT.val(r:KT H Oa xs)(k:List Key):ko (kz Oa k) ((atKey xs k).map (·.2)):=by
 induction r with
 | nil=>exact Uz
 | @cons p q ps qs h t ih =>
  obtain⟨h1,_,h2⟩:=h
  by_cases e:p.1=k
  .have e':q.1=k:=h1.symm.trans e;have b:atKey (q::qs) k=some q.2:=by simp[atKey,US,e']
   rwa[lG e,b]
  .have e':¬ q.1=k:=λz=>e (h1.trans z);have b:atKey (q::qs) k=atKey qs k:=by simp[atKey,US,e']
   rwa[lM e,b]
def KT.Jy(r:KT H Oa xs)(k:List Key)(ry:RelV y u):KT H (Oa.map λkv=>if kv.1=k then (kv.1,y) else kv) (xs.map (putAt k u)):=by
 induction r with
 | nil=>exact .nil
 | @cons p q ps qs h t ih =>
  rw[S0,S0];refine .cons ?_ ih;obtain⟨h1,h2,h3⟩:=h;unfold putAt
  by_cases e:p.1=k
  .rw[if_pos e,if_pos (h1.symm.trans e)];exact⟨h1,h2,ry⟩
  .rw[if_neg e,if_neg (λz=>e (h1.trans z))];exact⟨h1,h2,h3⟩
def KT.put(r:KT H Oa xs)(k:List Key)(hb:H b=some (.tup (k.map kV)))(ry:RelV y u):KT H (putK Oa k y) (storedH xs k b u):=by
 have e:(Oa.any λkv=>decide (kv.1=k))=(atKey xs k).isSome:=by
  rw[pH,(r.val k).mX,aav]
 unfold putK storedH;rw[e]
 by_cases q:(atKey xs k).isSome=true
 .rw[if_pos q,if_pos q];exact r.Jy k ry
 .rw[if_neg q,if_neg q];exact Paired.snoc r ⟨rfl,hb,ry⟩
variable{H':Hp}
def KT.keeps(r:KT H Oa xs)(ht:∀b ys,H b=some (.tup ys)->H' b=some (.tup ys)):KT H' Oa xs :=
 Paired.EW r λ_ _ z=>⟨z.1,ht _ _ z.2.1,z.2.2⟩
section
variable{h:Heap}{a:Addr}
def qY{u:HO}(ok:kI P w H h)(e:Rd H a u):bf P w H h a u:=e.ok ok
def Ge{Oa:List (Key×V)}(ok:kI P w H h)(e:Rd H a (.dK Oa)):Oa.length<=sizeLine/\(a==sysModules)=false/\∃vs,KV Oa vs/\h.DictOf (bP P w) a vs :=
 show bf P w H h a (.dK Oa) from qY ok e
def Lq{Oa:List (Key×V)}(ok:kI P w H h)(e:H a=some (.dK Oa)):Oa.length<=sizeLine/\(a==sysModules)=false/\∃vs,KV Oa vs/\h.DictOf (bP P w) a vs:=Ge ok (.inl e)
def tY{ks:List Key}(ok:kI P w H h)(e:H a=some (.tup (ks.map kV))):(tupleKind (bP P w)).is h ks a:=by
 obtain⟨_,Ob,r,o,h1,h2,n,h3⟩:=(show bf P w H h a (.tup (ks.map kV)) from ok a _ e)
 exact⟨o,Ob.toArray,n,h1,h2,h3,by simpa using rj r⟩
def Gf(ok:kI P w H h)(e:Rd H a (.dT Oa)):Oa.length<=sizeLine/\(a==sysModules)=false ∧∃xs,KT H Oa xs/\h.DictOfH (tupleKind (bP P w)) a xs:=by
 obtain⟨z,y,xs,r,o,es,ep,h1,h2,h3,h4,h5⟩:=(show bf P w H h a (.dT Oa) from qY ok e)
 refine⟨z,y,xs,r,o,es,ep,h1,h2,h3,h4,λx hx=>?_,h5⟩;have all:∀{l:List (List Key×V)}{m:List (List Key×Addr×Value)},KT H l m->∀x∈m,(tupleKind (bP P w)).is h x.1 x.2.1:=by
  intro l m q
  induction q with
  | nil=>intro x hx;exact nomatch hx
  | @cons p q ps qs hq t ih =>
   intro x hx;rcases SQ.mp hx with e|hx
   .subst e;exact tY ok (by rw[<- hq.1];exact hq.2.1)
   .exact ih x hx
 exact all r x hx
def Gs(ok:kI P w H h)(e:H a=some (.dT Oa)):Oa.length<=sizeLine/\(a==sysModules)=false ∧∃xs,KT H Oa xs/\h.DictOfH (tupleKind (bP P w)) a xs:=Gf ok (.inl e)
end
def Hb(H:Hp)(a:Addr)(y:V)(r:Option V):Prop :=
 (∃Oa k,Rd H a (.dK Oa)/\y=kV k/\r=kz Oa k)\/∃Oa k b,Rd H a (.dT Oa)/\y=.ref b/\H b=some (.tup (k.map kV))/\r=kz Oa k
def Az(H:Hp)(a:Addr)(y v:V)(H':Hp):Prop :=
 (∃Oa k,H a=some (.dK Oa)/\y=kV k/\Oa.length<sizeLine/\H'=upd H a (.dK (putK Oa k v))) ∨
 ∃Oa k b,H a=some (.dT Oa)/\y=.ref b/\H b=some (.tup (k.map kV))/\Oa.length<sizeLine/\H'=upd H a (.dT (putK Oa k v))
def Az.t{a:Addr}{k:List Key}{v:V}(e:H a=some (.dT Oa))(eb:H b=some (.tup (k.map kV)))(hl:Oa.length<sizeLine):Az H a (.ref b) v (upd H a (.dT (putK Oa k v))):=.inr ⟨Oa,k,b,e,rfl,eb,hl,rfl⟩
variable{h':Heap}
section
variable{a:Addr}{v:V}{r:Value}
def Inv.big(I:Inv X N9 σ H s):sysModules<s.heap.objs.size:=by
 have h:mainGlobals<s.heap.objs.size:=(I.mod.glob.keeps I.bk).lt;exact W7 ↑12 h
def E4{Q:Value->Shared->Prop}(hu:A.units+1<cLine)(I:Inv X N9 σ H s)(g:Hb H a y o)(ry:RelV y u)(h:∀s',Inv X N9 σ H s'->Q (.bool (!o.isSome)) s'):wpAny ↑8 A (compareOp .NotIn u (.ref a)) Q E s:=by
 rcases g with ⟨Oa,k,e,ey,l⟩|⟨Oa,k,b,e,ey,eb,l⟩
 .subst ey;obtain⟨z,hd,vs,rel,dd⟩:=Ge I.br e;refine wpAny_notIn_of (BC ry) hd dd.mapOf ?_;rw[<- (rel.val k).mX,<- l];exact h _ (I.tok _)
 .subst ey;cases (show u=SN b from ry);obtain⟨z,hd,xs,rel,dd⟩:=Gf I.br e;refine wpAny_notIn_heap (tupleKind_room_in1 hu) (tY I.br eb) hd dd ?_;have q:=(rel.val k).mX;rw[aav] at q;rw[<- q,<- l];exact h _ (I.tok _)
def ou{ob:HO}(I:Inv X N9 σ H s)(mu:K3 (H a))(hs:VW a s.heap h')(he:∃q,h'.get? a=some q)(new:bf X.prog X.w (upd H a ob) h' a ob):Inv X N9 σ (upd H a ob) { s with heap:=h',toks:=t' } :=
 I.write (x:=a) (e:=a) mu (.inl rfl) (λb q hb z=>(hs.2 b hb).trans z) he new
def GO{Oa:List (Key×V)}{vs:List (Key×Value)}(z:Oa.length<=sizeLine)(hd:(a==sysModules)=false)(rel:KV Oa vs)(dd:h'.DictOf (bP P w) a vs):bf P w H' h' a (.dK Oa):=⟨z,hd,vs,rel,dd⟩
theorem zp{Q:Unit->Shared->Prop}(hu:A.units+1<cLine)(I:Inv X N9 σ H s)(g:Az H a y v H')(ry:RelV y u)(rv:RelV v r)(h:∀s',Inv X N9 σ H' s'->Q () s'):wpAny ↑8 A (setItem (.ref a) u r) Q E s:=by
 rcases g with ⟨Oa,k,e,ey,l,eH⟩|⟨Oa,k,b,e,ey,eb,l,eH⟩
 .subst ey eH;obtain⟨z,hd,vs,rel,dd⟩:=Lq I.br e;have hz:vs.length<=sizeLine:=by rwa[<- rel.length]
  have hl:(putK Oa k v).length<=sizeLine:=by have:=nJ Oa k v;lia
  refine wpAny_setItem_pairs (hsz:=hz) (BC ry) dd λh' RE hs=>h _ ?_;have he:∃q,h'.get? a=some q:=let ⟨q,_,_,hq,_⟩:=RE;⟨q,hq⟩
  exact ou I (by rw[e];exact Uz) hs he (GO hl hd (rel.put k rv) RE)
 .subst ey eH;cases (show u=SN b from ry);obtain⟨z,hd,xs,rel,dd⟩:=Gs I.br e;have hz:xs.length<=sizeLine:=by rwa[<- Paired.length rel]
  have hl:(putK Oa k v).length<=sizeLine:=by have:=nJ Oa k v;lia
  refine wpAny_setItem_heap (hsz:=hz) (tupleKind_room_in1 hu) (tY I.br eb) dd λh' RE hs=>h _ ?_;obtain⟨q,es,ep,hq,h2,h3,h4,_,h5⟩:=RE;refine ou I (by rw[e];exact Uz) hs ⟨q,hq⟩ ⟨hl,hd,_,(rel.put k eb rv).keeps λc ys ec=>?_,q,es,ep,hq,h2,h3,h4,h5⟩;rwa[au (Ai ec e (λz=>nomatch z))]
end
section
variable{a:Addr}{Oa:List (Key×V)}
end
def LG(td ty tv:TE):TS:=λD σ H=>tv σ H λv H1=>td σ H1 λx H2=>ty σ H2 λy H3=>∃a H4,x=.ref a/\Az H3 a y v H4/\D.nx σ H4
section
variable{o i value:Expr}{pos pos' Sv:Pos}{td ty tv:TE}
def EC(hu:X.A.units+1<cLine)(ho:PE X o td)(hi:PE X i ty)(hv:PE X value tv)(hs:swapsWith value (some (.Subscript o i pos')) pos.line X.env=pure false):PS X (.Assign [.Subscript o i pos'] value pos) (LG td ty tv):=by
 intro N9 s σ H D I h;refine wpAny_Assign_Subscript (ck (hv N9 s σ H _ I h) λr s1 ⟨v,H1,I1,rv,q1⟩=>ck (ho N9 s1 σ H1 _ I1 q1) λu s2 ⟨x,H2,I2,rx,q2⟩=>ck (hi N9 s2 σ H2 _ I2 q2) λiv s3 ⟨y,H3,I3,ry,a,H4,ex,g,q3⟩=>?_) hs;subst ex;obtain rfl:u=SN a:=rx;exact zp hu I3 g ry rv λs4 I4=>⟨σ,H4,I4,q3⟩
end
def AW(h:Heap)(hb:sysModules<h.objs.size):bf P w H (h.push { cls:=.type "dict",data:=.dict #[] }) h.objs.size (.dT []) :=
 ⟨SX _,beq_eq_false_iff_ne.mpr (UN (SW hb)),[],.nil,_,#[],0,SH _ rfl,⟨rfl,rfl,rfl⟩,rfl,rfl,List.nodup_nil⟩
section
variable{pos:Pos}
end
def wg:List (TE×TE)->St->Hp->(List (V×V)->Hp->Prop)->Prop
 | [],_,H,Q=>Q [] H
 |(tk,tv)::r,σ,H,Q=>tk σ H λx H1=>tv σ H1 λy H2=>wg r σ H2 λps H3=>Q ((x,y)::ps) H3
abbrev VV:List (V×V)->List (Value×Value)->Prop:=Paired λp q=>RelV p.1 q.1/\RelV p.2 q.2
def Nc(X:Cx)(pos:Pos)(keys:List (Option Expr))(values:List Expr)(trs:List (TE×TE)):Prop :=
 ∀ (N9:List (Addr×Obj)) (s:Shared) (σ:St) (H:Hp) (Q:List (V×V)->Hp->Prop),Inv X N9 σ H s->wg trs σ H Q ->
  wpAny ↑8 X.A (evalPairs (pairTrees keys values X.env pos)) (λvs s'=>∃ps H',Inv X N9 σ H' s'/\VV ps vs/\Q ps H') X.xe s
def E0{pos:Pos}:Nc X pos [] [] []:=λN9 s σ H Q I h=>pairTrees_nil_walk ⟨[],H,I,.nil,h⟩
def Bl{pos:Pos}{k v:Expr}{ks:List (Option Expr)}{vs:List Expr}{tk tv:TE}{trs:List (TE×TE)}(hk:PE X k tk)(hv:PE X v tv)(hr:Nc X pos ks vs trs):Nc X pos (some k::ks) (v::vs) ((tk,tv)::trs):=λN9 s σ H Q I h =>
 pairTrees_cons_walk (ck (hk N9 s σ H _ I h) λu s1 ⟨x,H1,I1,rx,q1⟩=>ck (hv N9 s1 σ H1 _ I1 q1) λw2 s2 ⟨y,H2,I2,ry,q2⟩ =>
  ck (hr N9 s2 σ H2 _ I2 q2) λws s3 ⟨ps,H3,I3,rel,q3⟩=>⟨(x,y)::ps,H3,I3,.cons ⟨rx,ry⟩ rel,q3⟩)
section
variable{a:Addr}{d:V}{r:Value}
end
section
variable{o f:Expr}{apos Oy:Pos}{td ty tx:TE}
end
section
variable{a:Addr}{Oa:List (Key×V)}
end
section
variable{a:Addr}
end
end L2
namespace Att
open PySem PySem.W PySem.Calls PyProof.Rows
variable{h:Heap}{P:Params}
def nZ:∀(ns:List Int)(vs:List Value),WellAll P h vs (ns.map WData.int)->IntsAre vs ns:=by
 intro ns
 induction ns with
 | nil =>
  intro vs w;rw[VY] at w;cases w;exact .nil
 | cons n ns ih =>
  intro vs w;rw[S0] at w;cases w with
  | cons a b =>
   cases a;exact .cons _ _ (ih _ b)
def zA{l:OpenLaw}{n:Nat}(hn:l.most=some n){args:List WData}{vals:List Value}(zP:l.row.toRowW.claim.pre args=true)(hwl:WellAll P h vals args):∃a vs ns,vals=[SN a]/\args=[WData.list (ns.map WData.int)]/\h.get? a=some { cls:=.type "list",data:=.seq vs.toArray }/\IntsAre vs ns/\ns.length<=n:=by
 have DO:WShape.hasAll [] args [.list .int]=true:=(pre_splitW zP).1;have hc:l.pre.holds [] { args:=args }=true:=(pre_splitW zP).2;obtain⟨d,r,rfl,h1,h2⟩:=hasAllW_cons DO;obtain rfl:=hasAllW_nil h2;obtain⟨xs,rfl,h3⟩:=hasW_list h1;obtain⟨ns,rfl⟩:=items_int h3;have hlen:ns.length<=n:=by
  unfold OpenLaw.pre at hc;have h4:(WTm.not (.lt (.lit (.int (n:Int))) (.len (.arg 0)))).holds [] { args:=[.list (ns.map .int)] }=true:=by
   have h4:=(holds_andW hc).1;rwa[hn] at h4
  have h5:=condW_of h4 (w_not (w_lt w_lit (w_len_list (w_arg rfl))));rw[SG] at h5;refine Nat.le_of_not_lt λq=>?_;have q':(n:Int)<((ns.length:Nat):Int):=by lia
  first
   | (rw[decide_eq_true q'] at h5;exact absurd h5 ↑12)
   | (simp at h5;lia)
 cases hwl with
 | cons w1 w2 =>
  cases w2;cases w1 with
  |list ho PX=>exact⟨_,_,ns,rfl,rfl,ho,nZ ns _ PX,hlen⟩
def zB(l:OpenLaw)(args:List WData):l.row.toRowW.claim.post args (.bool true) args=true :=
 postW_of (r:=l.row.toRowW) (X:=(true==true))
  (show WShape.has [] (.bool true) .bool=true by first|rfl|decide|simp[WShape.has,WShape.arms,WShape.armsAll])
  (show (WTm.eq .res (.lit (.bool true))).value [] { args:=args,res:=some (.bool true),after:=args }=some (.bool (true==true)) from w_eq_bool (w_res rfl) w_lit) rfl
section
variable{prog:Program}{w:World}{A:Around}{E:Value->Shared->Prop}{s:Shared}{K:Frag}
end
end Att
namespace L2
open PySem PySem.Spec PyProof.Rows
theorem sq:∀{vs:List Value}{ns:List Int},IntsAre vs ns->Vals (ns.map V.int) vs
 | _,_,.nil=>.nil
 |_,_,.cons n t h=>.cons ⟨t,rfl⟩ (sq h)
def Ko(H:Hp):Prop:=∀b,H b=none\/∃o xs,H b=some (.jx o (.lst xs))
variable{mg:Str->Option Value}{w:World}{P:Program}
def Cm{K:SD}{mb:Str->Option Value}{CX:JY}{k:Nat}{fa a:Addr}{fd:FuncData}{x:Str}{sp:Sp}{s₁:Shared}{vs:List Value}{ns:List Int}(KX:K.In s₁.heap)(hns:s₁.heap.Ns mainGlobals mg)(hb:s₁.heap.Ns builtinsNs mb)(RI:∀x:Str,x ≠ "__name__" -> mb x=bootBuiltins x)(hlim:s₁.heap.NoLimit)(hg:s₁.gens=#[])(ha:s₁.heap.get? a=some { cls:=.type "list",data:=.seq vs.toArray })(hi:IntsAre vs ns)(hl:ns.length<=sizeLine)(hr:bU k callerA)(F:∀base:Heap,K.In base->base.Ns mainGlobals mg->aT P w K mg base CX k fa fd [x] sp)(RX:∀(s:Shared)(u:Value),BindsTo s fd ⟨[u],[]⟩ [(x,u)])(hsp:∀H:Hp,Ko H->h9 K H a (ns.map V.int)->sp [.ref a] H (λv _=>v=.bl true) λ_ _ _=>False)(hCX:∀H e s',CX [] H s₁ (λ_ _ _=>False) e s'->False):codeAny (model P w) callerA (.call (.ref fa) ⟨[.ref a],[]⟩) (λr s'=>r=.ok (.ret (.bool true))/\OldK s₁.heap s'.heap/\s'.os=s₁.os/\AllBare s'.gens) s₁:=by
 have rv:=sq hi;have lenV:=hi.length;have core:∀H:Hp,Ko H->h9 K H a (ns.map V.int)->kI P w H s₁.heap->(∀b,H b≠none->b=a)->(H a≠none->K.lookup a=none) ->
   codeAny (model P w) callerA (.call (.ref fa) ⟨[.ref a],[]⟩) (λr s'=>r=.ok (.ret (.bool true))/\OldK s₁.heap s'.heap/\s'.os=s₁.os/\AllBare s'.gens) s₁:=by
  intro H hO hS br hA hK;have Qq:∀{b:Addr}{o:Obj},s₁.heap.get? b=some o->H b=none->(tF s₁.heap H).get? b=some o:=λe n=>Ci e n;have lR:∀{b:Addr}{o:Obj}{es:Array DictEntry}{ep:Nat},s₁.heap.get? b=some o->o.data=.dict es ep->H b=none:=λ{b o es ep} e d=>by
   cases q:H b with
   | none=>rfl
   | some u =>
    have e':b=a:=hA b (by rw[q];simp);subst e';rw[ha] at e;cases e;have d':Data.seq vs.toArray _=Data.dict es ep:=d;cases d'
  have nsK:∀{b:Addr}{m:Str->Option Value},s₁.heap.Ns b m->(tF s₁.heap H).Ns b m:=λ{b m} ⟨o,es,ep,e,d,r⟩=>⟨o,es,ep,Qq e (lR e d),d,r⟩
  have hKb:K.In (tF s₁.heap H):=λb o e=>Qq (KX b o e) (by
   cases q:H b with
   | none=>rfl
   | some u =>
    have e':b=a:=hA b (by rw[q];simp);subst e';rw[hK (by rw[q];simp)] at e;cases e)
  have hM:Mod K mg (tF s₁.heap H):=⟨hKb,nsK hns,⟨mb,nsK hb,RI⟩,let ⟨mc,h1,h2⟩:=hlim;⟨mc,nsK h1,h2⟩⟩
  have e0:wj P w K mg (tF s₁.heap H) callerA [] s₁ H:=⟨rfl,hM,λb o e=>Fs e,YT (zh _ _),trivial,λb hb=>absurd (show b∈([]:List Addr) from hb) ↑13,br,.of_eq hg⟩
  refine YZ ((F _ hKb (nsK hns)).run callerA [] s₁ H ⟨[.ref a],[]⟩ [.ref a] [.ref a] _ _ hr e0 (RX s₁ (.ref a)) (.cons rfl .nil) (hsp H hO hS)) λr s' h=>?_;cases r with
  | error e=>exact(hCX H e s' h).elim
  | ok fl =>
   cases fl with
   | next=>exact VH h
   | brk=>exact VH h
   | cont=>exact VH h
   | ret u =>
    obtain⟨v,H',os,bare,un,hok',r',q⟩:=h;have q':v=.bl true:=q;subst q';obtain rfl:u=Vt true:=r';refine⟨rfl,OldK.of_keep λb o e=>?_,os,bare⟩;cases q:H b with
    | none=>exact un.keep b o e q (by intro z;exact absurd (show b∈([]:List Addr) from z) ↑13) ↑13
    | some u =>
     rcases hO b with z|⟨ob,xs,z⟩
     .rw[q] at z;cases z
     .have z2:=un.m7 b ob _ z;obtain⟨e1,_⟩:=br b _ z;obtain⟨e2,_⟩:=hok' b _ z2;rw[e] at e1;cases e1;exact e2
 cases hk:K.lookup a with
 | some o =>
  have e:=KX a o hk;rw[ha] at e;cases e;refine core (λ_=>none) (λ_=>.inl rfl) (.inr ⟨_,vs.toArray,_,hk,rfl,rfl,rfl,by rwa[S2,lenV],by simpa using rv⟩) (λb u z=>by have z':(none:Option HO)=some u:=z;cases z') (λb z=>absurd rfl z) λz=>absurd rfl z
 | none =>
  refine core (λb=>if b=a then some (.jx { cls:=.type "list",data:=.seq vs.toArray } (.lst (ns.map V.int))) else none) (λb=>?_) (.inl (.inr ⟨{ cls:=.type "list",data:=.seq vs.toArray },if_pos rfl⟩)) (λb u z=>?_) (λb z=>?_) λ_=>hk
  .by_cases hb:b=a
   .exact .inr ⟨_,_,if_pos hb⟩
   .exact .inl (if_neg hb)
  .by_cases hb:b=a
   .have z':=(if_pos hb).symm.trans z;cases z';subst hb;exact⟨ha,by rwa[SG],vs,_,rv,ha⟩
   .have z':=(if_neg hb).symm.trans z;cases z'
  .by_cases hb:b=a
   .exact hb
   .exact absurd (if_neg hb) z
def inClass(s:Stmt)(j:Nat):Stmt:=match s with
 | .ClassDef _ _ _ body _ _ _ _ _ _ _=>body.getD j (.Pass ⟨0,0,0,0⟩)
 |_=>.Pass ⟨0,0,0,0⟩
def gP(s:Stmt):Arguments:=match s with
 | .FunctionDef _ a _ _ _ _ _ _ _ _=>a
 |_=>{ posonlyargs:=[],args:=[],vararg:=none,kwonlyargs:=[],kw_defaults:=[],kwarg:=none,defaults:=[] }
def eM(s:Stmt):List Stmt:=match s with
 | .FunctionDef _ _ b _ _ _ _ _ _ _=>b
 |_=>[]
def aZ(s:Stmt):Scope:=match s with
 | .FunctionDef _ _ _ _ _ _ sc _ _ _=>sc
 |_=>{ kind:=.function,names:=[],isGenerator:=false,isCoroutine:=false }
section
variable{K:SD}{base:Heap}
end
def ni{n:Nat}(h:n<=1000):n<sizeLine:=UY h ↑12
section
variable{X:Cx}
end
def aQ(H H':Hp):Prop:=∀b o,H b=some o->H' b=some o
end L2
section
namespace HD
open PySem PySem.W L2
abbrev pw:Program:=PySem.Challenge.pw_dialvault_k22_steps_of_small_vaults
noncomputable section
noncomputable def st(s:String)(t:Nat):Value:=.str (Tp s) t
def en(P:Params)(s:String)(t:Nat)(v:Value):DictEntry:=⟨PyData.keyHash P (Tp s),st s t,v⟩
def tu(xs:List Value):Obj:=⟨.type "tuple",none,.seq ⟨xs⟩ 0,⟨[]⟩⟩
def di(n:Nat)(es:List DictEntry):Obj:=⟨.type "dict",none,.dict ⟨es⟩ n,⟨[]⟩⟩
def tp(i:Nat):Stmt:=pw.main.body.getD i (.Pass ⟨0,0,0,0⟩)
def mp(i j:Nat):Stmt:=inClass (tp i) j
def co(a b:String)(t:Nat)(l n:Int)(x1 x2 x3 x4 x5:Nat)(u:Nat):Obj:=⟨.type "code",none,.fields ⟨[st a t,st b (t+1),st "/claim/cut.py" (t+2),.int l 0,.int n 0,.int 0 0,.int 0 0,.int 3 0,.ref x1,.bool true,.int 181 0,.ref x2,.none,.ref x3,.ref x4,.ref x5,.int u 0,.int l 0,st "/claim/cut.py" (u+1)]⟩,⟨[]⟩⟩
def ft(a b:String)(s:Stmt):Obj:=⟨.none,none,.func ⟨Tp a,Tp b,gP s,.stmts (eM s),aZ s,0,[],.none,.none,.none,.none,none,.none,.none,0⟩,⟨[]⟩⟩
def fo(a b:String)(s:Stmt)(df pm:Value)(cd:Nat):Obj:=⟨.type "function",none,.func ⟨Tp a,Tp b,gP s,.stmts (eM s),aZ s,3,[],df,.none,.none,pm,none,.ref cd,.none,0⟩,⟨[]⟩⟩
def G6:List Obj->List Obj
 | []=>[]
 | [a]=>[a]
 |a::_::r=>a::G6 r
def bt:Nat->List Obj->BT
 | 0,_=>.nil
 | _+1,[]=>.nil
 |n+1,a::r=>.node a (bt n (G6 r)) (bt n (G6 (r.drop 1)))
def S(L:Params->List Obj)(n k:Nat)(w:World)(os:OsState):SharedT:=⟨bt 14 (L w.params),n,{},⟨[]⟩,⟨0,0,0,0⟩,k,os⟩
def F(L:Params->List Obj)(k:Nat)(w:World)(os:OsState):Shared:=⟨⟨⟨L w.params⟩,{}⟩,⟨[]⟩,⟨0,0,0,0⟩,k,os⟩
def cc(a:String)(t:Nat)(l:Int)(x y u:Nat):Obj:=⟨.type "code",none,.fields ⟨[st a t,st a (t+1),st "/claim/cut.py" (t+2),.int l 0,.int 0 0,.int 0 0,.int 0 0,.int 0 0,.ref x,.bool false,.int 181 0,.ref y,.none,.none,.none,.none,.int u 0,.int l 0,st "/claim/cut.py" (u+1)]⟩,⟨[]⟩⟩
def fr(a b:Nat)(s:String)(t:Nat):Obj:=⟨.type "frame",none,.plain,⟨[some (.ref a),some (.ref 3),some (.ref b),none,some (st s t),none,some (.ref 0)]⟩⟩
def su(a:Nat):Obj:=⟨.type "super",none,.fields ⟨[.ref a,.ref a,.ref a]⟩,⟨[]⟩⟩
def ii(a:Nat):Obj:=⟨.type "builtin_function_or_method",none,.fields ⟨[.builtin "object.__init_subclass__",.ref a]⟩,⟨[]⟩⟩
def v5:List Nat->List Value
 | a::b::c::r=>.int a 0::.int b 0::.ref c::v5 r
 |_=>[]
def fi(xs:List Nat):Obj:=⟨.none,none,.fields ⟨v5 xs⟩,⟨[]⟩⟩
def cl(n:Str)(bs ms:List Value)(k:Nat)(ss:List Value)(sl:List (Option Value)):Obj:=⟨.type "type",none,.cls ⟨n,bs,ms,k,n,true,[],ss,false,none,false⟩,⟨sl⟩⟩
def pt(L:List Obj)(us:List (Nat×Obj))(ns:List Obj):List Obj:=us.foldl (λl u=>l.set u.1 u.2) L++ns
abbrev b0:=boot_o_0
abbrev b1:=boot_o_1
abbrev b2:=boot_o_2
abbrev b3:=boot_o_3
abbrev b4:=boot_o_4
abbrev b5:=boot_o_5
abbrev b6:=boot_o_6
abbrev b7:=boot_o_7
abbrev b8:=boot_o_8
abbrev b9:=boot_o_9
abbrev N6:=boot_o_10
def m0:Value:=st "__main__" 164
def m1:Value:=st "dialvault.errors" 194
def m2:Value:=st "dialvault.wholes" 363
def m3:Value:=st "dialvault.vault" 405
def m4:Value:=st "dialvault.rungs" 541
def m5:Value:=st "law_dialvault_k22_steps_of_small_vaults" 709
def nl:List String->Nat->List Value
 | [],_=>[]
 |x::r,t=>st x t::nl r (t+1)
def fA(P:Params)(a t:Nat)(x q:String)(s:Stmt)(l n:Int)(vs:List String)(df pm:Value):List Obj:=[b7 P,b8 P,tu (nl vs (t+3)),b7 P,ft x q s,co x q t l n a (a+1) (a+2) (a+3) (a+4) (t+3+vs.length),fo x q s df pm (a+5)]
def fT(P:Params)(a t:Nat)(x:String)(s:Stmt)(l n:Int)(vs:List String)(pm:Value):List Obj:=fA P a t x x s l n vs .none pm
def fB(P:Params)(a t:Nat)(x q:String)(s:Stmt)(l n:Int)(df pm:Value):List Obj:=[b7 P,b8 P,ft x q s,⟨.type "code",none,.fields ⟨[st x t,st q (t+1),st "/claim/cut.py" (t+2),.int l 0,.int n 0,.int 0 0,.int 0 0,.int 3 0,.ref a,.bool true,.int 181 0,.ref (a+1),.none,.none,.none,.ref (a+2),.int (t+3) 0,.int l 0,st "/claim/cut.py" (t+4)]⟩,⟨[]⟩⟩,fo x q s df pm (a+3)]
def dB(P:Params)(n t:Nat)(m:Value)(l:Int)(r:List DictEntry):Obj:=di n (en P "__module__" t m::en P "__firstlineno__" (t+4) (.int l (t+3))::r)
def dA(P:Params)(n t:Nat)(m:Value)(x:String)(l:Int)(r:List DictEntry):Obj:=di n (en P "__module__" t m::en P "__qualname__" (t+2) (st x (t+1))::en P "__firstlineno__" (t+4) (.int l (t+3))::r)
def gw(t a:Nat):Obj:=⟨.type "getset_descriptor",none,.fields ⟨[st "__weakref__" t,.ref a,.builtin "ExceptionGroup.__weakref__",.none]⟩,⟨[]⟩⟩
def gd(t a:Nat):Obj:=⟨.type "getset_descriptor",none,.fields ⟨[st "__dict__" t,.ref a,.builtin "function.__dict__",.builtin "function.__dict__#set"]⟩,⟨[]⟩⟩
def ce(x:String)(b a k:Nat)(ss:List Value)(d t u:Nat):Obj:=cl x [.ref b] [.ref a,.ref b,.type "ValueError",.type "Exception",.type "BaseException",.type "object"] k ss [some (.ref d),none,some (st x t),some (st x u),some (.builtin "ValueError.__new__"),some (.bool true)]
def gl P:=[en P "__doc__" 166 .none,en P "__package__" 167 .none,en P "__loader__" 168 (.builtin "__main__.__loader__#opaque"),en P "__spec__" 169 .none,en P "__annotations__" 170 (.ref 6),en P "__builtins__" 171 (.ref 4),en P "__file__" 173 (st "/claim/cut.py" 172),en P "__cached__" 174 .none,en P "_wall" 193 (.ref 21),en P "VaultError" 220 (.ref 38),en P "NoDial" 252 (.ref 65),en P "NoLever" 284 (.ref 91),en P "NoPrice" 316 (.ref 117),en P "NoSetting" 339 (.ref 136),en P "TooMany" 362 (.ref 155),en P "is_whole" 371 (.ref 164),en P "is_row" 377 (.ref 169),en P "common" 389 (.ref 176),en P "multiple_of" 398 (.ref 183),en P "unit_row" 404 (.ref 188),en P "MOST_DIALS" 408 (.int 6 407),en P "LEAST_SIZE" 410 (.int 2 409),en P "MOST_SIZE" 412 (.int 360 411),en P "MOST_LEVERS" 414 (.int 8 413),en P "LEAST_PRICE" 416 (.int 1 415),en P "MOST_PRICE" 418 (.int 1000 417),en P "Vault" 476 (.ref 232),en P "is_within" 485 (.ref 243),en P "need_sizes" 494 (.ref 250),en P "need_levers" 504 (.ref 257),en P "prices_for" 513 (.ref 264),en P "rests" 519 (.ref 269),en P "nought" 526 (.ref 276),en P "is_setting" 532 (.ref 281),en P "need_setting" 540 (.ref 288),en P "mixed" 548 (.ref 293),en P "mixed_made" 560 (.ref 300),en P "unpulled" 568 (.ref 307),en P "pulled_once" 577 (.ref 314),en P "step_size" 587 (.ref 321),en P "taken_in" 602 (.ref 328),en P "lowered" 614 (.ref 335),en P "in_spans" 624 (.ref 342),en P "Rungs" 708 (.ref 405),en P "_law_cell" 718 (.ref 416),en P "_law_stream" 729 (.ref 423),en P "_law_digits" 740 (.ref 430),en P "_law_sizes" 752 (.ref 437),en P "_law_levers" 765 (.ref 444),en P "_law_added" 771 (.ref 449),en P "_law_more" 783 (.ref 456),en P "_law_all_doings" 789 (.ref 461),en P "_law_step" 795 (.ref 466),en P "_law_steps_good" 801 (.ref 471),en P "_law_span" 812 (.ref 478),en P "_law_idle_good" 818 (.ref 483),en P "_law_spans_good" 833 (.ref 490),en P "_law_setting_good" 839 (.ref 495),en P "law" 854 (.ref 502)]
def LA(P:Params):List Obj:=[b0 P,b1 P,b2 P,b3 P,b4 P,b5 P,b6 P,b7 P,b8 P,b9 P,N6 P,b7 P,b8 P,cc "<module>" 182 1 11 12 185,fr 13 3 "__main__" 164]
def o9:Obj:=⟨.type "builtin_function_or_method",none,(.fields ⟨[.builtin "type.__prepare__",.type "type"]⟩),⟨[]⟩⟩
def NT:Obj:=gw 216 38
def J_:=tu [.ref 38]
def L0 P:=pt (LA P) [(3,di 15 (en P "__name__" 165 m1::(gl P).take 14)),(12,fi [1,0,20,5,0,27,9,0,47,16,0,73,23,0,99,30,0,125])] (fT P 15 187 "_wall" (tp 0) 1 1 ["k"] m0++([tu [.type "ValueError"],o9,dA P 5 203 m1 "VaultError" 5 [en P "word" 214 (.ref 35),en P "__static_attributes__" 215 (.ref 36)],b7 P,fi [7,4,34],cc "VaultError" 198 5 25 26 201,fr 27 24 "dialvault.errors" 194]++(fA P 29 208 "word" "VaultError.word" (mp 2 0) 7 1 ["self"] .none m1++([b7 P,dB P 3 203 m1 5 [en P "word" 214 (.ref 35),en P "__static_attributes__" 215 (.ref 36),en P "__weakref__" 217 (.ref 39),en P "__doc__" 218 .none],cl "VaultError" [.type "ValueError"] [.ref 38,.type "ValueError",.type "Exception",.type "BaseException",.type "object"] 37 [.ref 65,.ref 91,.ref 117,.ref 136] [some (.ref 22),none,some (st "VaultError" 196),some (st "VaultError" 204),some (.builtin "ValueError.__new__"),some (.bool true)],NT,su 38,ii 38,J_,o9,dA P 6 228 m1 "NoDial" 9 [en P "__init__" 240 (.ref 55),en P "word" 247 (.ref 62),en P "__static_attributes__" 249 (.ref 63)],b7 P,fi [11,4,54,14,4,61],cc "NoDial" 223 9 45 46 226,fr 47 44 "dialvault.errors" 194]++(fA P 49 233 "__init__" "NoDial.__init__" (mp 3 0) 11 2 ["self","dial"] .none m1++(fA P 56 241 "word" "NoDial.word" (mp 3 1) 14 1 ["self"] .none m1++([tu [st "dial" 248],dB P 2 228 m1 9 [en P "__init__" 240 (.ref 55),en P "word" 247 (.ref 62),en P "__static_attributes__" 249 (.ref 63),en P "__doc__" 250 .none],ce "NoDial" 38 65 64 [] 42 221 229,su 65,ii 65,J_,o9,dA P 6 260 m1 "NoLever" 16 [en P "__init__" 272 (.ref 81),en P "word" 279 (.ref 88),en P "__static_attributes__" 281 (.ref 89)],b7 P,fi [18,4,80,21,4,87],cc "NoLever" 255 16 71 72 258,fr 73 70 "dialvault.errors" 194]++(fA P 75 265 "__init__" "NoLever.__init__" (mp 4 0) 18 2 ["self","lever"] .none m1++(fA P 82 273 "word" "NoLever.word" (mp 4 1) 21 1 ["self"] .none m1++([tu [st "lever" 280],dB P 2 260 m1 16 [en P "__init__" 272 (.ref 81),en P "word" 279 (.ref 88),en P "__static_attributes__" 281 (.ref 89),en P "__doc__" 282 .none],ce "NoLever" 38 91 90 [] 68 253 261,su 91,ii 91,J_,o9,dA P 6 292 m1 "NoPrice" 23 [en P "__init__" 304 (.ref 107),en P "word" 311 (.ref 114),en P "__static_attributes__" 313 (.ref 115)],b7 P,fi [25,4,106,28,4,113],cc "NoPrice" 287 23 97 98 290,fr 99 96 "dialvault.errors" 194]++(fA P 101 297 "__init__" "NoPrice.__init__" (mp 5 0) 25 2 ["self","lever"] .none m1++(fA P 108 305 "word" "NoPrice.word" (mp 5 1) 28 1 ["self"] .none m1++([tu [st "lever" 312],dB P 2 292 m1 23 [en P "__init__" 304 (.ref 107),en P "word" 311 (.ref 114),en P "__static_attributes__" 313 (.ref 115),en P "__doc__" 314 .none],ce "NoPrice" 38 117 116 [] 94 285 293,su 117,ii 117,J_,o9,dA P 5 324 m1 "NoSetting" 30 [en P "word" 335 (.ref 133),en P "__static_attributes__" 336 (.ref 134)],b7 P,fi [32,4,132],cc "NoSetting" 319 30 123 124 322,fr 125 122 "dialvault.errors" 194]++(fA P 127 329 "word" "NoSetting.word" (mp 6 0) 32 1 ["self"] .none m1++([b7 P,dB P 2 324 m1 30 [en P "word" 335 (.ref 133),en P "__static_attributes__" 336 (.ref 134),en P "__doc__" 337 .none],ce "NoSetting" 38 136 135 [] 120 317 325,su 136,ii 136])))))))))))))))
def M_:Obj:=gd 470 232
def Mx:Obj:=gw 472 232
def L1 P:=pt (L0 P) [(3,di 44 (en P "__name__" 165 m4::(gl P).take 43)),(12,fi [1,0,20,5,0,27,9,0,47,16,0,73,23,0,99,30,0,125,34,0,144,39,0,163,41,0,168,45,0,175,56,0,182,61,0,187,70,0,194,91,0,242,93,0,249,101,0,256,107,0,263,116,0,268,118,0,275,120,0,280,125,0,287,129,0,292,131,0,299,134,0,306,136,0,313,139,0,320,142,0,327,151,0,334,156,0,341]),(38,cl "VaultError" [.type "ValueError"] [.ref 38,.type "ValueError",.type "Exception",.type "BaseException",.type "object"] 37 [.ref 65,.ref 91,.ref 117,.ref 136,.ref 155] [some (.ref 22),none,some (st "VaultError" 196),some (st "VaultError" 204),some (.builtin "ValueError.__new__"),some (.bool true)])] ([J_,o9,dA P 5 347 m1 "TooMany" 34 [en P "word" 358 (.ref 152),en P "__static_attributes__" 359 (.ref 153)],b7 P,fi [36,4,151],cc "TooMany" 342 34 142 143 345,fr 144 141 "dialvault.errors" 194]++(fA P 146 352 "word" "TooMany.word" (mp 7 0) 36 1 ["self"] .none m1++([b7 P,dB P 2 347 m1 34 [en P "word" 358 (.ref 152),en P "__static_attributes__" 359 (.ref 153),en P "__doc__" 360 .none],ce "TooMany" 38 155 154 [] 139 340 348,su 155,ii 155]++(fT P 158 365 "is_whole" (tp 9) 39 1 ["thing"] m2++(fB P 165 372 "is_row" "is_row" (tp 10) 41 2 .none m2++(fT P 170 378 "common" (tp 11) 45 2 ["one","other","row","behind","times","rest"] m2++(fT P 177 390 "multiple_of" (tp 12) 56 1 ["numbers","multiple","number"] m2++(fB P 184 399 "unit_row" "unit_row" (tp 13) 61 2 .none m2++([b7 P,o9,dA P 9 426 m3 "Vault" 70 [en P "__init__" 436 (.ref 201),en P "sizes" 443 (.ref 208),en P "levers" 450 (.ref 215),en P "prices" 457 (.ref 222),en P "around" 464 (.ref 229),en P "__static_attributes__" 469 (.ref 230)],b7 P,fi [72,4,200,80,4,207,83,4,214,86,4,221,89,4,228],cc "Vault" 421 70 192 193 424,fr 194 191 "dialvault.vault" 405,tu [.none]]++(fB P 197 431 "__init__" "Vault.__init__" (mp 21 0) 72 4 (.ref 196) m3++(fA P 202 437 "sizes" "Vault.sizes" (mp 21 1) 80 1 ["self"] .none m3++(fA P 209 444 "levers" "Vault.levers" (mp 21 2) 83 1 ["self"] .none m3++(fA P 216 451 "prices" "Vault.prices" (mp 21 3) 86 1 ["self"] .none m3++(fA P 223 458 "around" "Vault.around" (mp 21 4) 89 1 ["self"] .none m3++([tu [st "dial_sizes" 465,st "least_round" 466,st "lever_prices" 467,st "lever_settings" 468],dB P 4 426 m3 70 [en P "__init__" 436 (.ref 201),en P "sizes" 443 (.ref 208),en P "levers" 450 (.ref 215),en P "prices" 457 (.ref 222),en P "around" 464 (.ref 229),en P "__static_attributes__" 469 (.ref 230),en P "__dict__" 471 (.ref 233),en P "__weakref__" 473 (.ref 234),en P "__doc__" 474 .none],cl "Vault" [.type "object"] [.ref 232,.type "object"] 231 [] [none,none,some (st "Vault" 419),some (st "Vault" 427),some (.builtin "object.__new__"),some (.bool true)],M_,Mx,su 232,ii 232]++(fT P 237 477 "is_within" (tp 22) 91 3 ["thing","least","most"] m3++(fT P 244 486 "need_sizes" (tp 23) 93 1 ["sizes","dial","size"] m3++(fT P 251 495 "need_levers" (tp 24) 101 2 ["levers","dials","place","lever"] m3++(fT P 258 505 "prices_for" (tp 25) 107 2 ["levers","prices","place"] m3++(fB P 265 514 "rests" "rests" (tp 26) 116 2 .none m3++(fT P 270 520 "nought" (tp 27) 118 1 ["vault"] m3++(fB P 277 527 "is_setting" "is_setting" (tp 28) 120 2 .none m3++(fT P 282 533 "need_setting" (tp 29) 125 2 ["vault","thing"] m3++(fB P 289 543 "mixed" "mixed" (tp 31) 129 4 .none m4++(fT P 294 549 "mixed_made" (tp 32) 131 5 ["sizes","made","times","other","others","doing"] m4++(fT P 301 561 "unpulled" (tp 33) 134 2 ["vault","setting"] m4++(fT P 308 569 "pulled_once" (tp 34) 136 2 ["vault","lever","levers"] m4++(fT P 315 578 "step_size" (tp 35) 139 3 ["sizes","made_rows","dial","notch"] m4++(fT P 322 588 "taken_in" (tp 36) 142 3 ["sizes","made_rows","left","wider","dial","made","step","notch","found"] m4++(fT P 329 603 "lowered" (tp 37) 151 4 ["sizes","made_rows","made","first","dial","times"] m4++(fT P 336 615 "in_spans" (tp 38) 156 2 ["pulls","idle_rows","lever","row"] m4)))))))))))))))))))))))))))))))
def Mg:Obj:=gd 702 405
def Ms:Obj:=gw 704 405
def L2 P:=pt (L1 P) [(3,di 60 (en P "__name__" 165 m5::gl P)),(12,fi [1,0,20,5,0,27,9,0,47,16,0,73,23,0,99,30,0,125,34,0,144,39,0,163,41,0,168,45,0,175,56,0,182,61,0,187,70,0,194,91,0,242,93,0,249,101,0,256,107,0,263,116,0,268,118,0,275,120,0,280,125,0,287,129,0,292,131,0,299,134,0,306,136,0,313,139,0,320,142,0,327,151,0,334,156,0,341,161,0,348,204,0,415,208,0,422,215,0,429,222,0,436,233,0,443,244,0,448,246,0,455,255,0,460,260,0,465,265,0,470,272,0,477,279,0,482,288,0,489,300,0,494,314,0,501])] ([b7 P,o9,dA P 13 632 m4 "Rungs" 161 [en P "__init__" 642 (.ref 354),en P "steps" 648 (.ref 359),en P "rows" 654 (.ref 364),en P "spans" 660 (.ref 369),en P "idle" 667 (.ref 376),en P "brought_down" 675 (.ref 383),en P "least" 683 (.ref 390),en P "pulls_to" 689 (.ref 395),en P "weights_at" 697 (.ref 402),en P "__static_attributes__" 701 (.ref 403)],b7 P,fi [163,4,353,175,4,358,179,4,363,182,4,368,185,4,375,188,4,382,192,4,389,195,4,394,201,4,401],cc "Rungs" 627 161 346 347 630,fr 348 345 "dialvault.rungs" 541]++(fB P 350 637 "__init__" "Rungs.__init__" (mp 39 0) 163 2 .none m4++(fB P 355 643 "steps" "Rungs.steps" (mp 39 1) 175 1 .none m4++(fB P 360 649 "rows" "Rungs.rows" (mp 39 2) 179 1 .none m4++(fB P 365 655 "spans" "Rungs.spans" (mp 39 3) 182 1 .none m4++(fA P 370 661 "idle" "Rungs.idle" (mp 39 4) 185 1 ["self"] .none m4++(fA P 377 668 "brought_down" "Rungs.brought_down" (mp 39 5) 188 2 ["self","setting"] .none m4++(fA P 384 676 "least" "Rungs.least" (mp 39 6) 192 2 ["self","setting"] .none m4++(fB P 391 684 "pulls_to" "Rungs.pulls_to" (mp 39 7) 195 2 .none m4++(fA P 396 690 "weights_at" "Rungs.weights_at" (mp 39 8) 201 2 ["self","dial"] .none m4++([tu [st "idle_rows" 698,st "made_rows" 699,st "vault" 700],dB P 4 632 m4 161 [en P "__init__" 642 (.ref 354),en P "steps" 648 (.ref 359),en P "rows" 654 (.ref 364),en P "spans" 660 (.ref 369),en P "idle" 667 (.ref 376),en P "brought_down" 675 (.ref 383),en P "least" 683 (.ref 390),en P "pulls_to" 689 (.ref 395),en P "weights_at" 697 (.ref 402),en P "__static_attributes__" 701 (.ref 403),en P "__dict__" 703 (.ref 406),en P "__weakref__" 705 (.ref 407),en P "__doc__" 706 .none],cl "Rungs" [.type "object"] [.ref 405,.type "object"] 404 [] [none,none,some (st "Rungs" 625),some (st "Rungs" 633),some (.builtin "object.__new__"),some (.bool true)],Mg,Ms,su 405,ii 405]++(fT P 410 711 "_law_cell" (tp 41) 204 2 ["_law_script","_law_k"] m5++(fT P 417 719 "_law_stream" (tp 42) 208 2 ["_law_cell_here","_law_many","_law_found","_law_number","_law_k"] m5++(fT P 424 730 "_law_digits" (tp 43) 215 2 ["_law_cell_here","_law_bases","_law_found","_law_left","_law_base"] m5++(fT P 431 741 "_law_sizes" (tp 44) 222 1 ["_law_cell_here","_law_sizes_here","_law_left","_law_number","_law_k","_law_base"] m5++(fT P 438 753 "_law_levers" (tp 45) 233 2 ["_law_script","_law_sizes_here","_law_levers_here","_law_k","_law_row","_law_number","_law_size"] m5++(fB P 445 766 "_law_added" "_law_added" (tp 46) 244 4 .none m5++(fT P 450 772 "_law_more" (tp 47) 246 3 ["_law_sizes_here","_law_before","_law_row","_law_doings","_law_fresh","_law_one"] m5++(fB P 457 784 "_law_all_doings" "_law_all_doings" (tp 48) 255 2 .none m5++(fB P 462 790 "_law_step" "_law_step" (tp 49) 260 3 .none m5++(fB P 467 796 "_law_steps_good" "_law_steps_good" (tp 50) 265 3 .none m5++(fT P 472 802 "_law_span" (tp 51) 272 3 ["_law_sizes_here","_law_before","_law_row","_law_times","_law_one"] m5++(fB P 479 813 "_law_idle_good" "_law_idle_good" (tp 52) 279 5 .none m5++(fT P 484 819 "_law_spans_good" (tp 53) 288 4 ["_law_rungs","_law_sizes_here","_law_levers_here","_law_all_doings_here","_law_due","_law_lever","_law_row","_law_spans","_law_idle"] m5++(fB P 491 834 "_law_setting_good" "_law_setting_good" (tp 54) 300 5 .none m5++(fT P 496 840 "law" (tp 55) 314 1 ["_law_script","_law_sizes_here","_law_levers_here","_law_all_doings_here","_law_doings","_law_rungs","_law_k","_law_cell_here","_law_setting"] m5))))))))))))))))))))))))))
def LF(P:Params):=L2 P
def bE:List Stmt:=behindTheImports pw
def env:Env:={ scope:=pw.main.scope,locals:=mainNs,globals:=mainNs,cells:=[],code:=.ref 13,frame:=some 14 }
def cE:Code:=.body bE env
abbrev B:List Frame:=[topFrame ⟨0,0,0,0⟩]
abbrev ann:Option Value:=(some (.ref 6))
def Hn:List Stmt:=(bE.drop 0).take 7
def Jq:List Stmt:=(bE.drop 7).take 32
def Hy:List Stmt:=(bE.drop 39).take 17
end
def zP:∀w:World,(λos=>topGo treeTable pw w 11 ann 12 ⟨boot_heap w.params,⟨[]⟩,boot_drawn,boot_toks,os⟩ (topStub pw))=λos=>some (F LA 187 w os,⟨denote treeTable cE,cE,⟨0,0,0,0⟩,B⟩):=λw=>by
 rw[PySem.W.Fast.te15667345088766844465,Ua,PySem.W.Fast.te11892475500146522536]
 kernel_rfl
def MG:∀w:World,(λos=>segRun treeTable pw w 11 ann 1 1 (F LA 187 w os) (blockOf bE env cE ⟨0,0,0,0⟩ B))=λos=>some (aaK,(S LA 15 187 w os).abs,cE,⟨0,0,0,0⟩):=λw=>by
 rw[PySem.W.Fast.te14374325043358763698,Ua]
 kernel_rfl
def NF:∀w:World,(λos=>segRunT treeTable pw w 11 ann 1 1326 (S LA 15 187 w os) (piecesOf Hn env cE ⟨0,0,0,0⟩ B))=λos=>some (aaK,S L0 139 340 w os,cE,⟨30,0,33,16⟩):=λw=>by
 rw[VC,Ua]
 kernel_rfl
def NB:∀w:World,(λos=>segRunT treeTable pw w 11 ann 1 1309 (S L0 139 340 w os) (piecesOf Jq env cE ⟨30,0,33,16⟩ B))=λos=>some (aaK,S L1 343 625 w os,cE,⟨156,0,160,16⟩):=λw=>by
 rw[VC,Ua]
 kernel_rfl
def Am:∀w:World,(λos=>segRunT treeTable pw w 11 ann 1 931 (S L1 343 625 w os) (piecesOf Hy env cE ⟨156,0,160,16⟩ B))=λos=>some (aaK,S L2 503 855 w os,cE,⟨314,0,328,68⟩):=λw=>by
 rw[VC,Ua]
 kernel_rfl
def Ju:∀w:World,(λos=>topRun treeTable pw w 11 ann 2 (S L2 503 855 w os).abs ⟨doneF .next,cE,⟨314,0,328,68⟩,B⟩)=λos=>some (F LF 855 w os):=λw=>by
 rw[PySem.W.Fast.te14082659384304107361,Ua]
 kernel_rfl
def N3:bE=(Hn++(Jq++(Hy++[]))):=by kernel_rfl
def CF(w:World)(os:OsState):topRun treeTable pw w 11 ann (1326+(1309+(931+2))) (S LA 15 187 w os).abs (restOf bE env cE ⟨0,0,0,0⟩ B)=some (F LF 855 w os):=by
 rw[show restOf bE env cE ⟨0,0,0,0⟩ B=restOf (Hn++(Jq++(Hy++[]))) env cE ⟨0,0,0,0⟩ B from congrArg (λb=>restOf b env cE ⟨0,0,0,0⟩ B) N3];exact piece_app (segRun_of (congrFun (NF w) os)) (piece_app (segRun_of (congrFun (NB w) os)) (piece_app (segRun_of (congrFun (Am w) os)) (piece_nil (congrFun (Ju w) os))))
def MQ(w:World)(os:OsState):topRun treeTable pw w 11 ann (12+(1+(1326+(1309+(931+2))))) ⟨boot_heap w.params,⟨[]⟩,boot_drawn,boot_toks,os⟩ (topStub pw)=some (F LF 855 w os) :=
 go_top (congrFun (zP w) os) (piece_block (congrFun (MG w) os) (CF w os))
end HD
end
section
namespace HD
open PySem PySem.W L2
noncomputable section
def vw:Program:=PySem.W.view pw [0,2,3,4,5,6,7,9,10,11,12,13,15,16,17,18,19,20,21,22,23,24,25,26,27,28,29,31,32,33,34,35,36,37,38,39,41,42,43,44,45,46,47,48,49,50,51,52,53,54,55]
def loose:List Str:=[]
noncomputable def as:List Addr:=[2,3,15,17,18,20,21,22,29,31,32,34,35,36,37,38,39,42,49,51,52,54,55,56,58,59,61,62,63,64,65,68,75,77,78,80,81,82,84,85,87,88,89,90,91,94,101,103,104,106,107,108,110,111,113,114,115,116,117,120,127,129,130,132,133,134,135,136,139,146,148,149,151,152,153,154,155,158,160,161,163,164,165,168,169,170,172,173,175,176,177,179,180,182,183,184,187,188,196,197,200,201,202,204,205,207,208,209,211,212,214,215,216,218,219,221,222,223,225,226,228,229,230,231,232,233,234,237,239,240,242,243,244,246,247,249,250,251,253,254,256,257,258,260,261,263,264,265,268,269,270,272,273,275,276,277,280,281,282,284,285,287,288,289,292,293,294,296,297,299,300,301,303,304,306,307,308,310,311,313,314,315,317,318,320,321,322,324,325,327,328,329,331,332,334,335,336,338,339,341,342,350,353,354,355,358,359,360,363,364,365,368,369,370,372,373,375,376,377,379,380,382,383,384,386,387,389,390,391,394,395,396,398,399,401,402,403,404,405,406,407,410,412,413,415,416,417,419,420,422,423,424,426,427,429,430,431,433,434,436,437,438,440,441,443,444,445,448,449,450,452,453,455,456,457,460,461,462,465,466,467,470,471,472,474,475,477,478,479,482,483,484,486,487,489,490,491,494,495,496,498,499,501,502]
def K(P:Params):Frag:=as.map λa=>(a,(LF P).getD a (su 0))
def hook:Hook:=kHook K as (λ_=>by kernel_rfl)
abbrev rr:RowW:=(PySem.Challenge.rw_dialvault_k22_steps_of_small_vaults.row).toRowW
def Xt:Shared->Bool:=λs=>xlAt vw [] s&&recOk (RowW.records rr) s
def H1(P:Params):Heap:=⟨⟨LF P⟩,{}⟩
end
def KN:∀w:World,((boot_heap w.params).isNs mainGlobals&&(Array.mk []:Array GenState).size==0,(boot_heap w.params).objs.size,(boot_heap w.params).nsMap mainGlobals "__annotations__")=(true,11,ann):=λw=>by
 rw[PySem.W.Fast.te8920871248978507458]
 kernel_rfl
def NL(w:World):staticsOk (importedModules pw.main.body) (boot_heap w.params) (H1 w.params)=true:=by
 first|(rw[S_,Tc];kernel_rfl)|(rw[S_];kernel_rfl)|(rw[Tc];kernel_rfl)|(kernel_rfl)
def NN(w:World):namesBound pw (H1 w.params)=true:=by
 first|(rw[S_,Tc];kernel_rfl)|(rw[S_];kernel_rfl)|(rw[Tc];kernel_rfl)|(kernel_rfl)
def Nz(w:World)(os:_):gensDone ⟨H1 w.params,⟨[]⟩,⟨0,0,0,0⟩,855,os⟩=true:=by
 first|(rw[S_,Tc];kernel_rfl)|(rw[S_];kernel_rfl)|(rw[Tc];kernel_rfl)|(kernel_rfl)
def ND(w:World):laidKept (boot_heap w.params) (H1 w.params)=true:=by
 first|(rw[S_,Tc];kernel_rfl)|(rw[S_];kernel_rfl)|(rw[Tc];kernel_rfl)|(kernel_rfl)
def NV(w:World)(os:_):openSeen vw loose (importedModules pw.main.body) Xt true ⟨H1 w.params,⟨[]⟩,⟨0,0,0,0⟩,855,os⟩=openGood vw loose:=by
 first|(rw[S_,Tc];kernel_rfl)|(rw[S_];kernel_rfl)|(rw[Tc];kernel_rfl)|(kernel_rfl)
def N7(w:World)(os:_):Hook.obs hook ⟨H1 w.params,⟨[]⟩,⟨0,0,0,0⟩,855,os⟩=Hook.val hook w:=by
 first|(rw[S_,Tc];kernel_rfl)|(rw[S_];kernel_rfl)|(rw[Tc];kernel_rfl)|(kernel_rfl)
def HU:∀w:World,(λos=>((staticsOk (importedModules pw.main.body) (boot_heap w.params) (H1 w.params)&&namesBound pw (H1 w.params)&&gensDone ⟨H1 w.params,⟨[]⟩,⟨0,0,0,0⟩,855,os⟩&&laidKept (boot_heap w.params) (H1 w.params)),openSeen vw loose (importedModules pw.main.body) Xt true ⟨H1 w.params,⟨[]⟩,⟨0,0,0,0⟩,855,os⟩,Hook.obs hook ⟨H1 w.params,⟨[]⟩,⟨0,0,0,0⟩,855,os⟩))=λ_=>(true,openGood vw loose,Hook.val hook w):=λw=>funext λos=>by
 rw[NL,NN,Nz,ND,NV,N7];rfl
def KU:LeftO pw vw loose Xt (Hook.obs hook) (Hook.val hook) 7252 :=
 LeftO.of_pieces (H₀:=boot_heap) (H₁:=H1) (gs₀:=⟨[]⟩) (gs₁:=⟨[]⟩) (d₀:=boot_drawn) (d₁:=⟨0,0,0,0⟩) (k₀:=boot_toks) (k₁:=855) (m₀:=11) (ann:=ann) (M:=(12+(1+(1326+(1309+(931+2))))))
  (boot_open ↑10 ↑10 (λs=>by kernel_rfl)) KN MQ ↑10 HU
end HD
end
section
open PySem PySem.W
def HD.said:PySem.Challenge.rw_dialvault_k22_steps_of_small_vaults.wellSaid=true:=by
 decide +kernel
end
namespace L2
open PySem PySem.Spec PyProof.Rows
variable{X:Cx}
variable{n:Nat}
def AX(_ j:Int):Prop:=j≠0/\j.natAbs.log2<9000
def CG:gf X (binaryOp .FloorDiv) (rI AX λi j=>.int (i.fdiv j)):=MU λ_ _ _ _ _ _ _ hc q=>floordiv_int hc.1 q (.inl (PyProof.noPylong_of_log2 hc.2))
def D9:gf X (binaryOp .Mult) (rI (λi j=>IntMulOk i j) λi j=>.int (i*j)):=MU λ_ _ _ _ _ _ _ hc q=>mul_int q hc
def Bu{a b:Int}{m:Nat}(ha:a.natAbs<2^m)(hb:b.natAbs<2^n)(h:m+n<=134217728):IntMulOk a b:=IntMulOk.of_le (intBits_le_iff.mpr ha) (intBits_le_iff.mpr hb) h
def CK:bootBuiltins "isinstance"=some (.builtin "isinstance"):=by decide +kernel
def Hi:bootBuiltins "int"=some (.type "int"):=by decide +kernel
def xN:bootBuiltins "bool"=some (.type "bool"):=by decide +kernel
def gF:bootBuiltins "tuple"=some (.type "tuple"):=by decide +kernel
def lE:bootBuiltins "list"=some (.type "list"):=by decide +kernel
def Mm(K:SD):List V->Hp->VK->Prop:=λxs H Q=>∃x T t b,xs=[x,.ty T]/\jJ K H x t/\Vo K t (.type T)=some b/\Q (.bl b) H
def CP:cv X (.builtin "isinstance") (Mm X.K):=by
 intro N9 s σ H xs us Q I r h;obtain⟨x,T,t,b,rfl,ty,e,q⟩:=h;cases r with
 | cons r1 r2 =>
  cases r2 with
  | cons r3 r4 =>
   cases r4;cases (show _=Uy T from r3);exact yE I r1 ty e λtk=>⟨.bl b,H,I.tok tk,rfl,q⟩
section
variable(K:SD)
end
variable{ch:List Addr}{t':Nat}{h':Heap}{s:Shared}{H:Hp}{σ:St}{N9:List (Addr×Obj)}
variable{x1:Nat}{elts:List Expr}{w:World}{P:Program}
def Inv.kj{a:Addr}{o:HO}(I:Inv X N9 σ H s)(k:∀b u,b ∉ ch->s.heap.get? b=some u->h'.get? b=some u)(P6:∀b∈ch,lj X N9 H b)(hp:s.heap.objs.size<=a)(hl:∀b∈ch,∃u,s.heap.get? b=some u)(new:bf X.prog X.w (upd H a o) h' a o):Inv X N9 σ (upd H a o) { s with heap:=h',toks:=t' }:=by
 have ne:∀b u,s.heap.get? b=some u->b≠a:=λb u e=>SW (S8 (SK e) hp);have Ra:H a=none:=I.br.fresh hp;have QV:∀b u,H b=some u->b ∉ ch:=λb u e z=>by rw[(P6 b z).1] at e;cases e
 have So:∀b u,H b=some u->b≠a:=λb u e z=>by rw[z,Ra] at e;cases e
 refine I.step (g':=s.gens) (d':=s.drawn) (ch:=ch) (λb hb=>?_) (λb u _ _ hc e _=>k b u hc e) (λb u _ _ hc e _=>⟨u.slots,k b u hc e⟩)
  (λb u _ e n=>by rwa[au (ne b u e)]) (λb u hc e=>⟨u,k b u hc e⟩)
  (λb xs e=>by rwa[au (So b _ e)]) (λb ob u e=>by rwa[au (So b _ e)]) (λb ps e=>⟨#[],by rw[au (So b _ e),e];simp⟩) (λm hm=>?_) (λb u e=>?_) I.bare
 .obtain⟨_,f1,_,f3,f4,f5⟩:=P6 b hb;exact⟨f3,f1,f4,f5⟩
 .obtain⟨ob,es,ep,ho,r⟩:=hm;exact⟨ob,es,ep,k _ ob (λz=>(P6 _ z).2.1 rfl) ho,r⟩
 .by_cases z:b=a
  .subst z;rw[ay] at e;cases e;exact new
  .rw[au z] at e;refine(I.br b u e).qE (λc v hc q=>k c v ?_ q) (λc q=>?_) λc ys q=>?_
   .rcases hc with z'|z'
    .rw[z'];exact QV b u e
    .exact QV c _ z'
   .rw[au (So c _ q)];exact q
   .rw[au (So c _ q)];exact q
def HG (K : SD)(a : Addr) : It :=
  ⟨λi H => ∃xs x,h9 K H a xs /\ xs[i]? = some x,
   λi H y H' => ∃p x,H p=none /\ y=.ref p /\ H'=upd H p (.tup [.int i,x]) /\ ∀xs,h9 K H a xs -> xs[i]? = some x,
   λi H => ∃xs,h9 K H a xs /\ xs.length <= i⟩
theorem yT{K:SD}{tp:Pos}(a e it:Addr)(Qi:e≠it):Turn P w K (.Tuple elts x1 tp) (HG K a) [e,it] e (λi h=>(∃old,IsEnum h e it i old)/\h.IsListIter it a i) where
 mem:=by simp
 obj:=λi h st b hb=>by
  obtain⟨⟨old,he⟩,⟨o,e1,c,d⟩⟩:=st;rcases SQ.mp hb with z|z
  .subst z;exact⟨_,he,λv z=>by cases z⟩
  .have z':b=it:=by simpa using z
   subst z';exact⟨o,e1,λv z=>by rw[d] at z;cases z⟩
 keep:=λi h h' st k=>by
  obtain⟨⟨old,he⟩,hit⟩:=st;exact⟨⟨old,k e ↑13 _ he⟩,hit.at λo x=>k it ↑13 o x⟩
 item:=by
  intro X hP hw hK hc i N9 s σ H E I hf st hg;subst hP hw hK;obtain⟨xs,x,hq,hx⟩:=hg;obtain⟨Ob,rv,p,hz⟩:=I.list hq;obtain⟨u,hu,ru⟩:=rv.get hx;obtain⟨⟨old,he⟩,hit⟩:=st;have QK:e<s.heap.objs.size:=SK he;have Ru:it<s.heap.objs.size:=by obtain⟨_,z,_⟩:=hit;exact SK z
  refine wpAny_pyNext_enum_item he hit p.isList (x:=u) (by simpa using hu) Qi λh' ho Rv hT hsz hk=>⟨_,rfl,?_⟩
  refine X9 (s:={ s with heap:=h',toks:=s.toks+1 }) ho λh2 he2 Py=>?_;have QS:∀b o,b ∉ [e,it]->s.heap.get? b=some o->h2.get? b=some o:=λb o hb q=>by
   have n1:b≠e:=λz=>hb (by simp[z]);have n2:b≠it:=λz=>hb (by simp[z]);exact(Py.2 b n1).trans (hk b o n1 n2 q)
  have Q7:h2.get? s.heap.objs.size=some { cls:=.type "tuple",data:=.seq #[.int i s.toks,u] }:=(Py.2 _ (Uu QK)).trans hT;have I2:Inv X N9 σ (upd H s.heap.objs.size (.tup [.int i,x])) { s with heap:=h2,toks:=s.toks+1 } :=
   I.kj (ch:=[e,it]) QS hf (SE _) (λb hb=>by
    rcases SQ.mp hb with z|z
    .subst z;exact⟨_,he⟩
    .have z':b=it:=by simpa using z
     subst z';obtain⟨o,z,_⟩:=hit;exact⟨o,z⟩)
    ⟨by show 2<=sizeLine;decide,[.int i s.toks,u],.cons ⟨_,rfl⟩ (.cons ru .nil),⟨_,Q7,rfl,_,rfl⟩⟩
  have Pu:H s.heap.objs.size=none:=I.br.fresh (SE _);refine⟨.ref s.heap.objs.size,_,I2,rfl,⟨_,x,Pu,rfl,rfl,λys hy=>by rwa[I.qi hy hq]⟩,⟨⟨u,by simpa using he2⟩,Rv.at λo z=>(Py.2 it (UN Qi)).trans z⟩,λb hb=>?_⟩;have nb:b≠s.heap.objs.size:=by
   rcases SQ.mp hb with z|z
   .rw[z];exact SW QK
   .have z':b=it:=by simpa using z
    rw[z'];exact SW Ru
  rw[au nb];exact(hf b hb).1
 done:=by
  intro X hP hw hK hc i N9 s σ H E I hf st hg;subst hP hw hK;obtain⟨xs,hq,hx⟩:=hg;obtain⟨Ob,rv,p,hz⟩:=I.list hq;have hl:=rv.length;obtain⟨⟨old,he⟩,hit⟩:=st;obtain⟨f0,f1,f2,f3,f4,f5⟩:=hf it ↑13;exact wpAny_pyNext_enum_end (I.ok.hd hc) he hit p.isList (by simp;lia) λh' eb=>⟨rfl,I.turned (t':=s.toks) (λb o hb e=>eb b o hb e) f0 f1 f3 f4 f5⟩
 self:=λ_ _ _ _ _ st h=>by
  obtain⟨⟨old,he⟩,_⟩:=st;exact W8 he h
variable{A:Around}{prog:Program}
variable{scope:Scope}{ifs:List Expr}{elt iter:Expr}
section
variable{R:Result->Shared->Prop}
def zC{target:Expr}{pos:Pos}{it acc:Value}{env:Env}(I:Nat->Shared->Prop)
  (turn:∀n s,I n s->wpAny ↑11 A (pyNext it) (λr s₁=>match r with
   | none=>R (.ok .next) s₁
   | some v=>wpAny ↑11 A (letOwnedTupleGo target it v) (λ_ s₂=>wpAny ↑11 A (assign target env v) (λ_ s₃ =>
     wpAny ↑11 A (forIn ifs true λc r=>if r=true then do let ok <- isTrue c env (eval c env);pure (Zs ok) else pure (Zs r)) (λok s₄ =>
      if ok=true then wpAny ↑11 A (eval elt env) (λx s₅ =>
       wpAny ↑11 A (call (.builtin "list.append") [acc,x]) (λ_ s₆=>∃m,m<n/\I m s₆) (λ_ _=>False) s₅) (λ_ _=>False) s₄
      else ∃m,m<n/\I m s₄) (λ_ _=>False) s₃) (λ_ _=>False) s₂) (λ_ _=>False) s₁) (λ_ _=>False) s)
  (n:Nat) (h:I n s) :
  codeAny ↑11 A (.compLoop (.ListComp elt [⟨target,iter,ifs,0⟩] scope pos) 0 it acc env) R s:=by
 refine codeAny_loop rfl I (λn s hI=>?_) n h;show wpAny _ A ((compTurn (.ListComp elt [⟨target,iter,ifs,0⟩] scope pos) 0 it acc env).onRaise (λx=>do noteFrame x env;theTreesLotGoes x)) _ _ s;refine wpAny_noted ?_;rw[compTurn_list];refine Rz (Yw (Rz (Vc (turn n s hI) (λr s₁ h₁=>?_) λ_ _ h'=>h'.elim)));cases r with
 | none=>exact SA h₁
 | some v =>
  refine Rz (Vc h₁ (λ_ s₂ h₂=>Rz (Vc h₂ (λ_ s₃ h₃=>Rz (Vc h₃ (λok s₄ h₄=>?_) λ_ _ h'=>h'.elim)) λ_ _ h'=>h'.elim)) λ_ _ h'=>h'.elim);cases ok with
  | false=>exact SA ⟨rfl,h₄⟩
  | true =>
   exact Rz (Rz (Vc h₄ (λx s₅ h₅=>Rz (Vc h₅ (λ_ s₆ h₆=>SA (SA ⟨rfl,h₆⟩)) λ_ _ h'=>h'.elim)) λ_ _ h'=>h'.elim))
end
def qq(X:Cx)(scope:Scope)(cl:List (Str×Addr))(N:List Str)(C:Addr)(s₀:Shared)(H₀:Hp)(ex:List Addr)(N9:List (Addr×Obj)):Cx :=
 { X with N:=N,s₀:=s₀,H₀:=H₀,env:=compEnvC scope cl C X.env,outer:=X.stack,stack:=X.stack,ex:=ex,fn:=λ_=>false,pn:=X.pn++N9,xe:=λ_ _=>False }
inductive iR (X:Cx) (sc:Scope) (cl:List (Str×Addr)):List Str->List Nat->Prop where
 | nil:iR X sc cl [] []
 |cons {x:Str} {j:Nat} {c:Addr} {fs:List Str} {js:List Nat} (hN:X.N[j]?=some x) (hf:sc.names.lookup x=some .free) (hv:X.env.kindOf x=some .cell\/X.env.kindOf x=some .free) (hc:X.env.cells.lookup x=some c) (hl:cl.lookup x=some c) (r:iR X sc cl fs js):iR X sc cl (x::fs) (j::js)
inductive eI (X:Cx):List (Str×Addr)->Prop where
 | nil:eI X []
 |cons {x:Str} {c:Addr} {r:List (Str×Addr)} (h:X.env.cells.lookup x=some c) (t:eI X r):eI X ((x,c)::r)
theorem eI.at{X:Cx}:∀{cl:List (Str×Addr)},eI X cl->∀x c,cl.lookup x=some c->X.env.cells.lookup x=some c
 | _,.nil,_,_,e=>by simp at e
 | _,.cons (x:=y) (c:=d) h t,x,c,e=>by
  rw[U0] at e;cases q:x==y with
  | true =>
   rw[q] at e;have e':d=c:=Th e;have q':x=y:=by simpa using q
   rwa[q',<- e']
  | false =>
   rw[q] at e;exact eI.at t x c e
def gS(cl:List (Str×Addr))(names:List (Str×NameKind)):Bool:=names.all λy=>y.2 != .free||(cl.lookup y.1).isSome
def fL(names:List (Str×NameKind)):Bool:=names.all λy=>y.2 != .cell
def g_(names:List (Str×NameKind)):Bool:=names.all λy=>y.2 != .local||(names.lookup y.1==some .local)
def ff(ts:List Str)(js:List Nat)(σ:St):St:=ts.map (λ_=>none)++js.map λj=>(σ[j]?).join
def yh(wi:TI)(g:TG)(tt:Option TT)(te:TE)(ts:List Str)(js:List Nat):TE:=fun σ H Q=>wi σ H λJ H1=>∀D,H1 D=none ->
 ∃ W:Nat->Nat->St->Hp->Prop,(∃m,W 0 m (ff ts js σ) (upd H1 D (.lst [])))/\∀i m σ' H',W i m σ' H' ->
  (J.stop i H'/\Q (.ref D) H')\/(J.go i H'/\∃N:St->Hp->Prop,(∀σ'' H'',N σ'' H''->∃m',m'<m/\W (i+1) m' σ'' H'') ∧
   ∀ x H2,J.uv i H' x H2->g x σ' H2 fun σ2 H3=>match tt with
    | none=>te σ2 H3 λy H4=>∃ys,H4 D=some (.lst ys)/\ys.length<sizeLine/\N σ2 (upd H4 D (.lst (ys++[y])))
    |some t=>t σ2 H3 λb RO=>if b=true then te σ2 RO λy H4=>∃ys,H4 D=some (.lst ys)/\ys.length<sizeLine/\N σ2 (upd H4 D (.lst (ys++[y]))) else N σ2 RO)
variable{x:Str}{C:Addr}
def o7 {cl : List (Str × Addr)}{env : Env}(h : (compEnvC scope cl C env).kindOf x=some .cell \/ (compEnvC scope cl C env).kindOf x=some .free)(nc : fL scope.names=true) : scope.names.lookup x=some .free := by
  have key : ∀(names : List (Str × NameKind)),fL names=true ->
      ((names.map λ(n,k) => if (k == Xs && env.scope.kind == .function && env.kindOf n == some .cell) then (n,Z8) else (n,k)).lookup x=some .cell ∨
       (names.map λ(n,k) => if (k == Xs && env.scope.kind == .function && env.kindOf n == some .cell) then (n,Z8) else (n,k)).lookup x=some .free) -> names.lookup x=some .free := by
    intro names
    induction names with
    | nil => intro _ h; simp at h
    | cons p r ih =>
      obtain ⟨n,k⟩ := p;intro nc h;have nc' : (k != .cell)=true /\ fL r=true := by
        unfold fL at nc;rw [List.all_cons,Ui] at nc;exact nc
      rw [S0] at h;dsimp only at h
      by_cases hc : (k == Xs && env.scope.kind == .function && env.kindOf n == some .cell)=true
      . rw [if_pos hc] at h;rw [U0] at h ⊢;cases q : x == n with
        | true =>
          have : k=.free := by
            rw [Ui,Ui] at hc;simpa using hc.1.1
          rw [this]
        | false =>
          rw [q] at h;exact ih nc'.2 h
      . rw [if_neg hc] at h;rw [U0] at h ⊢;cases q : x == n with
        | true =>
          rw [q] at h;have nk : k ≠ .cell := by simpa using nc'.1
          rcases h with h|h
          . exact absurd (Th h) nk
          . exact h
        | false =>
          rw [q] at h;exact ih nc'.2 h
  exact key scope.names nc h
variable{js:List Nat}{ts:List Str}{te:TE}{tt:Option TT}{Oy:Pos}{tg:Expr}
theorem pX{cl:List (Str×Addr)}{pos:Pos}{wi:TI}{g:TG}{fs:List Str}(Ow:X.calm=true)(OB:closureFor scope X.env=pure cl)(hk:scope.kind=.function)(nc:fL scope.names=true)(lo:g_ scope.names=true)(fh:gS cl scope.names=true)(ag:eI X cl)(fr:iR X scope cl fs js)(hi:PI X tg iter wi)(hg:∀C s₀ H₀ ex N9,PG (qq X scope cl (ts++fs) C s₀ H₀ ex N9) tg g)(ht:∀C s₀ H₀ ex N9,match ifs,tt with|[],none=>True|[c],some t=>PT (qq X scope cl (ts++fs) C s₀ H₀ ex N9) c t|_,_=>False)(he:∀C s₀ H₀ ex N9,PE (qq X scope cl (ts++fs) C s₀ H₀ ex N9) elt te)(hs:∀x,foldedSetIterable iter X.env x=pure x){Q:VK}(I:Inv X N9 σ H s)(h:yh wi g tt te ts js σ H Q)(use:Option (Value->Sem Unit))(Qv:Value->Shared->Prop)(Ju:∀(D:Addr)(H':Hp)(s':Shared)(C:Addr),Inv X N9 σ H' s'->Q (.ref D) H'->(∃m,s'.heap.Ns C m)->lj X N9 H' C->compPost ↑8 X.A X.xe use Qv (.ref D) C (.ok .next) s'):wpAny ↑8 X.A (comprehension (.ListComp elt [⟨tg,iter,ifs,0⟩] scope pos) scope X.env Oy (newList []) false (eval iter X.env) use) Qv X.xe s:=by
 have Qs:∀y∈scope.names,y.2≠.cell:=λy hy=>by
  have:=Uq.mp nc y hy;simpa using this
 have Ry:∀y∈scope.names,y.2=.local->scope.names.lookup y.1=some .local:=λy hy hl=>by
  have:=Uq.mp lo y hy;rw[hl] at this;simpa using this
 refine wpAny_comprehension_free (use:=use) rfl hs OB hk Ry (ck (hi N9 s σ H _ I h) λv s1 h1=>ck h1 λitv s2 h2=>?_);obtain⟨it,fp,tn,J,H1,e,I2,T,Om,f2,hJ⟩:=h2;subst e;refine Ue (wpAny_newFunctionEnv Qs (by intro y hy;simp at hy) (λh₁ hns1 hsb1=>?_) hk);dsimp only at hns1 hsb1 ⊢;generalize hH2:s2.heap.push { cls:=.type "list",dict:=none,data:=.seq ([]:List Value).toArray }=G at hns1 hsb1 ⊢;have hC:G.objs.size=s2.heap.objs.size+1:=by rw[<- hH2,TM]
 have old:∀b o,s2.heap.get? b=some o->h₁.get? b=some o:=λb o e=>by
  have hb:=SK e;refine hsb1.extBut b o (SW (S8 hb (Vz (by rw[hC];exact UG _)))) (Sw _ ?_);rw[<- hH2];exact Sw _ e
 have QI:h₁.get? s2.heap.objs.size=some { cls:=.type "list",dict:=none,data:=.seq #[] }:=by
  refine hsb1.extBut _ _ (SW (by rw[hC];exact UG _)) (Sw _ ?_);rw[<- hH2];exact SH _ rfl
 have nD:H1 s2.heap.objs.size=none:=I2.br.fresh (SE _);have nC:H1 G.objs.size=none:=I2.br.fresh ⋯;obtain⟨W,⟨m0,w0⟩,turn⟩:=hJ _ nD;have R0:∀b∈fp,b<s2.heap.objs.size:=λb hb=>by
  obtain⟨o,e,_⟩:=T.obj _ _ Om b hb;exact SK e
 have ltk:∀(x:Str)(c:Addr),cl.lookup x=some c->c<s2.heap.objs.size/\H1 c=none/\(∃v,s2.heap.IsCell c v):=λx c e=>by
  have e':=ag.at x c e;obtain⟨v,q⟩:=I2.cell x c e';exact⟨q.lt,I2.kN x c e',v,q⟩
 let X':=qq X scope cl (ts++fs) G.objs.size s2 H1 fp N9
 have okX:X'.Ok:=by
  refine⟨I2.ok.mod,hk,I2.ok.glob,I2.ok.blt,by show s2.heap.objs.size<=G.objs.size;lia,λx y c e1 e2=>I2.ok.inj x y c (ag.at x c e1) (ag.at y c e2),λx hx=>?_,λx c hf _=>(nomatch (show (false:Bool)=true from hf)),I2.ok.hd,I2.ok.frames,.inl rfl,λb hb=>⟨?_,λx c e z=>?_⟩,λb o e=>I2.bs b o e,Ug I2.ok.Gz I2.sz,λb o e hb=>?_,λb hb hz=>?_,I2.stack,λb hb=>I2.tJ b hb⟩
  .have Qt:=o7 (env:=X.env) hx nc;have hm:∃y∈scope.names,y.1=x/\y.2=.free:=by
    have:∀(l:List (Str×NameKind)),l.lookup x=some .free->∃y∈l,y.1=x/\y.2=.free:=by
     intro l
     induction l with
     | nil=>intro h;simp at h
     | cons p r ih =>
      intro h;rw[U0] at h;cases q:x==p.1 with
      | true =>
       rw[q] at h;exact⟨p,SS,(by simpa using q:x=p.1).symm,Th h⟩
      | false =>
       rw[q] at h;obtain⟨y,hy,r1,r2⟩:=ih h;exact⟨y,SO _ hy,r1,r2⟩
    exact this _ Qt
   obtain⟨y,hy,r1,r2⟩:=hm;have:=Uq.mp fh y hy;rw[r2] at this;have h':(cl.lookup y.1).isSome=true:=by simpa using this
   rw[r1] at h';exact V2.mp h'
  .exact SW (S8 (R0 b hb) (by show s2.heap.objs.size<=G.objs.size;lia))
  .exact(f2 b hb).2.2.2.2.1 x c (ag.at x c e) z
  .obtain⟨_,_,_,f3,_,_⟩:=f2 b hb;rcases f3 with z|z
   .exact I2.ok.yH b o e z
   .exact absurd (S8 (SK (I2.ok.bs b o e).1) z) (U6 _)
  .rcases SQ.mp (I2.uh b hz) with z|z
   .exact(f2 b hb).2.1 z
   .exact(f2 b hb).2.2.1 z
 have keepB:∀b o,s2.heap.get? b=some o->h₁.get? b=some o:=old;have I3:Inv X' [] (ff ts js σ) (upd H1 s2.heap.objs.size (.lst [])) { s2 with heap:=h₁,toks:=s2.toks+([]:List (Str×Value)).length }:=by
  have neD:∀b o,s2.heap.get? b=some o->b≠s2.heap.objs.size:=λb o e=>SW (SK e);refine⟨okX,rfl,I2.bare,⟨λb o e n hb hx=>old b o e,λb o e n hb hx=>⟨o.slots,old b o e⟩,λb o e n hx=>by rwa[au (neD b o e)],λb o e hx=>⟨o,old b o e⟩,λb xs e=>?_,λb o u e=>?_,λb ps e=>?_⟩,⟨_,hns1,λi x v e1 e2 e3=>?_⟩,λx c e=>?_,?_,λx c e=>?_,λp hp=>?_,?_,?_⟩
  .rw[au (bB e nD)];exact e
  .rw[au (bB e nD)];exact e
  .exact⟨#[],by rw[au (bB e nD)];exact T6 e ↑13⟩
  .
   have hlen:(ts.map (λ_=>(none:Option V))).length=ts.length:=SG _;unfold ff at e2
   by_cases OC:i<ts.length
   .rw[TX (by rwa[hlen]),Te] at e2;cases q:ts[i]?<;>rw[q] at e2<;>cases e2
   .rw[To (by rw[hlen];lia),hlen] at e2;have e1':fs[i-ts.length]?=some x:=by
     have e1':(ts++fs)[i]?=some x:=e1;rw[To ⋯] at e1';exact e1'
    have all:∀{fs:List Str}{js:List Nat},iR X scope cl fs js->∀k:Nat,fs[k]?=some x->(js.map λj=>(σ[j]?).join)[k]?=some (some v) ->
      ∃(j:Nat)(c:Addr),X.N[j]?=some x/\σ[j]?=some (some v)/\(X.env.kindOf x=some .cell\/X.env.kindOf x=some .free)/\X.env.cells.lookup x=some c/\cl.lookup x=some c/\scope.names.lookup x=some .free:=by
     intro fs js r
     induction r with
     | nil=>intro k e;simp at e
     | @cons y j c fs js hN hf hv hc hl r ih =>
      intro k e e';cases k with
      | zero =>
       have e0:y=x:=by simpa using e
       subst e0;have RR:(σ[j]?).join=some v:=by simpa using e'
       refine⟨j,c,hN,?_,hv,hc,hl,hf⟩;cases q:σ[j]? with
       | none=>rw[q] at RR;cases RR
       | some z=>rw[q] at RR;cases z with
        | none=>cases RR
        | some z =>
         have:z=v:=by simpa using RR
         rw[this]
      | succ k=>exact ih k (by simpa using e) (by simpa using e')
    obtain⟨j,c,q1,q2,q3,q4,q5,q6⟩:=all fr (i-ts.length) e1' e2;obtain⟨m,hn,hl⟩:=I2.loc;have vis:AN X.env.scope x:=by
     rcases q3 with z|z
     .exact .inr (.inl z)
     .exact .inr (.inr z)
    obtain⟨u,ru,lk⟩:=hl j x v q1 q2 vis;refine⟨u,ru,.inr ⟨?_,c,q5,?_⟩⟩
    .rcases e3 with z|z|z
     .exfalso;have key:∀(l:List (Str×NameKind)),(l.map λ(n,k)=>if (k==Xs&&X.env.scope.kind==.function&&X.env.kindOf n==some .cell) then (n,Z8) else (n,k)).lookup x=some .local->l.lookup x=some .local:=by
       intro l
       induction l with
       | nil=>intro h;simp at h
       | cons p r ih =>
        obtain⟨n,k⟩:=p;intro h;rw[S0] at h;dsimp only at h
        by_cases hc:(k==Xs&&X.env.scope.kind==.function&&X.env.kindOf n==some .cell)=true
        .rw[if_pos hc] at h;rw[U0] at h ⊢;cases q:x==n with
         | true=>rw[q] at h;cases h
         | false=>rw[q] at h;exact ih h
        .rw[if_neg hc] at h;rw[U0] at h ⊢;cases q:x==n with
         | true=>rwa[q] at h
         | false=>rw[q] at h;exact ih h
      have:=key _ z;rw[q6] at this;cases this
     .exact .inl z
     .exact .inr z
    .rcases lk with ⟨k,_⟩|⟨_,c',e4,z⟩
     .rcases q3 with z|z<;>rw[z] at k<;>cases k
     .rw[q4] at e4;cases e4;obtain⟨o,ho,hd⟩:=z;exact⟨o,old c o ho,hd⟩
  .obtain⟨_,_,v,o,ho,hd⟩:=ltk x c e;exact⟨v,o,old c o ho,hd⟩
  .show upd H1 s2.heap.objs.size (.lst []) G.objs.size=none;rwa[au (Uu (by rw[hC];exact UG _))]
  .obtain⟨q1,q2,_⟩:=ltk x c e;rwa[au (SW q1)]
  .have Qj:p∈X.pn++N9:=by
    have:p∈(X.pn++N9)++[]:=hp
    rwa [UC] at this
   obtain⟨e,n,ne,nf,d⟩:=I2.pin p Qj;have OC:=SK e;refine⟨old _ _ e,by rwa[au (SW OC)],?_,λhz=>?_,d⟩
   .show p.1≠G.objs.size;exact SW (W7 OC (by rw[hC];exact UG _))
   .rcases SQ.mp (I2.uh _ hz) with z|z
    .exact ne z
    .exact nf z
  .exact I2.br.laid old (SE _) ⟨SX _,[],0,.nil,QI⟩
  .show (ff ts js σ).length=(ts++fs).length;have frl:∀{fs:List Str}{js:List Nat},iR X scope cl fs js->fs.length=js.length:=by
    intro fs js r
    induction r with
    | nil=>rfl
    | cons _ _ _ _ _ _ ih=>rw[Tj,Tj,ih]
   unfold ff;rw[S6,S6,SG,SG,frl fr]
 have Qp:∀{H':Hp},(∀b∈fp,H' b=none)->∀b∈fp,lj X' [] H' b:=λ{H'} hn b hb=>by
  obtain⟨_,f1,f3,_,f4,f5⟩:=f2 b hb;refine⟨hn b hb,okX.MT b hb |>.1,okX.Bm b hb,.inl hb,λx c e=>f4 x c (ag.at x c e),λp hp=>f5 p ?_⟩;have:p∈(X.pn++N9)++[]:=hp
  rwa [UC] at this
 have fin:∀{σ':St}{H':Hp}{s':Shared},Inv X' [] σ' H' s'->Q (.ref s2.heap.objs.size) H' ->
   compPost ↑8 X.A X.xe use Qv (.ref s2.heap.objs.size) G.objs.size (.ok .next) s':=by
  intro σ' H' s' I4 q;obtain⟨m,hn,_⟩:=I4.loc;have fC:H' G.objs.size=none:=I4.free;have Io:Inv X N9 σ H' s':=by
   refine I2.C_ (s':=s') (ch:=fp) I4.os ⟨λb o e n hb hx=>?_,λb o e n hb hx=>?_,λb o e n hx=>I4.base.free b o e n hx,λb o e hx=>?_,I4.base.kR,I4.base.m7,I4.base.tV⟩ I4.br I4.bare λb hb=>?_
   .exact I4.base.keep b o e n hb hx
   .exact I4.base.slot b o e n hb hx
   .exact I4.base.there b o e hx
   .obtain⟨_,f1,_,f3,f4,f5⟩:=f2 b hb;exact⟨f3,f1,f4,f5⟩
  have hCl:s2.heap.objs.size<=G.objs.size:=by rw[hC];exact ZR _
  exact Ju _ H' s' _ Io q ⟨m,hn⟩ (I2.qL hCl fC)
 have loop:∀s3:Shared,s3={ s2 with heap:=h₁,toks:=s2.toks+([]:List (Str×Value)).length } ->
   codeAny ↑8 X.A (.compLoop (.ListComp elt [⟨tg,iter,ifs,0⟩] scope pos) 0 (.ref it) (.ref s2.heap.objs.size) (compEnvC scope cl G.objs.size X.env))
    (compPost ↑8 X.A X.xe use Qv (.ref s2.heap.objs.size) G.objs.size) s3:=by
  rintro s3 rfl;refine zC (λn s'=>∃i σ' H',Inv X' [] σ' H' s'/\tn i s'.heap/\(∀b∈fp,H' b=none)/\W i n σ' H') ?_ m0 ⟨0,_,_,I3,T.keep _ _ _ Om λb _ o e=>old b o e,λb hb=>?_,w0⟩
  .rintro n s3 ⟨i,σ3,H3,I3,PH,fr3,w3⟩;rcases turn i n σ3 H3 w3 with ⟨stop,qn⟩|⟨go,N,hN,step⟩
   .refine ck (T.done X' rfl rfl rfl Ow i [] s3 σ3 H3 _ I3 (Qp fr3) PH stop) λr s4 ⟨hr,I4⟩=>?_;subst hr;exact fin I4 qn
   .refine ck (T.item X' rfl rfl rfl Ow i [] s3 σ3 H3 _ I3 (Qp fr3) PH go) λr s4 ⟨u,hr,h4⟩=>?_;subst hr;refine ck h4 λ_ s5 ⟨x,H5,I5,r5,y5,Rq,fr5⟩=>?_;have I5':=I5.pinned (Qp fr5) (T.obj _ _ Rq);refine ck (hg _ _ _ _ _ _ s5 σ3 H5 x u _ I5' r5 (step x H5 y5)) λ_ s6 ⟨σ6,H6,I6,q6⟩=>?_;have again:∀{σ7:St}{H7:Hp}{s7:Shared},Inv X' ([]++nh fp s5.heap) σ7 H7 s7->N σ7 H7->∃m,m<n/\∃i σ' H',Inv X' [] σ' H' s7/\tn i s7.heap/\(∀b∈fp,H' b=none)/\W i m σ' H':=λ{σ7 H7 s7} I7 n7=>by
     obtain⟨m',hm,w7⟩:=hN σ7 H7 n7;refine⟨m',hm,i+1,σ7,H7,I7.mf,T.keep _ _ _ Rq λb hb o e=>(I7.pin (b,o) (TJ _ (TJ _ (jb hb e)))).1,λb hb=>?_,w7⟩;obtain⟨o,e,d⟩:=T.obj _ _ Rq b hb;exact(I7.pin (b,o) (TJ _ (TJ _ (jb hb e)))).2.1
    have tail:∀{H7:Hp}{s7:Shared},Inv X' ([]++nh fp s5.heap) σ6 H7 s7->(te σ6 H7 λy H4=>∃ys,H4 s2.heap.objs.size=some (.lst ys)/\ys.length<sizeLine/\N σ6 (upd H4 s2.heap.objs.size (.lst (ys++[y])))) ->
      wpAny ↑8 X.A (eval elt (compEnvC scope cl G.objs.size X.env)) (λx s₅=>wpAny ↑8 X.A (call (.builtin "list.append") [.ref s2.heap.objs.size,x])
       (λ_ s₆=>∃m,m<n/\∃i σ' H',Inv X' [] σ' H' s₆/\tn i s₆.heap/\(∀b∈fp,H' b=none)/\W i m σ' H') (λ_ _=>False) s₅) (λ_ _=>False) s7:=by
     intro H7 s7 I7 q7;refine ck (he _ _ _ _ _ _ s7 σ6 H7 _ I7 q7) λuy s8 ⟨y,H8,I8,ry,ys,hy,hl,q8⟩=>?_;refine ck (rB (X:=X') _ s8 σ6 H8 (.ref s2.heap.objs.size) [y] (.ref s2.heap.objs.size) [uy] (λ_ H9=>N σ6 H9) I8 rfl (.cons ry .nil) ⟨_,ys,y,rfl,rfl,hy,hl,q8⟩) λ_ s9 ⟨_,H9,I9,_,q9⟩=>?_;exact again I9 q9
    cases ifs with
    | nil =>
     cases tt with
     | none=>exact wpAny_tests_nil (tail I6 q6)
     | some t=>exact(ht 0 s2 H1 [] []).elim
    | cons c r =>
     cases r with
     | nil =>
      cases tt with
      | none=>exact(ht 0 s2 H1 [] []).elim
      | some t =>
       refine wpAny_tests_one (ck (ht G.objs.size s2 H1 fp N9 _ s6 σ6 H6 _ I6 q6) λb s7 ⟨H7,I7,q7⟩=>?_);cases b with
       | true =>
        rw[if_pos rfl] at q7 ⊢;exact tail I7 q7
       | false =>
        rw[if_neg Tq] at q7 ⊢;exact again I7 q7
     | cons _ _=>cases tt<;>exact(ht 0 s2 H1 [] []).elim
  .rw[au (SW (R0 b hb))];exact(f2 b hb).1
 exact codeAny_compStart_list (loop _ rfl) (T.self _ 0 _ _ _ (T.keep _ _ _ Om λb _ o e=>old b o e) (loop _ rfl))
def Inv.other(I:Inv X N9 σ H s)(f:lj X N9 H C)(hs:VW C s.heap h'):Inv X N9 σ H { s with heap:=h' }:=by
 obtain⟨f0,f1,_,f3,f4,f5⟩:=f;refine I.C_ (s':={ s with heap:=h' }) (ch:=[C]) rfl ⟨λb o e n hb hx=>?_,λb o e n hb hx=>?_,λb o e n hx=>n,λb o e hx=>?_,λ_ _ q=>q,λ_ _ _ q=>q,λb ps q=>⟨#[],by rw[q];simp⟩⟩ (λb u e=>?_) I.bare λb hb=>?_
 .exact(hs.2 b (λz=>hx (by rw[z];exact S7.mpr rfl))).trans e
 .exact⟨o.slots,(hs.2 b (λz=>hx (by rw[z];exact S7.mpr rfl))).trans e⟩
 .exact⟨o,(hs.2 b (λz=>hx (by rw[z];exact S7.mpr rfl))).trans e⟩
 .refine(I.br b u e).qE (λc v hc q=>(hs.2 c ?_).trans q) (λ_ q=>q) λ_ _ q=>q;rcases hc with z|z
  .rw[z];exact bB e f0
  .exact bB z f0
 .rw[S7.mp hb];exact⟨f3,f1,f4,f5⟩
def Er{cl:List (Str×Addr)}{pos:Pos}{wi:TI}{g:TG}{fs:List Str}(Ow:X.calm=true)(OB:closureFor scope X.env=pure cl)(hk:scope.kind=.function)(nc:fL scope.names=true)(lo:g_ scope.names=true)(fh:gS cl scope.names=true)(ag:eI X cl)(fr:iR X scope cl fs js)(hi:PI X tg iter wi)(hg:∀C s₀ H₀ ex N9,PG (qq X scope cl (ts++fs) C s₀ H₀ ex N9) tg g)(ht:∀C s₀ H₀ ex N9,match ifs,tt with|[],none=>True|[c],some t=>PT (qq X scope cl (ts++fs) C s₀ H₀ ex N9) c t|_,_=>False)(he:∀C s₀ H₀ ex N9,PE (qq X scope cl (ts++fs) C s₀ H₀ ex N9) elt te)(hs:autoParam ↑5 aI._auto_1):PE X (.ListComp elt [⟨tg,iter,ifs,0⟩] scope pos) (yh wi g tt te ts js):=by
 intro N9 s σ H Q I h;rw[eval_ListComp];refine pX Ow OB hk nc lo fh ag fr hi hg ht he hs I h none _ λD H' s' C Io q hm f=>?_;obtain⟨m,hn⟩:=hm;exact⟨m,hn,λh' Qa=>⟨.ref D,H',Io.other f Qa,rfl,q⟩⟩
def w_(wi:TI)(g:TG)(te:TE)(ts:List Str)(js:List Nat):TE:=fun σ H Q=>wi σ H λJ H1=>∀D,H1 D=none ->
 ∃ W:Nat->Nat->St->Hp->Prop,(∃m,W 0 m (ff ts js σ) (upd H1 D (.lst [])))/\∀i m σ' H',W i m σ' H' ->
  (J.stop i H'/\Q (.ref D) H')\/(J.go i H'/\∃N:St->Hp->Prop,(∀σ'' H'',N σ'' H''->∃m',m'<m/\W (i+1) m' σ'' H'') ∧
   ∀x H2,J.uv i H' x H2->g x σ' H2 fun σ2 H3=>te σ2 H3 λy H4=>∃ys,H4 D=some (.lst ys)/\ys.length<sizeLine/\N σ2 (upd H4 D (.lst (ys++[y]))))
def Dz(wi:TI)(g:TG)(t:TT)(te:TE)(ts:List Str)(js:List Nat):TE:=fun σ H Q=>wi σ H λJ H1=>∀D,H1 D=none ->
 ∃ W:Nat->Nat->St->Hp->Prop,(∃m,W 0 m (ff ts js σ) (upd H1 D (.lst [])))/\∀i m σ' H',W i m σ' H' ->
  (J.stop i H'/\Q (.ref D) H')\/(J.go i H'/\∃N:St->Hp->Prop,(∀σ'' H'',N σ'' H''->∃m',m'<m/\W (i+1) m' σ'' H'') ∧
   ∀x H2,J.uv i H' x H2->g x σ' H2 fun σ2 H3=>t σ2 H3 λb RO=>if b=true then te σ2 RO λy H4=>∃ys,H4 D=some (.lst ys)/\ys.length<sizeLine/\N σ2 (upd H4 D (.lst (ys++[y]))) else N σ2 RO)
def Bb{cl:List (Str×Addr)}{pos:Pos}{wi:TI}{g:TG}{fs:List Str}(Ow:X.calm=true)(OB:closureFor scope X.env=pure cl)(hk:scope.kind=.function)(nc:fL scope.names=true)(lo:g_ scope.names=true)(fh:gS cl scope.names=true)(ag:eI X cl)(fr:iR X scope cl fs js)(hi:PI X tg iter wi)(hg:∀C s₀ H₀ ex N9,PG (qq X scope cl (ts++fs) C s₀ H₀ ex N9) tg g)(he:∀C s₀ H₀ ex N9,PE (qq X scope cl (ts++fs) C s₀ H₀ ex N9) elt te)(hs:autoParam ↑5 aI._auto_1):PE X (.ListComp elt [⟨tg,iter,[],0⟩] scope pos) (w_ wi g te ts js) :=
 Er (tt:=none) Ow OB hk nc lo fh ag fr hi hg (λ_ _ _ _ _=>trivial) he hs
def eO(h:Heap)(b:Bool)(l:Addr)(xs:Array Value):Prop:=match b with
 | true=>h.IsList l xs
 |false=>h.IsTuple l xs
def dZ(h:Heap)(b:Bool)(it l:Addr)(i:Nat):Prop:=match b with
 | true=>h.IsListIter it l i
 |false=>h.IsTupleIter it l i
variable{l:Addr}{b:Bool}{h:Heap}
def eO.at{xs:Array Value}(x:eO h b l xs)(k:∀o,h.get? l=some o->h'.get? l=some o):eO h' b l xs:=by
 cases b with
 | true=>obtain⟨o,ho,r⟩:=(show h.IsList l xs from x);exact(show h'.IsList l xs from ⟨o,k o ho,r⟩)
 |false=>obtain⟨o,ho,r⟩:=(show h.IsTuple l xs from x);exact(show h'.IsTuple l xs from ⟨o,k o ho,r⟩)
variable{i:Nat}{it:Addr}
def dZ.at(x:dZ h b it l i)(k:∀o,h.get? it=some o->h'.get? it=some o):dZ h' b it l i:=by
 cases b with
 | true=>obtain⟨o,ho,r⟩:=(show h.IsListIter it l i from x);exact(show h'.IsListIter it l i from ⟨o,k o ho,r⟩)
 |false=>obtain⟨o,ho,r⟩:=(show h.IsTupleIter it l i from x);exact(show h'.IsTupleIter it l i from ⟨o,k o ho,r⟩)
def dZ.obj(x:dZ h b it l i):∃o vs,h.get? it=some o/\o.data=.fields vs:=by
 cases b with
 | true=>obtain⟨o,ho,_,hd⟩:=(show h.IsListIter it l i from x);exact⟨o,_,ho,hd⟩
 |false=>obtain⟨o,ho,_,hd⟩:=(show h.IsTupleIter it l i from x);exact⟨o,_,ho,hd⟩
def eO.obj{xs:Array Value}(x:eO h b l xs):∃o n,h.get? l=some o/\o.data=.seq xs n:=by
 cases b with
 | true=>obtain⟨o,ho,_,n,hd⟩:=(show h.IsList l xs from x);exact⟨o,n,ho,hd⟩
 |false=>obtain⟨o,ho,_,n,hd⟩:=(show h.IsTuple l xs from x);exact⟨o,n,ho,hd⟩
variable{Q:Value->Shared->Prop}{items:Array Value}
variable{ys:Array Value}{k1 k2:Nat}{l1 l2:Addr}
section
variable{E:Value->Shared->Prop}
def hV{t:Addr}{x:Value}(hit:s.heap.IsTupleIter it t i)(ht:s.heap.IsTuple t items)(hx:items[i]?=some x)(hQ:∀h',h'.IsTupleIter it t (i+1)->VW it s.heap h'->Q x { s with heap:=h' }):wpAny ↑11 A (Tg (.ref it)) Q E s:=by
 obtain⟨o,ho,hc,hd⟩:=id hit;obtain⟨ol,hol,_,nl,hdl⟩:=ht;unfold Tg;refine Rz (T4 (name:=Tp "__next__") hit.typeIs F.slot_tuple_iterator_next
  (Uc F.slot_tuple_iterator_next hit.typeIs F.entry_tuple_iterator_next ?_ (F.args_tuple_iterator_next_1 _)))
 show wpAny _ _ (field (.ref it) 0 >>= _) _ _ s;refine Rz (Tv ho hd (x:=.ref t) rfl ?_);show wpAny _ _ (if (SN t==TY)=true then _ else _) _ _ s;rw[if_neg (show ¬ ((SN t==TY)=true) from Tq)];show wpAny _ _ (field (.ref it) 1 >>= _) _ _ s;refine Rz (Tv ho hd (x:=.int i 0) rfl ?_);show wpAny _ _ (seqItems? (.ref t) >>= _) _ _ s;refine Rz (TN hol hdl ?_);simp only[Ud,hx];refine Rz (V_ ho hd ↑13 (SA ⟨x,rfl,SA (hQ _ ?_ (V8 ..))⟩));exact⟨_,TL _ ho (VN (UZ hd _)),(aaw ..).trans hc,by
  rw[UZ hd];simp[rawInt]⟩
def eT{t:Addr}(hh:A.handled=none)(hit:s.heap.IsTupleIter it t i)(ht:s.heap.IsTuple t items)(hx:items[i]?=none)(hE:∀h' e,aaT it s.heap h'->(∃o,h'.get? e=some o/\o.cls=.type "StopIteration")->E (.ref e) { s with heap:=h' }):wpAny ↑11 A (Tg (.ref it)) Q E s:=by
 obtain⟨o,ho,hc,hd⟩:=id hit;obtain⟨ol,hol,_,nl,hdl⟩:=ht;unfold Tg;refine Rz (T4 (name:=Tp "__next__") hit.typeIs F.slot_tuple_iterator_next
  (Uc F.slot_tuple_iterator_next hit.typeIs F.entry_tuple_iterator_next ?_ (F.args_tuple_iterator_next_1 _)))
 show wpAny _ _ (field (.ref it) 0 >>= _) _ _ s;refine Rz (Tv ho hd (x:=.ref t) rfl ?_);show wpAny _ _ (if (SN t==TY)=true then _ else _) _ _ s;rw[if_neg (show ¬ ((SN t==TY)=true) from Tq)];show wpAny _ _ (field (.ref it) 1 >>= _) _ _ s;refine Rz (Tv ho hd (x:=.int i 0) rfl ?_);show wpAny _ _ (seqItems? (.ref t) >>= _) _ _ s;refine Rz (TN hol hdl ?_);simp only[Ud,hx];refine Rz (U9 (Rz (V_ ho hd ↑13 ?_)));show wpAny _ _ (newExc (.type "StopIteration") [] >>= _) _ _ _;refine Rz ?_;simp only[newExc,newTuple];refine Rz (Ue ?_ (by size_fits));refine Rz (m:=firstArgMember _ _) (Yq (a:=TY) (by first|rfl|(simp only[firstArgMember];rfl)) ?_);refine Ue ?_ (by size_fits);simp only[raiseNew];refine Rz (wpAny_handled ?_)
 first|rw[show A.in1.handled=none from hh]|rw[hh]
 refine Rz (SA (wpAny_throw ?_));exact hE _ _ (((V8 ..).extBut.push _).push _) ⟨_,SH _ rfl,rfl⟩
def cD{x:Value}(hit:dZ s.heap b it l i)(hl:eO s.heap b l items)(hx:items[i]?=some x)(hQ:∀h',dZ h' b it l (i+1)->VW it s.heap h'->Q x { s with heap:=h' }):wpAny ↑11 A (Tg (.ref it)) Q E s:=by
 cases b with
 | true=>exact wpAny_nextOf_list_item hit hl hx hQ
 |false=>exact hV hit hl hx hQ
def gq(hh:A.handled=none)(hit:dZ s.heap b it l i)(hl:eO s.heap b l items)(hx:items[i]?=none)(hE:∀h' e,aaT it s.heap h'->(∃o,h'.get? e=some o/\o.cls=.type "StopIteration")->E (.ref e) { s with heap:=h' }):wpAny ↑11 A (Tg (.ref it)) Q E s:=by
 cases b with
 | true=>exact wpAny_nextOf_list_end hh hit hl hx hE
 |false=>exact eT hh hit hl hx hE
def zY{b1 b2:Bool}{z TI TO i1 i2:Addr}{xs:Array Value}{x y a b:Value}(D:ZipApart z TI TO i1 i2 l1 l2)(hz:IsZip s.heap z TI TO .none)(OR:IsPair s.heap TI (.ref i1) (.ref i2))(OU:IsPair s.heap TO a b)(h1:dZ s.heap b1 i1 l1 k1)(h2:dZ s.heap b2 i2 l2 k2)(Pr:eO s.heap b1 l1 xs)(Pt:eO s.heap b2 l2 ys)(hx:xs[k1]?=some x)(hy:ys[k2]?=some y)(hQ:∀h',IsZip h' z TI TO (rawInt s.heap.objs.size)->IsPair h' TO x y->dZ h' b1 i1 l1 (k1+1)->dZ h' b2 i2 l2 (k2+1)->IsPair h' s.heap.objs.size x y->h'.objs.size=s.heap.objs.size+1 ->(∀c o,c≠z->c≠TO->c≠i1->c≠i2->s.heap.get? c=some o->h'.get? c=some o)->Q (.ref s.heap.objs.size) { s with heap:=h' }):wpAny ↑11 A (Builtin.«zip.__next__» ⟨[.ref z],[]⟩) (λfin s'=>∃v,fin=.done (.ret v)/\Q v s') E s:=by
 show wpAny _ _ (field (.ref z) 2 >>= _) _ _ _;refine Rz (Tv hz rfl (x:=.bool false) rfl ?_);show wpAny _ _ (field (.ref z) 3 >>= _) _ _ _;refine Rz (Tv hz rfl (x:=.ref TI) rfl ?_);refine Rz (TN OR rfl ?_);show wpAny _ _ (TQ (.ref z) >>= _) _ _ _;refine Rz ?_;unfold TQ;refine Rz (Tv hz rfl (x:=.none) rfl (SA ?_));simp only[if_true];refine Rz (U9 ?_);refine Rz (Tv hz rfl (x:=.ref TO) rfl ?_);refine Rz (T9 hz ↑13 λh₁ hz1 hs₁=>?_)
 replace hz1:IsZip h₁ z TI TO .ellipsis:=hz1
 refine Rz ?_;simp only[VF,XD,Wq,Wa];refine Rz (Rz (Vi ?_));show wpAny _ _ (Tg (.ref i1) >>= _) _ _ _;refine Rz (cD (h1.at λo e=>hs₁.extBut _ _ D.i1z e) (Pr.at λo e=>hs₁.extBut _ _ D.l1z e) hx λh₂ h1₂ hs2=>SA ?_);have hTO2:IsPair h₂ TO a b:=hs2.extBut _ _ D.TOi1 (hs₁.extBut _ _ D.TOz OU);refine Rz (TN hTO2 rfl ?_);refine Rz (Xy hTO2 λh₃ hTO3 hs3=>?_)
 replace hTO3:IsPair h₃ TO x b:=hTO3
 refine Rz (Uw (SA ?_));refine Rz (Rz (Vi ?_));show wpAny _ _ (Tg (.ref i2) >>= _) _ _ _;refine Rz (cD (h2.at λo e=>hs3.extBut _ _ D.TOi2.symm (hs2.extBut _ _ D.i12.symm (hs₁.extBut _ _ D.i2z e)))
  (Pt.at λo e=>hs3.extBut _ _ D.l2TO (hs2.extBut _ _ D.l2i1 (hs₁.extBut _ _ D.l2z e))) hy λh₄ h2₄ hs4=>SA ?_)
 have hTO4:IsPair h₄ TO x b:=hs4.extBut _ _ D.TOi2 hTO3;refine Rz (TN hTO4 rfl ?_);refine Rz (Xy hTO4 λh₅ hTO5 hs5=>?_)
 replace hTO5:IsPair h₅ TO x y:=hTO5
 refine Rz (Uw (SA (SA ?_)));refine Rz (TN hTO5 rfl ?_);refine Rz (ZS ?_);have hsz:h₅.objs.size=s.heap.objs.size:=by rw[hs5.1,hs4.1,hs3.1,hs2.1,hs₁.1]
 have hz5:IsZip h₅ z TI TO .ellipsis:=hs5.extBut _ _ D.TOz.symm (hs4.extBut _ _ D.i2z.symm (hs3.extBut _ _ D.TOz.symm (hs2.extBut _ _ D.i1z.symm hz1)));have hk5:∀c o,c≠z->c≠TO->c≠i1->c≠i2->s.heap.get? c=some o->h₅.get? c=some o:=λc o c1 c2 c3 c4 e =>
  hs5.extBut _ _ c2 (hs4.extBut _ _ c4 (hs3.extBut _ _ c2 (hs2.extBut _ _ c3 (hs₁.extBut _ _ c1 e))))
 have h1₅:dZ h₅ b1 i1 l1 (k1+1):=h1₂.at λo e=>hs5.extBut _ _ D.TOi1.symm (hs4.extBut _ _ D.i12 (hs3.extBut _ _ D.TOi1.symm e));have h2₅:dZ h₅ b2 i2 l2 (k2+1):=h2₄.at λo e=>hs5.extBut _ _ D.TOi2.symm e;have QQ:z<h₅.objs.size:=SK hz5;show wpAny _ _ (UM (.ref z) (.ref h₅.objs.size) >>= _) _ _ _;refine Rz ?_;unfold UM;have hz6:IsZip (h₅.push { cls:=.type "tuple",data:=.seq #[x,y] }) z TI TO .ellipsis:=Sw _ hz5;refine Rz (T9 hz6 ↑13 λh₇ hz7 hs7=>?_)
 replace hz7:IsZip h₇ z TI TO (rawInt h₅.objs.size):=hz7
 refine T9 hz7 ↑13 λh₈ hz₈ hs8=>?_
 replace hz₈:IsZip h₈ z TI TO (rawInt h₅.objs.size):=hz₈
 have up:∀c o,c≠z->h₅.get? c=some o->h₈.get? c=some o:=λc o c1 e=>hs8.extBut _ _ c1 (hs7.extBut _ _ c1 (Sw _ e));have hT8:IsPair h₈ h₅.objs.size x y:=hs8.extBut _ _ (Uu QQ) (hs7.extBut _ _ (Uu QQ) (SH _ rfl));have hz8:h₈.objs.size=h₅.objs.size+1:=by rw[hs8.1,hs7.1,TM]
 rw[hsz] at hz₈ hT8 hz8;refine SA ⟨_,rfl,?_⟩;show Q (.ref h₅.objs.size) _;rw[hsz];exact hQ h₈ hz₈ (up _ _ D.TOz hTO5) (h1₅.at λo e=>up _ o D.i1z e) (h2₅.at λo e=>up _ o D.i2z e) hT8 hz8 λc o c1 c2 c3 c4 e=>up c o c1 (hk5 c o c1 c2 c3 c4 e)
def A3{b1 b2:Bool}{z TI TO i1 i2:Addr}{xs:Array Value}{a b:Value}{Q:Fin->Shared->Prop}(hh:A.handled=none)(D:ZipApart z TI TO i1 i2 l1 l2)(hz:IsZip s.heap z TI TO .none)(OR:IsPair s.heap TI (.ref i1) (.ref i2))(OU:IsPair s.heap TO a b)(h1:dZ s.heap b1 i1 l1 k1)(h2:dZ s.heap b2 i2 l2 k2)(Pr:eO s.heap b1 l1 xs)(Pt:eO s.heap b2 l2 ys)(Pl:xs[k1]?=none\/ys[k2]?=none)(hE:∀h' e,(∀c o,c≠z->c≠TO->c≠i1->c≠i2->s.heap.get? c=some o->h'.get? c=some o)->(∃o,h'.get? e=some o/\o.cls=.type "StopIteration")->E (.ref e) { s with heap:=h' }):wpAny ↑11 A (Builtin.«zip.__next__» ⟨[.ref z],[]⟩) Q E s:=by
 show wpAny _ _ (field (.ref z) 2 >>= _) _ _ _;refine Rz (Tv hz rfl (x:=.bool false) rfl ?_);show wpAny _ _ (field (.ref z) 3 >>= _) _ _ _;refine Rz (Tv hz rfl (x:=.ref TI) rfl ?_);refine Rz (TN OR rfl ?_);show wpAny _ _ (TQ (.ref z) >>= _) _ _ _;refine Rz ?_;unfold TQ;refine Rz (Tv hz rfl (x:=.none) rfl (SA ?_));simp only[if_true];refine Rz (U9 ?_);refine Rz (Tv hz rfl (x:=.ref TO) rfl ?_);refine Rz (T9 hz ↑13 λh₁ hz1 hs₁=>?_)
 replace hz1:IsZip h₁ z TI TO .ellipsis:=hz1
 refine Rz ?_;simp only[VF,XD,Wq,Wa];refine Rz (Rz (Vi ?_));show wpAny _ _ (Tg (.ref i1) >>= _) _ _ _;cases hx:xs[k1]? with
 | none =>
  refine Rz (gq hh (h1.at λo e=>hs₁.extBut _ _ D.i1z e) (Pr.at λo e=>hs₁.extBut _ _ D.l1z e) hx λh₂ e hs2 he=>?_);obtain⟨oe,PF,Qr⟩:=he;have hz2:IsZip h₂ z TI TO .ellipsis:=hs2 _ _ D.i1z.symm hz1;have Q_:e≠z:=λx=>by subst x;rw[hz2] at PF;cases PF;simp at Qr
  refine T9 hz2 ↑13 λh₃ _ hs3=>hE h₃ e (λc o c1 _ c3 _ x=>hs3.extBut _ _ c1 (hs2 _ _ c3 (hs₁.extBut _ _ c1 x))) ⟨oe,hs3.extBut _ _ Q_ PF,Qr⟩
 | some x =>
  have hy:ys[k2]?=none:=by rcases Pl with h|h;rw[hx] at h;cases h;exact h
  refine Rz (cD (h1.at λo e=>hs₁.extBut _ _ D.i1z e) (Pr.at λo e=>hs₁.extBut _ _ D.l1z e) hx λh₂ h1₂ hs2=>SA ?_);have hTO2:IsPair h₂ TO a b:=hs2.extBut _ _ D.TOi1 (hs₁.extBut _ _ D.TOz OU);refine Rz (TN hTO2 rfl ?_);refine Rz (Xy hTO2 λh₃ hTO3 hs3=>?_);refine Rz (Uw (SA ?_));refine Rz (Rz (Vi ?_));show wpAny _ _ (Tg (.ref i2) >>= _) _ _ _;refine Rz (gq hh (h2.at λo e=>hs3.extBut _ _ D.TOi2.symm (hs2.extBut _ _ D.i12.symm (hs₁.extBut _ _ D.i2z e)))
   (Pt.at λo e=>hs3.extBut _ _ D.l2TO (hs2.extBut _ _ D.l2i1 (hs₁.extBut _ _ D.l2z e))) hy λh₄ e hs4 he=>?_)
  obtain⟨oe,PF,Qr⟩:=he;have hz₄:IsZip h₄ z TI TO .ellipsis:=hs4 _ _ D.i2z.symm (hs3.extBut _ _ D.TOz.symm (hs2.extBut _ _ D.i1z.symm hz1));have Q_:e≠z:=λx=>by subst x;rw[hz₄] at PF;cases PF;simp at Qr
  refine T9 hz₄ ↑13 λh₅ _ hs5=>hE h₅ e (λc o c1 c2 c3 c4 x=>hs5.extBut _ _ c1 (hs4 _ _ c4 (hs3.extBut _ _ c2 (hs2.extBut _ _ c3 (hs₁.extBut _ _ c1 x))))) ⟨oe,hs5.extBut _ _ Q_ PF,Qr⟩
def vq(hl:eO s.heap b l items)(h:∀o,o=({ cls:=.type (if b then "list_iterator" else "tuple_iterator"),data:=.fields #[.ref l,.int 0 0] }:Obj)->Q (.ref s.heap.objs.size) { s with heap:=s.heap.push o }):wpAny ↑11 A (pyIter (.ref l)) Q E s:=by
 cases b with
 | true=>exact Ww hl (h _ rfl)
 |false=>exact Ve hl (h _ rfl)
def mR{b1 b2:Bool}{z TI TO i1 i2:Addr}{xs:Array Value}{x y a b:Value}{Q:Option Value->Shared->Prop}(D:ZipApart z TI TO i1 i2 l1 l2)(hz:IsZip s.heap z TI TO .none)(OR:IsPair s.heap TI (.ref i1) (.ref i2))(OU:IsPair s.heap TO a b)(h1:dZ s.heap b1 i1 l1 k1)(h2:dZ s.heap b2 i2 l2 k2)(Pr:eO s.heap b1 l1 xs)(Pt:eO s.heap b2 l2 ys)(hx:xs[k1]?=some x)(hy:ys[k2]?=some y)(hQ:∀h',IsZip h' z TI TO (rawInt s.heap.objs.size)->IsPair h' TO x y->dZ h' b1 i1 l1 (k1+1)->dZ h' b2 i2 l2 (k2+1)->IsPair h' s.heap.objs.size x y->h'.objs.size=s.heap.objs.size+1 ->(∀c o,c≠z->c≠TO->c≠i1->c≠i2->s.heap.get? c=some o->h'.get? c=some o)->Q (some (.ref s.heap.objs.size)) { s with heap:=h' }):wpAny ↑11 A (pyNext (.ref z)) Q E s:=by
 have hT:s.TypeIs (.ref z) "zip" := ⟨_,hz,rfl⟩
 unfold pyNext;exact Rz (Vj (T4 (name:=Tp "__next__") hT F.slot_zip_next
  (Uc F.slot_zip_next hT F.entry_zip_next
   (zY D hz OR OU h1 h2 Pr Pt hx hy λh' a1 a2 a3 a4 a5 a6 a7=>SA (hQ h' a1 a2 a3 a4 a5 a6 a7)) (F.args_zip_next_1 _))))
def nQ{b1 b2:Bool}{z TI TO i1 i2:Addr}{xs:Array Value}{a b:Value}{Q:Option Value->Shared->Prop}(hh:A.handled=none)(D:ZipApart z TI TO i1 i2 l1 l2)(hz:IsZip s.heap z TI TO .none)(OR:IsPair s.heap TI (.ref i1) (.ref i2))(OU:IsPair s.heap TO a b)(h1:dZ s.heap b1 i1 l1 k1)(h2:dZ s.heap b2 i2 l2 k2)(Pr:eO s.heap b1 l1 xs)(Pt:eO s.heap b2 l2 ys)(Pl:xs[k1]?=none\/ys[k2]?=none)(hQ:∀h',(∀c o,c≠z->c≠TO->c≠i1->c≠i2->s.heap.get? c=some o->h'.get? c=some o)->Q none { s with heap:=h' }):wpAny ↑11 A (pyNext (.ref z)) Q E s:=by
 have hT:s.TypeIs (.ref z) "zip" := ⟨_,hz,rfl⟩
 unfold pyNext;refine Rz (Vj (T4 (name:=Tp "__next__") hT F.slot_zip_next
  (Uc F.slot_zip_next hT F.entry_zip_next (A3 hh D hz OR OU h1 h2 Pr Pt Pl λh' e hk he=>?_) (F.args_zip_next_1 _))))
 obtain⟨o,ho,hc⟩:=he;refine Rz (Wb (T := "StopIteration") (b:=true) ⟨o,ho,hc⟩ X_ ?_);exact SA (hQ _ hk)
abbrev DN(b:Bool)(l:Addr):Obj:={ cls:=.type (if b then "list_iterator" else "tuple_iterator"),data:=.fields #[.ref l,.int 0 0] }
abbrev Il(h:Heap)(b1:Bool)(l1:Addr):Heap:=h.push (DN b1 l1)
abbrev GD(h:Heap)(b1 b2:Bool)(l1 l2:Addr):Heap:=(Il h b1 l1).push (DN b2 l2)
abbrev L6(h:Heap)(b1 b2:Bool)(l1 l2:Addr):Heap:=(GD h b1 b2 l1 l2).push { cls:=.type "tuple",data:=.seq #[.ref h.objs.size,.ref (Il h b1 l1).objs.size] }
abbrev Ma(h:Heap)(b1 b2:Bool)(l1 l2:Addr):Heap:=(L6 h b1 b2 l1 l2).push { cls:=.type "tuple",data:=.seq #[.none,.none] }
abbrev I0(h:Heap)(b1 b2:Bool)(l1 l2:Addr):Heap:=(Ma h b1 b2 l1 l2).push { cls:=.type "zip",data:=.fields #[.none,.bool false,.bool false,.ref (GD h b1 b2 l1 l2).objs.size,.ref (L6 h b1 b2 l1 l2).objs.size] }
end
def fu{E:Value->Shared->Prop}(hl:eO s.heap b l items)(h:Q (.ref s.heap.objs.size) { s with heap:=s.heap.push (DN b l) }):wpAny ↑11 A (pyIter (.ref l)) Q E s:=vq hl λo e=>by subst e;exact h
theorem eO.push{h:Heap}{b:Bool}{l:Addr}{xs:Array Value}(x:eO h b l xs)(o:Obj):eO (h.push o) b l xs:=x.at λ_ e=>Sw _ e
def pY(b1 b2:Bool)(l1 l2:Addr)(xs ys:Array Value):Meets (Builtin.«zip.__new__» ⟨[.type "zip",.ref l1,.ref l2],[]⟩) (λ_ R s=>eO s.heap b1 l1 xs/\eO s.heap b2 l2 ys ∧R (.ok (.ret (.ref (Ma s.heap b1 b2 l1 l2).objs.size))) { s with heap:=I0 s.heap b1 b2 l1 l2 }) :=
 .of_wp λprog w A R s h=>by
  obtain⟨hp,g,d,tk,os⟩:=s;obtain⟨Pr,Pt,h⟩:=h;have Sd:=sub_zip;have hL1:eO (Xz ⟨hp,g,d,tk,os⟩) b1 l1 xs:=Pr;have hL2:eO (Xz ⟨hp.push (DN b1 l1),g,d,tk,os⟩) b2 l2 ys:=eO.push Pt _
  wp_walk using fu hL1,fu hL2
  exact⟨_,rfl,h⟩
section
variable{E:Value->Shared->Prop}
def dZ.new(h:Heap)(b:Bool)(it l:Addr)(e:h.get? it=some (DN b l)):dZ h b it l 0:=by
 cases b with
 | true=>exact⟨_,e,rfl,rfl⟩
 |false=>exact⟨_,e,rfl,rfl⟩
def yO{b1 b2:Bool}{xs:Array Value}(Pr:eO s.heap b1 l1 xs)(Pt:eO s.heap b2 l2 ys)(h:∀h',IsZip h' (s.heap.objs.size+4) (s.heap.objs.size+2) (s.heap.objs.size+3) .none->IsPair h' (s.heap.objs.size+2) (.ref s.heap.objs.size) (.ref (s.heap.objs.size+1)) ->IsPair h' (s.heap.objs.size+3) .none .none->dZ h' b1 s.heap.objs.size l1 0->dZ h' b2 (s.heap.objs.size+1) l2 0->h'.objs.size=s.heap.objs.size+5 ->(∀c o,s.heap.get? c=some o->h'.get? c=some o)->Q (.ref (s.heap.objs.size+4)) { s with heap:=h' }):wpAny ↑11 A (call (.type "zip") [.ref l1,.ref l2]) Q E s:=by
 refine aax F.called_zip ↑12 (F.typeCall_zip_2 _ _) (F.newCall_zip_2 _ _) (λobj=>F.args_object_init_3 obj _ _) F.entry_zip_new
  (pY b1 b2 l1 l2 xs ys) ⟨Pr,Pt,?_⟩
 have z1:(Il s.heap b1 l1).objs.size=s.heap.objs.size+1:=TM ..;have z2:(GD s.heap b1 b2 l1 l2).objs.size=s.heap.objs.size+2:=by rw[TM,z1]
 have z3:(L6 s.heap b1 b2 l1 l2).objs.size=s.heap.objs.size+3:=by rw[TM,z2]
 have z4:(Ma s.heap b1 b2 l1 l2).objs.size=s.heap.objs.size+4:=by rw[TM,z3]
 have z5:(I0 s.heap b1 b2 l1 l2).objs.size=s.heap.objs.size+5:=by rw[TM,z4]
 have g5:(I0 s.heap b1 b2 l1 l2).get? (Ma s.heap b1 b2 l1 l2).objs.size=some _:=SH _ rfl;have g4:(I0 s.heap b1 b2 l1 l2).get? (L6 s.heap b1 b2 l1 l2).objs.size=some _:=Sw _ (SH _ rfl);have g3:(I0 s.heap b1 b2 l1 l2).get? (GD s.heap b1 b2 l1 l2).objs.size=some _:=Sw _ (Sw _ (SH _ rfl));have g2:(I0 s.heap b1 b2 l1 l2).get? (Il s.heap b1 l1).objs.size=some _:=Sw _ (Sw _ (Sw _ (SH _ rfl)));have g1:(I0 s.heap b1 b2 l1 l2).get? s.heap.objs.size=some _:=Sw _ (Sw _ (Sw _ (Sw _ (SH _ rfl))));show _/\_;rw[z2,z3,z4] at g5;rw[z1,z2] at g3;rw[z3] at g4;rw[z1] at g2;rw[z4];exact⟨⟨_,g5,rfl⟩,h _ g5 g3 g4 (dZ.new _ b1 _ _ g1) (dZ.new _ b2 _ _ g2) z5 λc o x =>
  Sw _ (Sw _ (Sw _ (Sw _ (Sw _ x))))⟩
end
def jC(K:SD)(H:Hp)(b:Bool)(a:Addr)(xs:List V):Prop:=match b with
 | true=>h9 K H a xs
 |false=>fJ K H a xs
variable{tl:TA}
def Inv.row{a:Addr}{xs:List V}(I:Inv X N9 σ H s)(h:jC X.K H b a xs):∃Ob:List Value,Vals xs Ob/\eO s.heap b a Ob.toArray/\xs.length<=sizeLine:=by
 cases b with
 | true =>
  obtain⟨Ob,r,p,z⟩:=I.list h;exact⟨Ob,r,p.isList,z⟩
 | false =>
  obtain⟨Ob,r,p,z⟩:=I.tuple h;exact⟨Ob,r,p,z⟩
def Inv.lW{a:Addr}{xs ys:List V}(I:Inv X N9 σ H s)(h:jC X.K H b a xs)(h':jC X.K H b a ys):xs=ys:=by
 cases b with
 | true=>exact I.qi h h'
 |false=>exact I.mU h h'
def Inv.xA(I:Inv X N9 σ H s)(k:∀b u,b ∉ ch->s.heap.get? b=some u->h'.get? b=some u)(P6:∀b∈ch,lj X N9 H b):Inv X N9 σ H { s with heap:=h',toks:=t' }:=by
 have QV:∀b u,H b=some u->b ∉ ch:=λb u e z=>by rw[(P6 b z).1] at e;cases e
 refine I.step (g':=s.gens) (d':=s.drawn) (ch:=ch) (λb hb=>?_) (λb u _ _ hc e _=>k b u hc e) (λb u _ _ hc e _=>⟨u.slots,k b u hc e⟩)
  (λb u _ e n=>n) (λb u hc e=>⟨u,k b u hc e⟩) (λb xs e=>e) (λb ob u e=>e) (λb ps e=>⟨#[],by rw[e];simp⟩) (λm hm=>?_) (λb u e=>?_) I.bare
 .obtain⟨_,f1,_,f3,f4,f5⟩:=P6 b hb;exact⟨f3,f1,f4,f5⟩
 .obtain⟨ob,es,ep,ho,r⟩:=hm;exact⟨ob,es,ep,k _ ob (λz=>(P6 _ z).2.1 rfl) ho,r⟩
 .refine(I.br b u e).qE (λc v hc q=>k c v ?_ q) (λc q=>q) λc ys q=>q;rcases hc with z'|z'
  .rw[z'];exact QV b u e
  .exact QV c _ z'
def cn{a c:Addr}{xs:List V}(I:Inv X N9 σ H s)(h:jC X.K H b a xs)(f:lj X N9 H c):a≠c:=by
 have rd:∀{u:HO},Rd H a u->a≠c:=λ{u} r=>by
  rcases r with r|⟨o,r⟩
  .exact bB r f.1
  .exact bB r f.1
 have mk:∀{o:Obj},X.K.lookup a=some o->a≠c:=λ{o} e z=>by
  subst z;have e':=I.ok.mod.J2 _ _ e;rcases f.2.2.2.1 with q|q
  .exact I.ok.yH _ _ e' q
  .exact absurd (S8 (SK (I.ok.bs _ _ e').1) q) (U6 _)
 cases b with
 | true =>
  rcases(show h9 X.K H a xs from h) with r|⟨o,Ob,n,e,_⟩
  .exact rd r
  .exact mk e
 | false =>
  rcases(show fJ X.K H a xs from h) with r|⟨o,Ob,n,e,_⟩
  .exact rd r
  .exact mk e
def Mr (K : SD)(b1 b2 : Bool)(a1 a2 : Addr) : It :=
  ⟨λi H => ∃xs ys x y,jC K H b1 a1 xs /\ jC K H b2 a2 ys /\ xs[i]? = some x /\ ys[i]? = some y,
   λi H v H' => ∃p x y,H p=none /\ v=.ref p /\ H'=upd H p (.tup [x,y]) /\ (∀xs,jC K H b1 a1 xs -> xs[i]? = some x) /\ (∀ys,jC K H b2 a2 ys -> ys[i]? = some y),
   λi H => ∃xs ys,jC K H b1 a1 xs /\ jC K H b2 a2 ys /\ (xs.length <= i \/ ys.length <= i)⟩
theorem Ay{K:SD}{tp:Pos}(b1 b2:Bool)(a1 a2 z TI TO i1 i2:Addr)(D:TI≠z/\TO≠z/\i1≠z/\i2≠z/\TI≠TO/\TI≠i1/\TI≠i2/\TO≠i1/\TO≠i2/\i1≠i2):Turn P w K (.Tuple elts x1 tp) (Mr K b1 b2 a1 a2) [z,TO,i1,i2,TI] z (λi h=>IsZip h z TI TO .none/\IsPair h TI (.ref i1) (.ref i2)/\(∃a b,IsPair h TO a b)/\dZ h b1 i1 a1 i/\dZ h b2 i2 a2 i) where
 mem:=by simp
 obj:=λi h st b hb=>by
  obtain⟨hz,OR,⟨a,c,OU⟩,h1,h2⟩:=st;simp only[SQ,Ur,or_false] at hb;rcases hb with q|q|q|q|q<;>subst q
  .exact⟨_,hz,λv z=>by cases z⟩
  .exact⟨_,OU,λv z=>by cases z⟩
  .obtain⟨o,vs,e,d⟩:=h1.obj;exact⟨o,e,λv z=>by rw[d] at z;cases z⟩
  .obtain⟨o,vs,e,d⟩:=h2.obj;exact⟨o,e,λv z=>by rw[d] at z;cases z⟩
  .exact⟨_,OR,λv z=>by cases z⟩
 keep:=λi h h' st k=>by
  obtain⟨hz,OR,⟨a,c,OU⟩,h1,h2⟩:=st;exact⟨k z ↑13 _ hz,k TI ↑13 _ OR,⟨a,c,k TO ↑13 _ OU⟩,h1.at λo e=>k i1 ↑13 o e,h2.at λo e=>k i2 ↑13 o e⟩
 item:=by
  intro X hP hw hK hc i N9 s σ H E I hf st hg;subst hP hw hK;obtain⟨xs,ys,x,y,OS,ON,hx,hy⟩:=hg;obtain⟨QR,Ri,p1,Sf⟩:=I.row OS;obtain⟨Pw,Rj,p2,RN⟩:=I.row ON;obtain⟨u1,hu1,ru1⟩:=Ri.get hx;obtain⟨u2,hu2,ru2⟩:=Rj.get hy;obtain⟨hz,OR,⟨a,c,OU⟩,h1,h2⟩:=st;obtain⟨d1,d2,d3,d4,d5,d6,d7,d8,d9,d10⟩:=D;obtain⟨o1,n1,e1,dd1⟩:=p1.obj;obtain⟨o2,n2,e2,Q5⟩:=p2.obj;obtain⟨oi1,vs1,RS,di1⟩:=h1.obj;obtain⟨oi2,vs2,RT,di2⟩:=h2.obj;have D:ZipApart z TI TO i1 i2 a1 a2:=⟨d1,d2,d3,d4,d5,d6,d7,d8,d9,d10,cn I OS (hf z ↑13),cn I OS (hf TO ↑13),cn I OS (hf i1 ↑13),cn I OS (hf i2 ↑13),
   cn I ON (hf z ↑13),cn I ON (hf TO ↑13),cn I ON (hf i1 ↑13),cn I ON (hf i2 ↑13)⟩
  refine mR D hz OR OU h1 h2 p1 p2 (x:=u1) (y:=u2) (by simpa using hu1) (by simpa using hu2) λh' g1 g2 g3 g4 g5 g6 g7=>⟨_,rfl,?_⟩
  refine Yj (s:={ s with heap:=h' }) g1 λh3 Sg Qw=>?_;have Pu:H s.heap.objs.size=none:=I.br.fresh (SE _);have lt:∀{c:Addr}{o:Obj},s.heap.get? c=some o->c≠s.heap.objs.size:=λe=>SW (SK e);have QT:∀b o,b ∉ [z,TO,i1,i2,TI]->s.heap.get? b=some o->h3.get? b=some o:=λb o hb q=>by
   simp only[SQ,Ur,or_false,not_or] at hb;exact(Qw.2 b hb.1).trans (g7 b o hb.1 hb.2.1 hb.2.2.1 hb.2.2.2.1 q)
  have hT3:h3.get? s.heap.objs.size=some { cls:=.type "tuple",data:=.seq #[u1,u2] }:=(Qw.2 _ (lt hz).symm).trans g5;have I3:Inv X N9 σ (upd H s.heap.objs.size (.tup [x,y])) { s with heap:=h3,toks:=s.toks } :=
   I.kj (ch:=[z,TO,i1,i2,TI]) QT hf (SE _) (λb hb=>by
    simp only[SQ,Ur,or_false] at hb;rcases hb with q|q|q|q|q<;>subst q
    .exact⟨_,hz⟩
    .exact⟨_,OU⟩
    .exact⟨_,RS⟩
    .exact⟨_,RT⟩
    .exact⟨_,OR⟩)
    ⟨by show 2<=sizeLine;decide,[u1,u2],.cons ru1 (.cons ru2 .nil),⟨_,hT3,rfl,_,rfl⟩⟩
  refine⟨.ref s.heap.objs.size,_,I3,rfl,⟨_,x,y,Pu,rfl,rfl,λzs Rh=>by rwa[I.lW Rh OS],λzs Rh=>by rwa[I.lW Rh ON]⟩,
   ⟨Sg,(Qw.2 TI d1).trans (g7 TI _ d1 d5 d6 d7 OR),⟨_,_,(Qw.2 TO d2).trans g2⟩,g3.at λo e=>(Qw.2 i1 d3).trans e,g4.at λo e=>(Qw.2 i2 d4).trans e⟩,λb hb=>?_⟩
  have nb:b≠s.heap.objs.size:=by
   simp only[SQ,Ur,or_false] at hb;rcases hb with q|q|q|q|q<;>subst q
   .exact lt hz
   .exact lt OU
   .exact lt RS
   .exact lt RT
   .exact lt OR
  rw[au nb];exact(hf b hb).1
 done:=by
  intro X hP hw hK hc i N9 s σ H E I hf st hg;subst hP hw hK;obtain⟨xs,ys,OS,ON,Pl⟩:=hg;obtain⟨QR,Ri,p1,Sf⟩:=I.row OS;obtain⟨Pw,Rj,p2,RN⟩:=I.row ON;obtain⟨hz,OR,⟨a,c,OU⟩,h1,h2⟩:=st;obtain⟨d1,d2,d3,d4,d5,d6,d7,d8,d9,d10⟩:=D;have D:ZipApart z TI TO i1 i2 a1 a2:=⟨d1,d2,d3,d4,d5,d6,d7,d8,d9,d10,cn I OS (hf z ↑13),cn I OS (hf TO ↑13),cn I OS (hf i1 ↑13),cn I OS (hf i2 ↑13),
   cn I ON (hf z ↑13),cn I ON (hf TO ↑13),cn I ON (hf i1 ↑13),cn I ON (hf i2 ↑13)⟩
  have l1:=Ri.length;have l2:=Rj.length;refine nQ (I.ok.hd hc) D hz OR OU h1 h2 p1 p2 ?_ λh' k=>⟨rfl,?_⟩
  .rcases Pl with q|q
   .exact .inl (by simp;lia)
   .exact .inr (by simp;lia)
  .exact I.xA (t':=s.toks) (ch:=[z,TO,i1,i2,TI]) (λb u hb e=>by
    simp only[SQ,Ur,or_false,not_or] at hb;exact k b u hb.1 hb.2.1 hb.2.2.1 hb.2.2.2.1 e) hf
 self:=λ_ _ _ _ _ st h=>by
  obtain⟨hz,_⟩:=st;exact Xm hz h
theorem Jt(n:Nat):n+2≠n+4/\n+3≠n+4/\n≠n+4/\n+1≠n+4/\n+2≠n+3/\n+2≠n/\n+2≠n+1/\n+3≠n/\n+3≠n+1/\n≠n+1:=by
 refine⟨?_,?_,?_,?_,?_,?_,?_,?_,?_,?_⟩<;>lia
def LP(K:SD)(tl:TA):TI:=fun σ H R=>tl σ H λvs H1=>∃b1 b2 a1 a2,vs=[.ref a1,.ref a2]/\(∃xs,jC K H1 b1 a1 xs)/\(∃ys,jC K H1 b2 a2 ys)/\R (Mr K b1 b2 a1 a2) H1
def tf{tp:Pos}{l1 l2:Expr}{p pos:Pos}(hg:Gl X "zip")(hm:X.mg "zip"=none)(hl:PA X [l1,l2] tl)(hs:autoParam (starEach [l1,l2] X.env=[(false,eval l1 X.env),(false,eval l2 X.env)]) aR._auto_1)(Py:autoParam (starEach [l2] X.env=[(false,eval l2 X.env)]) aR._auto_1):PI X (.Tuple elts x1 tp) (.Call (.Name "zip" p) [l1,l2] [] pos) (LP X.K tl):=by
 intro N9 s σ H R I h;refine Call_ (iy I hg hm ZA (Uk (ck (hl pos N9 s σ H _ I h) λus s1 ⟨vs,H1,I1,r1,q1⟩=>?_) (by rw[hs,Py]) (by rw[Py];rfl)));obtain⟨b1,b2,a1,a2,e,⟨xs,OS⟩,⟨ys,ON⟩,q⟩:=q1;subst e;cases r1 with
 | cons r rr =>
  cases rr with
  | cons r' rr =>
   cases rr;cases (show _=SN a1 from r);cases (show _=SN a2 from r');obtain⟨QR,Ri,p1,Sf⟩:=I1.row OS;obtain⟨Pw,Rj,p2,RN⟩:=I1.row ON;refine yO p1 p2 λh' g1 g2 g3 g4 g5 g6 g7=>?_;have I2:Inv X N9 σ H1 { s1 with heap:=h' }:=I1.kept (t':=s1.toks) g7;refine Xm (s:={ s1 with heap:=h' }) g1 ?_;refine⟨s1.heap.objs.size+4,[s1.heap.objs.size+4,s1.heap.objs.size+3,s1.heap.objs.size,s1.heap.objs.size+1,s1.heap.objs.size+2],_,_,H1,rfl,I2,
    Ay b1 b2 a1 a2 _ _ _ _ _ (Jt s1.heap.objs.size),⟨g1,g2,⟨_,_,g3⟩,g4,g5⟩,λb hb=>?_,q⟩
   have hle:s1.heap.objs.size<=b:=by
    simp only[SQ,Ur,or_false] at hb;rcases hb with q|q|q|q|q
    .rw[q];exact UH _ 4
    .rw[q];exact UH _ 3
    .rw[q];exact SE _
    .rw[q];exact UH _ 1
    .rw[q];exact UH _ 2
   exact I1.qL hle (I1.br.fresh hle)
def MD(K:SD)(b:Bool)(a:Addr):It:=match b with
 | true=>Ny K a
 |false=>Nr K a
def Kx(K:SD)(tl:TE):TI:=fun σ H R=>tl σ H λx H1=>∃b a,x=.ref a/\(∃xs,jC K H1 b a xs)/\R (MD K b a) H1
def dP{l:Expr}{tl:TE}(hl:PE X l tl):PI X tg l (Kx X.K tl):=by
 intro N9 s σ H R I h;refine ck (hl N9 s σ H _ I h) λv s1 ⟨x,H1,I1,r1,q1⟩=>?_;obtain⟨b,a,e,⟨xs,hq⟩,q⟩:=q1;subst e;cases r1;cases b with
 | true =>
  obtain⟨Ob,rv,p,hz⟩:=I1.list hq;refine Ww p.isList ?_;refine⟨s1.heap.objs.size,[s1.heap.objs.size],_,_,H1,rfl,I1.kept (t':=s1.toks) λb o e=>Sw _ e,zu a _,⟨_,SH _ rfl,rfl,rfl⟩,λb hb=>?_,q⟩;have e:b=s1.heap.objs.size:=by simpa using hb
  subst e;exact I1.qL (SE _) (I1.br.fresh (SE _))
 | false =>
  obtain⟨Ob,rv,p,hz⟩:=I1.tuple hq;refine Ve (show s1.heap.IsTuple a Ob.toArray from p) ?_;refine⟨s1.heap.objs.size,[s1.heap.objs.size],_,_,H1,rfl,I1.kept (t':=s1.toks) λb o e=>Sw _ e,w8 a _,⟨_,SH _ rfl,rfl,rfl⟩,λb hb=>?_,q⟩;have e:b=s1.heap.objs.size:=by simpa using hb
  subst e;exact I1.qL (SE _) (I1.br.fresh (SE _))
structure Cc (K:SD) (C:Addr):Prop where
 ga:T_ K (.ref C) "__getattribute__"=some (some (.builtin "BaseException.__getattribute__"))
 gn:T_ K (.ref C) "__getattr__"=some none
 hd:W0 K C=true
 sa:T_ K (.ref C) "__setattr__"=some (some (.builtin "object.__setattr__"))
 mb:Yv K C (.type "BaseException")=some true
 mo:Yv K C (.type "object")=some true
 ca:T_ K (.ref C) "__class__"=some (some (.builtin "object.__class__"))
 cg:W2 K (.builtin "object.__class__") "__get__"=some (some (.builtin "getset_descriptor.__get__"))
 ct:XC K (.builtin "object.__class__")=some true
variable{name:Str}{od:Option Obj}{ox:Obj}
section
variable{E:Value->Shared->Prop}{K:SD}{x:Addr}
def CL:builtinKind "BaseException.__getattribute__"=some .slot:=by decide +kernel
def yD:splitId "BaseException.__getattribute__"=some ("BaseException","__getattribute__"):=by decide +kernel
def IP{tk:Tok}{fill expr:Bool}(c:Cc K C)(X:K.In s.heap)(I:WZ s.heap x ox C od)(h:wpAny ↑11 A.in1 (Builtin.«object.__getattribute__» ⟨[.ref x,.str name tk],[]⟩) (λfin s'=>match fin with|.done (.ret v)=>wpAny ↑11 A (handedOut v) Q E s'|_=>False) (λ_ _=>False) s):wpAny ↑11 A (getAttrBy (.ref x) (.str name tk) fill expr) Q E s:=by
 have RM:(Xu "BaseException.__getattribute__" == Xu "object.__getattribute__")=false:=by decide +kernel
 have Se:(onTheHeap (SN C)&&Xu "BaseException.__getattribute__" == Xu "object.__getattribute__")=false:=by rw[RM];rfl
 have hx0:(expr&&onTheHeap (Xu "BaseException.__getattribute__"))=false:=by cases expr<;>rfl
 have sub:PySem.W.Looks ↑11 s.heap (isInstance (.ref x) (.type "BaseException")) true:=I.type.andThen (PySem.W.looks_mroIn X c.mb);unfold getAttrBy;refine UE (Rz (I.type.here (Rz ((Xw X c.ga).here ?_))));dsimp only;rw[Se,if_neg Tq];unfold getAttrByItsOwn hookBefore;refine Rz ?_;show wpAny _ _ (typeLookup (.ref C) "__getattr__") _ _ _;refine(Xw X c.gn).here ?_;refine Rz (Vj (UE ?_));unfold callGetattribute;rw[hx0,if_neg Tq];unfold boundAndCalled;refine Rz (Yq (YC.ga.bind _) ?_);refine aah (codeAny_call_builtin YC.ga.plain PySem.F.entry_bexc_ga (@PySem.W.check_slot ↑11 _ _ s "BaseException.__getattribute__" "BaseException" "__getattribute__" (.ref x) [.str name tk] [] _ CL yD sub (PySem.F.args_bexc_ga _ _) ?_));refine Vc h (λfin s' z=>?_) (λ_ _ z=>z.elim);rcases fin with (v|_|_|_)|_<;>first|exact z|exact z.elim
end
variable{dd:Option Addr}
section
open PySem.Builtin.ObjectAttr (storeInOwnDict storeTaker? setByDescriptor)
section
variable{E:Value->Shared->Prop}{K:SD}{x:Addr}
def qy{a g:Value}(hc:(Yx K C).isSome=true)(ha:T_ K (.ref C) name=some (some a))(hg:W2 K a "__get__"=some (some g))(ht:XC K a=some true):Zt K C od name=some (.bind g a):=by
 obtain⟨cd,hc⟩:=V2.mp hc;unfold Zt;rw[hc,YD,ha,YD];simp[hg,ht]
def zZ{Q:Option Value->Shared->Prop}(c:Cc K C)(X:K.In s.heap)(I:WZ s.heap x ox C od)(h:Q (some (.ref C)) { s with toks:=s.toks+1 }):wpAny ↑11 A (getAttr? (.ref x) "__class__") Q E s:=by
 have hc:(Yx K C).isSome=true:=by obtain⟨cd,hc,_⟩:=Xk c.hd;rw[hc];rfl
 have hf:Zt K C od "__class__"=some (.bind (.builtin "getset_descriptor.__get__") (.builtin "object.__class__")):=qy hc c.ca c.cg c.ct;unfold getAttr? getAttrBy?;refine Rz (wpAny_mkText (Rz (Vj ?_)));refine IP (s:={ s with toks:=s.toks+1 }) c X I ?_;unfold Builtin.«object.__getattribute__»;refine Rz (SA ?_);dsimp only;refine Rz (SA ?_);refine Rz (I.type.here (s:={ s with toks:=s.toks+1 }) (Rz ((PySem.W.looks_find X I hf).here (s:={ s with toks:=s.toks+1 }) ?_)));show wpAny _ _ (holding [.builtin "object.__class__"] (call (.builtin "getset_descriptor.__get__") [.builtin "object.__class__",.ref x,.ref C]) >>= ret) _ _ _;refine Rz (UE (aah (PySem.W.class_get (s:={ s with toks:=s.toks+1 }) (ox:=ox) (od:=od) X I c.mo ?_)));refine SA ?_;exact PySem.W.handed_on rfl (SA h)
def vi(c:Cc K C):aa8 K (.ref x) (.ref C) (λh=>WZ h x ox C od) where
 ty:=λ_ _ _ I=>I.type
 it:=λ_ _ X _=>by
  obtain⟨cdD,Q9,_⟩:=Xk c.hd;unfold Yx at Q9
  split at Q9
  .rename_i c' d' cd' sl' ho;intro A' Q' E' s' k q;unfold isType loadHead;exact Rz (wpAny_loadPart (k _ _ (X _ _ ho)) (SA q))
  .cases Q9
 ne:=λh tp dd Ob n sl X htp=>by
  obtain⟨cdD,Q9,_⟩:=Xk c.hd;refine Bool.eq_false_iff.mpr λq=>?_;have e:C=tp:=Value.ref.inj (beq_iff_eq.mp q);subst e;unfold Yx at Q9
  split at Q9
  .rename_i c' d' cd' sl' ho;have z:=(X _ _ ho).symm.trans htp;cases z
  .cases Q9
 ca:=λX I k=>zZ c X I k
end
section
variable{E:Value->Shared->Prop}{g:Array GenState}{d:Drawn}{t:Nat}{os:OsState}
variable{nm q:Str}{N:Addr}{bs bm:List Value}{hdct:Bool}{sn:List Str}{sub:List Value}{ab:Bool}{col:Option Bool}{k0 k1 k2 k3 k5:Option Value}{newId initId:String}
end
end
def nq(C:Addr)(dd:Option Addr)(e:Addr):HO:=.ext λh=>∃vs,h.get? e=some ⟨.ref C,dd,.fields vs,#[]⟩
def ExcAt(H:Hp)(e C:Addr)(fo:Option (List (Str×V))):Prop:=match fo with
 | none=>H e=some (nq C none e)
 |some fs=>∃d,H e=some (nq C (some d) e)/\H d=some (.xd fs)
def Inv.Bf(I:Inv X N9 σ H s){e:Addr}(he:H e=some (nq C dd e)):∃vs,s.heap.get? e=some ⟨.ref C,dd,.fields vs,#[]⟩:=(I.br e _ he).1
def Inv.FF(I:Inv X N9 σ H s){e:Addr}{fo:Option (List (Str×V))}(h:ExcAt H e C fo):∃ox od,WZ s.heap e ox C od/\(fo=none->od=none) ∧∀fs,fo=some fs->∃(o:Obj)(mA:Str->Option Value),od=some o/\(∀n,WY n o=some (mA n))/\∀f,ko (fs.lookup f) (mA f):=by
 cases fo with
 | none =>
  obtain⟨vs,q⟩:=I.Bf h;exact⟨_,none,⟨q,rfl,rfl,trivial⟩,λ_=>rfl,λfs z=>(by cases z)⟩
 | some fs =>
  obtain⟨d,h1,h2⟩:=h;obtain⟨vs,q⟩:=I.Bf h1;obtain⟨mA,n,r⟩:=(show ∃mA,s.heap.Ns1 d mA/\∀f,ko (fs.lookup f) (mA f) from I.br d _ h2)
  obtain⟨o,ho,hl⟩:=rf n;refine⟨_,some o,⟨q,rfl,rfl,ho⟩,λz=>(by cases z),λfs' z=>?_⟩;cases z;exact⟨o,mA,rfl,hl,r⟩
variable{apos:Pos}{m:Str}{ta:TE}{o:Expr}
section
variable{f:Str}{pos:Pos}
def MM(K:SD):List V->Hp->VK->Prop:=λxs H Q=>∃e C fo b,Cc K C/\ExcAt H e C fo ∧
 ((∃T,xs=[.ref e,.ty T]/\Vo K (.ref C) (.type T)=some b)\/(∃D,xs=[.ref e,.ref D]/\Vo K (.ref C) (.ref D)=some b))/\Q (.bl b) H
def Dj:cv X (.builtin "isinstance") (MM X.K):=by
 intro N9 s σ H xs us Q I r h;obtain⟨e,C,fo,b,c,ha,hc,q⟩:=h;obtain⟨ox,od,J,_⟩:=I.FF ha;rcases hc with ⟨T,rfl,hk⟩|⟨D,rfl,hk⟩
 .cases r with
  | cons r1 r2 =>
   cases r2 with
   | cons r3 r4 =>
    cases r4;cases (show _=SN e from r1);cases (show _=Uy T from r3);exact Um (vi c) I.mq J hk (λz=>nomatch z) λtk=>⟨.bl b,H,I.tok tk,rfl,q⟩
 .cases r with
  | cons r1 r2 =>
   cases r2 with
   | cons r3 r4 =>
    cases r4;cases (show _=SN e from r1);cases (show _=SN D from r3);exact Um (vi c) I.mq J hk (λz=>nomatch z) λtk=>⟨.bl b,H,I.tok tk,rfl,q⟩
end
variable{k:Nat}{es:List Expr}{e:Expr}{sp:Sp}{ps:List Str}{fd:FuncData}{f:Addr}
section
variable{p pos:Pos}{t:TA}
end
section
open PySem.SeqAt (shaped noMix noMixAll)
end
section
open PySem.SeqAt (shaped noMix noMixAll)
def Em{x:V}{u t:Value}(I:Inv X N9 σ H s)(rx:RelV x u)(ty:jJ X.K H x t):∃HH:Heap->Prop,aa8 X.K u t HH/\HH s.heap/\u≠.builtin "__main__.__loader__#opaque" := by
 cases ty with
 | dq=>cases (show u=TY from rx);exact⟨_,aaq,Uz,λz=>nomatch z⟩
 | bl y=>cases (show u=Vt y from rx);exact⟨_,aar,Uz,λz=>nomatch z⟩
 | int i=>obtain⟨t,q⟩:=(show ∃t,u=WT i t from rx);cases q;exact⟨_,aaF,Uz,λz=>nomatch z⟩
 | str y=>obtain⟨t,q⟩:=(show ∃t,u=XZ y t from rx);cases q;exact⟨_,aaG,Uz,λz=>nomatch z⟩
 | F_ y=>obtain⟨t,q⟩:=(show ∃t,u=ZM y t from rx);cases q;exact⟨_,aae,Uz,λz=>nomatch z⟩
 | @lst a xs ea =>
  cases (show u=SN a from rx);obtain⟨_,_,n,_,h1⟩:=(show bf X.prog X.w H s.heap a (.lst xs) from I.br a _ ea)
  exact⟨_,W3,⟨_,h1,rfl⟩,λz=>nomatch z⟩
 | @jx a ob xs ea =>
  cases (show u=SN a from rx);obtain⟨_,_,_,n,_,h1⟩:=(show bf X.prog X.w H s.heap a (.jx ob (.lst xs)) from I.br a _ ea)
  exact⟨_,W3,⟨_,h1,rfl⟩,λz=>nomatch z⟩
 | @tup a xs ea =>
  cases (show u=SN a from rx);obtain⟨_,_,_,o,h1,h2,_⟩:=(show bf X.prog X.w H s.heap a (.tup xs) from I.br a _ ea)
  exact⟨_,aaf,⟨o,h1,h2⟩,λz=>nomatch z⟩
 | @dK a Oa ea =>
  cases (show u=SN a from rx);obtain⟨_,_,vs,_,o,es,ep,h1,h2,_⟩:=(show bf X.prog X.w H s.heap a (.dK Oa) from I.br a _ ea)
  exact⟨_,W4,⟨o,h1,h2.1⟩,λz=>nomatch z⟩
 | @dT a Oa ea =>
  cases (show u=SN a from rx);obtain⟨_,_,xs,_,o,es,ep,h1,h2,_⟩:=(show bf X.prog X.w H s.heap a (.dT Oa) from I.br a _ ea)
  exact⟨_,W4,⟨o,h1,h2.1⟩,λz=>nomatch z⟩
 | @ins a C dx fs ea cl ha hn J1 hm =>
  cases (show u=SN a from rx);obtain⟨mA,O,_⟩:=l_ I.br ea;obtain⟨od,J,_⟩:=O.look;exact⟨_,aaH (cl.get _) cl.hd ha hn J1 hm,J,λz=>nomatch z⟩
def Kw(K:SD):List V->Hp->VK->Prop:=λxs H Q=>∃(x:V)(tp:Addr)(Ts:List String)(t:Value)(b:Bool),xs=[x,.ref tp]/\H tp=some (.tup (Ts.map V.ty))/\jJ K H x t/\Yb K t (Ts.map Uy)=some b/\Q (.bl b) H
theorem xS:∀{Ts:List String}{us:List Value},Vals (Ts.map V.ty) us->us=Ts.map Uy
 | [],us,r=>by rw[VY] at r;cases r;rfl
 | T::Ts,us,r=>by
  rw[S0] at r;cases r with
  | cons r1 r2 =>
   cases (show _=Uy T from r1);rw[xS r2];rfl
def zN:cv X (.builtin "isinstance") (Kw X.K):=by
 intro N9 s σ H xs us Q I r h;obtain⟨x,tp,Ts,t,b,rfl,htp,ty,e,q⟩:=h;cases r with
 | cons r1 r2 =>
  cases r2 with
  | cons r3 r4 =>
   cases r4;cases (show _=SN tp from r3);obtain⟨HH,Z,p,ne⟩:=Em I r1 ty;obtain⟨_,Ob,rv,o,h1,h2,n,h3⟩:=(show bf X.prog X.w H s.heap tp (.tup (Ts.map V.ty)) from I.br tp _ htp)
   have ei:=xS rv;subst ei;obtain⟨cls,dd,data,sl⟩:=o;dsimp only at h2 h3;subst h2 h3;exact PySem.W.kia_tup Z I.mq p h1 e ne λtk=>⟨.bl b,H,I.tok tk,rfl,q⟩
theorem xK:∀{bs:List Bool}{us:List Value},Vals (bs.map V.bl) us->us=bs.map Vt
 | [],us,r=>by rw[VY] at r;cases r;rfl
 | b::bs,us,r=>by
  rw[S0] at r;cases r with
  | cons r1 r2 =>
   cases (show _=Vt b from r1);rw[xK r2];rfl
def IC:bootBuiltins "all"=some (.builtin "all"):=by decide +kernel
def yV(hc:X.calm=true):cv X (.builtin "all") (λxs H Q=>∃(a:Addr)(bs:List Bool),xs=[.ref a]/\h9 X.K H a (bs.map V.bl)/\Q (.bl (bs.all id)) H):=by
 intro N9 s σ H xs us Q I r h;obtain⟨a,bs,rfl,hq,q⟩:=h;cases r with
 | cons r1 r2 =>
  cases r2;cases (show _=SN a from r1);obtain⟨Ob,rv,p,hz⟩:=I.list hq;have ei:=xK rv;subst ei;have hl:=p.isList;have OC:a<s.heap.objs.size:=by obtain⟨_,e,_⟩:=hl;exact SK e
  refine call_all_walk (Ww hl ?_);refine⟨s.heap.objs.size,[s.heap.objs.size,a],[s.heap.objs.size],(bs.map Vt).toArray.size,_,_,λi=>(bs[i]?).getD true,rfl,Y0 (A:=X.A.in1) (I.ok.hd hc) _ a (SW OC) (bs.map Vt).toArray,
   ⟨⟨_,SH _ rfl,rfl,rfl⟩,hl.push _⟩,λi v s' Q' E' hP hQ=>?_,λh' tk hk=>?_⟩
  .have hP':(bs.map Vt)[i]?=some v:=by simpa using hP
   rw[Te] at hP';obtain⟨b,e1,e2⟩:=Td.mp hP';subst e2;simp only[e1,Xn] at hQ;exact Us hQ
  .have e:((S1 (bs.map Vt).toArray.size).all λi=>(bs[i]?).getD true)=bs.all id:=by
    rw[S2,SG];rw[XE,Uq,Uq];constructor
    .intro h b hb;obtain⟨i,hi,e⟩:=WK hb;have:=h i (Uo.mpr hi);simp only[Sy hi,Xn,e] at this;exact this
    .intro h i hi;have Qc:=Uo.mp hi;simp only[Sy Qc,Xn];exact h _ (TZ Qc)
   rw[e];refine⟨.bl _,H,I.kept (t':=tk) (λb x e=>?_),rfl,q⟩;exact hk b x (λhm=>by rw[S7.mp hm] at e;exact U6 _ (SK e)) (Sw _ e)
end
section
open PySem.MeetsSeq PySem.MeetsSeq2 PySem.MeetsSeq3
def mM:fillsNumberSlot (.type "tuple") "mul"=pure false :=
 PySem.fillsNumberSlot_seq (id := "tuple.__mul__") (r:=some (.builtin "tuple.__rmul__")) F.slot_tuple_mul.lookup (by decide +kernel) F.slot_tuple_rmul.lookup (by decide +kernel)
def tM:seqRepeat? (.type "tuple")=pure (some (.builtin "tuple.__mul__")):=by
 unfold seqRepeat?;rw[aaL (T := "tuple") (name := "__mul__") (id := "tuple.__mul__") F.slot_tuple_mul.lookup (by decide +kernel),aaL (T := "tuple") (name := "__rmul__") (id := "tuple.__rmul__") F.slot_tuple_rmul.lookup (by decide +kernel)];rfl
def t6(a:Int)(t:Tok)(l:Addr)(items:Array Value)(n:Nat)(dd:Option Addr)(sl:Array (Option Value)):Meets (Builtin.«int.__rmul__» ⟨[.int a t,.ref l],[]⟩) (λ_ R s=>s.heap.get? l=some ⟨.type "tuple",dd,.seq items n,sl⟩/\R (.ok (.ret ZQ)) s) :=
 .of_wp λprog w A R s h=>by obtain⟨hp,g,d,tk,os⟩:=s;obtain⟨hl,h⟩:=h;wp_walk;exact⟨_,rfl,h⟩
def yI(l:Addr)(items:Array Value)(n:Nat)(dd:Option Addr)(sl:Array (Option Value))(u:Tok):Meets (Builtin.«tuple.__mul__» ⟨[.ref l,.int 1 u],[]⟩) (λ_ R s=>s.heap.get? l=some ⟨.type "tuple",dd,.seq items n,sl⟩/\R (.ok (.ret (.ref l))) s) :=
 .of_wp λprog w A R s h=>by
  obtain⟨hp,g,d,tk,os⟩:=s;obtain⟨hl,h⟩:=h;have f1:=YE;have f2:=V3
  wp_walk using UQ hl
  exact⟨_,rfl,h⟩
def zE(l:Addr)(items:Array Value)(n:Nat)(dd:Option Addr)(sl:Array (Option Value))(x:Int)(u:Tok)(c0:¬ (decide (x < -2^63)||decide (x>=2^63))=true)(c1:¬ (items.isEmpty||x==1)=true)(c2:¬ (decide (x<=0)||items.isEmpty)=true)(c3:¬ (items.size:Int)*x>(2^63-1)/8)(c4:¬ Yc ((items.size:Int)*x)=true)(hsz:(X8 (λx1 x2=>x1++x2) #[] (Sx x.toNat items)).size<=sizeLine):Meets (Builtin.«tuple.__mul__» ⟨[.ref l,.int x u],[]⟩) (λ_ R s=>s.heap.get? l=some ⟨.type "tuple",dd,.seq items n,sl⟩/\R (.ok (.ret (.ref s.heap.objs.size))) { s with heap:=s.heap.push { cls:=.type "tuple",data:=.seq (X8 (λx1 x2=>x1++x2) #[] (Sx x.toNat items)) },toks:=s.toks }) :=
 .of_wp λprog w A R s h=>by
  obtain⟨hp,g,d,tk,os⟩:=s;obtain⟨hl,h⟩:=h;have f1:=YE;have f2:=V3
  wp_walk using UQ hl
  refine Zu (decide_eq_false c0) ?_;wp_walk using UQ hl;refine Zu (decide_eq_false c3) ?_;wp_walk using UQ hl;exact⟨_,rfl,h⟩
def zM(l:Addr)(items:Array Value)(n:Nat)(dd:Option Addr)(sl:Array (Option Value))(x:Int)(u:Tok)(c0:¬ (decide (x < -2^63)||decide (x>=2^63))=true)(c1:¬ (items.isEmpty||x==1)=true)(c2:(decide (x<=0)||items.isEmpty)=true):Meets (Builtin.«tuple.__mul__» ⟨[.ref l,.int x u],[]⟩) (λ_ R s=>s.heap.get? l=some ⟨.type "tuple",dd,.seq items n,sl⟩/\R (.ok (.ret (.ref s.heap.objs.size))) { s with heap:=s.heap.push { cls:=.type "tuple",data:=.seq #[] },toks:=s.toks }) :=
 .of_wp λprog w A R s h=>by
  obtain⟨hp,g,d,tk,os⟩:=s;obtain⟨hl,h⟩:=h;have f1:=YE;have f2:=V3
  wp_walk using UQ hl
  refine Zu (decide_eq_false c0) ?_;wp_walk using UQ hl;exact⟨_,rfl,h⟩
def Gv(K:SD):R2:=λx y H Q=>∃a k xs,x=.ref a/\y=.int k/\fJ K H a xs/\xs≠[]/\-(2^63)<=k/\k<2^63/\xs.length*k.toNat<=sizeLine/\(k=1->Q (.ref a) H)/\(k≠1->∀p,H p=none->Q (.ref p) (upd H p (.tup (Sx k.toNat xs).flatten)))
theorem F2:gf X (binaryOp .Mult) (Gv X.K):=by
 intro N9 s σ H x y v u Q I rx ry h;obtain⟨a,k,xs,rfl,rfl,hq,Qi,h1,h2,hz,q1,q2⟩:=h;cases rx;obtain⟨t,rfl⟩:=ry;obtain⟨Ob,r,⟨o,e,hc,n,hd⟩,_⟩:=I.tuple hq;obtain⟨cls,dd,data,sl⟩:=o;dsimp only at hc hd;subst hc hd;have hl:=r.length;refine Yi (T := "tuple") (U := "int") ↑12 ⟨_,e,rfl⟩ (λs'=>YW s' k t) mM F.fills_int_mul F.slot_int_rmul tM F.slot_int_index.lookup
  (WQ F.slot_int_rmul (YW s k t) F.entry_int_rmul (F.args_int_rmul_2 _ _) (t6 k t a Ob.toArray n dd sl) ⟨e,rfl,⟨_,e,rfl⟩,?_⟩)
 by_cases hk1:k=1
 .subst hk1;exact WQ F.slot_tuple_mul ⟨_,e,rfl⟩ F.entry_tuple_mul (F.args_tuple_mul_2 _ _) (yI a Ob.toArray n dd sl t) ⟨e,⟨.ref a,H,I,rfl,q1 rfl⟩⟩
 .have Q0:(k==1)=false:=by simpa using hk1
  have hni:Ob≠[]:=λz=>Qi (r.lZ.mp z);have hie:Ob.toArray.isEmpty=false:=by cases Ob with|nil=>exact absurd rfl hni|cons _ _=>rfl
  have c0:¬ (decide (k < -2^63)||decide (k>=2^63))=true:=by simp;lia
  have c1:¬ (Ob.toArray.isEmpty||k==1)=true:=by rw[hie,Q0];simp
  have fin:∀ys,ys=(Sx k.toNat Ob).flatten.toArray->EP X N9 σ Q (.ref s.heap.objs.size) { s with heap:=s.heap.push { cls:=.type "tuple",data:=.seq ys },toks:=s.toks }:=λys ey=>by
   subst ey;refine⟨.ref s.heap.objs.size,_,I.laid (t':=s.toks) (o:=.tup (Sx k.toNat xs).flatten) (λb ob q=>Sw _ q) (SE _) ?_,rfl,q2 hk1 _ (I.br.fresh (SE _))⟩;exact⟨by rwa[len_rep,W6],_,r.rep k.toNat,aaI _ _⟩
  have Pu:X8 (λx1 x2=>x1++x2) #[] (Sx k.toNat Ob.toArray)=(Sx k.toNat Ob).flatten.toArray:=by
   have:=foldl_rep Ob k.toNat [];rwa[Zr] at this
  by_cases hk0:k<=0
  .have c2:(decide (k<=0)||Ob.toArray.isEmpty)=true:=by rw[decide_eq_true hk0];rfl
   refine WQ F.slot_tuple_mul ⟨_,e,rfl⟩ F.entry_tuple_mul (F.args_tuple_mul_2 _ _) (zM a Ob.toArray n dd sl k t c0 c1 c2) ⟨e,fin _ ?_⟩;rw[show k.toNat=0 by lia];rfl
  .have c2:¬ (decide (k<=0)||Ob.toArray.isEmpty)=true:=by rw[decide_eq_false hk0,hie];simp
   have em:((Ob.toArray.size:Nat):Int)*k=((xs.length*k.toNat:Nat):Int):=by
    rw[S2,<- hl,Zv,V9 ⋯]
   have hs:(sizeLine:Int)<=(2^63-1)/8:=by decide
   refine WQ F.slot_tuple_mul ⟨_,e,rfl⟩ F.entry_tuple_mul (F.args_tuple_mul_2 _ _) (zE a Ob.toArray n dd sl k t c0 c1 c2 ?_ ?_ ?_) ⟨e,fin _ Pu⟩
   .rw[em];lia
   .rw[em];unfold Yc;simp only[decide_eq_true_eq];lia
   .rw[Pu,S2,len_rep,W6,<- hl];exact hz
end
structure bh (K:SD) (x qual:Str) (st:Stmt) (dv:Value) (f:Addr) (fd:FuncData):Prop where
 ex:∃(oc:Value)(od:Option Addr)(kV doc pm:Value)(an:Option Addr)(Ov ct:Value)(Q4:Array (Option Value)),
  fd=UR x qual (gP st) (eM st) (aZ st) dv kV doc pm an Ov ct/\K.lookup f=some ⟨oc,od,.func fd,Q4⟩/\VG K Ov qual=true
 kp:Vn K (.ref f)=true
variable{base:Heap}{mg:Str->Option Value}
variable{ds:List Value}{T:Addr}{qual:Str}
section
variable{K:SD}
def bh.binds{st:Stmt}{o:Obj}(F:bh K x qual st (.ref T) f fd)(ho:K.lookup T=some o)(hs:o.data=.seq items n)(h:∀(kV doc pm:Value)(an:Option Addr)(Ov ct:Value)(us:List Value),(us++ds).length=ps.length->∃k,bindArgs (UR x qual (gP st) (eM st) (aZ st) (.ref T) kV doc pm an Ov ct) ⟨us,[]⟩=seqItems? (.ref T) >>= k/\k (some items)=pure (ps.zip (us++ds))):Binds K fd ps ds:=by
 obtain⟨oc,od,kV,doc,pm,an,Ov,ct,Q4,rfl,lk,O7⟩:=F.ex;intro s us X hl;obtain⟨k,h1,h2⟩:=h kV doc pm an Ov ct us hl;exact BindsTo.of_defaults rfl (X _ _ ho) hs h1 h2
end
variable{v:V}
def Kq{pos:Pos}(hg:Gl X x)(hm:∃u,X.mg x=some u/\RelV v u)(hd:autoParam ↑7 aD._auto_1):PE X (.Name x pos) (tC v):=by
 obtain⟨u,h1,h2⟩:=hm;exact FH hg h1 h2 hd
def v9:bootBuiltins "max"=some (.builtin "max"):=by decide +kernel
def DE:bootBuiltins "min"=some (.builtin "min"):=by decide +kernel
variable{y:Str}
def DT{cl:List (Str×Addr)}{pos Px py:Pos}{wi:TI}{g:TG}{fs:List Str}(hN:X.N.Nodup)(Rw:X.N[i]?=some y)(hy:Loc X.env.scope y)(Ow:X.calm=true)(OB:closureFor scope X.env=pure cl)(hk:scope.kind=.function)(nc:fL scope.names=true)(lo:g_ scope.names=true)(fh:gS cl scope.names=true)(ag:eI X cl)(fr:iR X scope cl fs js)(hi:PI X tg iter wi)(hg:∀C s₀ H₀ ex N9,PG (qq X scope cl (ts++fs) C s₀ H₀ ex N9) tg g)(he:∀C s₀ H₀ ex N9,PE (qq X scope cl (ts++fs) C s₀ H₀ ex N9) elt te)(hs:autoParam ↑5 aI._auto_1)(Rf:autoParam (swapsWith (.ListComp elt [⟨tg,iter,[],0⟩] scope pos) (some (.Name y py)) Px.line X.env=pure true) aR._auto_1)(hf:autoParam (X.fn y=true\/X.env.scope.names.lookup y=some .local) aF._auto_1):PS X (.Assign [.Name y py] (.ListComp elt [⟨tg,iter,[],0⟩] scope pos) Px) (Iu (w_ wi g te ts js) (aE i)):=by
 intro N9 s σ H D I h;rw[ZC _ _ _ _ Rf];refine Rz (Yw (Rz ?_));show wpAny _ X.A (do let _ <- comprehension (.ListComp elt [⟨tg,iter,[],0⟩] scope pos) scope X.env _ (newList []) false (eval iter X.env) (some (assign (.Name y py) X.env))) _ _ s;refine Rz (Vc (pX (tt:=none) Ow OB hk nc lo fh ag fr hi hg (λ_ _ _ _ _=>trivial) he hs I (show yh wi g none te ts js σ H (λx H1=>D.nx (σ.set i (some x)) H1) from h) (some (assign (.Name y py) X.env)) (λ_ s'=>SP X N9 D .next s') λDd H' s' C Io q hm f=>?_) (λ_ s' hq=>SA (SA hq)) λ_ _ e=>e);show wpAny _ X.A (assign (.Name y py) X.env (.ref Dd)) _ _ s';refine Yo (mC Io hN Rw hy (v:=.ref Dd) rfl (λSs I'' ⟨a,sb,ha⟩=>?_) hf);obtain⟨m,hn⟩:=hm;obtain⟨f0,f1,f2,f3,f4,f5⟩:=f;have naC:a≠C:=by
  rcases ha with z|z
  .rw[z];exact λw=>f1 w.symm
  .exact f4 y a z
 refine⟨m,hn.sameBut sb (UN naC),λh' Qa=>?_⟩;exact⟨_,H',I''.other ⟨f0,f1,f2,f3,f4,f5⟩ Qa,q⟩
def oI(a b c:Value):checkTypeCall "zip" ⟨[a,b,c],[]⟩=pure ():=by kernel_rfl
def qQ(a b c:Value):checkBuiltinCall "zip.__new__" ⟨[.type "zip",a,b,c],[]⟩=pure ():=by kernel_rfl
abbrev bD(h:Heap)(T:Addr)(a b c:Value):Prop:=h.get? T=some { cls:=.type "tuple",data:=.seq #[a,b,c] }
structure Z3 (z TI TO i1 i2 i3:Addr):Prop where
 TIz:TI≠z
 TOz:TO≠z
 i1z:i1≠z
 i2z:i2≠z
 JZ:i3≠z
 TITO:TI≠TO
 TIi1:TI≠i1
 TIi2:TI≠i2
 Nb:TI≠i3
 TOi1:TO≠i1
 TOi2:TO≠i2
 E1:TO≠i3
 i12:i1≠i2
 Mt:i1≠i3
 M7:i2≠i3
structure L3 (z TO i1 i2 i3 l:Addr):Prop where
 z:l≠z
 o:l≠TO
 i1:l≠i1
 i2:l≠i2
 i3:l≠i3
section
variable{E:Value->Shared->Prop}
def c8{a b c x:Value}{Q:Unit->Shared->Prop}(hT:bD s.heap T a b c)(h:∀h',h'.get? T=some { cls:=.type "tuple",data:=.seq ((#[a,b,c]:Array Value).setIfInBounds k x) }->VW T s.heap h'->Q () { s with heap:=h' }):wpAny ↑11 A (updateSeq T (·.setIfInBounds k x)) Q E s:=by
 refine UT hT rfl (h _ ?_ (V8 ..));rw[TL _ hT rfl];simp[Vd]
variable{b1 b2 b3:Bool}{z TI TO i1 i2 i3 l3:Addr}{k3:Nat}{xs zs:Array Value}{x y v a b c:Value}
def yp(D:Z3 z TI TO i1 i2 i3)(D1:L3 z TO i1 i2 i3 l1)(D2:L3 z TO i1 i2 i3 l2)(D3:L3 z TO i1 i2 i3 l3)(hz:IsZip s.heap z TI TO .none)(OR:bD s.heap TI (.ref i1) (.ref i2) (.ref i3))(OU:bD s.heap TO a b c)(h1:dZ s.heap b1 i1 l1 k1)(h2:dZ s.heap b2 i2 l2 k2)(h3:dZ s.heap b3 i3 l3 k3)(Pr:eO s.heap b1 l1 xs)(Pt:eO s.heap b2 l2 ys)(QM:eO s.heap b3 l3 zs)(hx:xs[k1]?=some x)(hy:ys[k2]?=some y)(hv:zs[k3]?=some v)(hQ:∀h',IsZip h' z TI TO (rawInt s.heap.objs.size)->bD h' TO x y v->dZ h' b1 i1 l1 (k1+1)->dZ h' b2 i2 l2 (k2+1)->dZ h' b3 i3 l3 (k3+1)->bD h' s.heap.objs.size x y v->h'.objs.size=s.heap.objs.size+1 ->(∀c o,c≠z->c≠TO->c≠i1->c≠i2->c≠i3->s.heap.get? c=some o->h'.get? c=some o)->Q (.ref s.heap.objs.size) { s with heap:=h' }):wpAny ↑11 A (Builtin.«zip.__next__» ⟨[.ref z],[]⟩) (λfin s'=>∃v,fin=.done (.ret v)/\Q v s') E s:=by
 show wpAny _ _ (field (.ref z) 2 >>= _) _ _ _;refine Rz (Tv hz rfl (x:=.bool false) rfl ?_);show wpAny _ _ (field (.ref z) 3 >>= _) _ _ _;refine Rz (Tv hz rfl (x:=.ref TI) rfl ?_);refine Rz (TN OR rfl ?_);show wpAny _ _ (TQ (.ref z) >>= _) _ _ _;refine Rz ?_;unfold TQ;refine Rz (Tv hz rfl (x:=.none) rfl (SA ?_));simp only[if_true];refine Rz (U9 ?_);refine Rz (Tv hz rfl (x:=.ref TO) rfl ?_);refine Rz (T9 hz ↑13 λh₁ hz1 hs₁=>?_)
 replace hz1:IsZip h₁ z TI TO .ellipsis:=hz1
 refine Rz ?_;simp only[VF,XD,Wq,Wa];refine Rz (Rz (Vi ?_));show wpAny _ _ (Tg (.ref i1) >>= _) _ _ _;refine Rz (cD (h1.at λo e=>hs₁.extBut _ _ D.i1z e) (Pr.at λo e=>hs₁.extBut _ _ D1.z e) hx λh₂ h1₂ hs2=>SA ?_);have hTO2:bD h₂ TO a b c:=hs2.extBut _ _ D.TOi1 (hs₁.extBut _ _ D.TOz OU);refine Rz (TN hTO2 rfl ?_);refine Rz (c8 hTO2 λh₃ hTO3 hs3=>?_)
 replace hTO3:bD h₃ TO x b c:=hTO3
 refine Rz (Uw (SA ?_));have Q3:∀q o,q≠z->q≠TO->q≠i1->s.heap.get? q=some o->h₃.get? q=some o:=λq o c1 c2 c3 e=>hs3.extBut _ _ c2 (hs2.extBut _ _ c3 (hs₁.extBut _ _ c1 e));refine Rz (Rz (Vi ?_));show wpAny _ _ (Tg (.ref i2) >>= _) _ _ _;refine Rz (cD (h2.at λo e=>Q3 _ o D.i2z D.TOi2.symm D.i12.symm e) (Pt.at λo e=>Q3 _ o D2.z D2.o D2.i1 e) hy λh₄ h2₄ hs4=>SA ?_);have hTO4:bD h₄ TO x b c:=hs4.extBut _ _ D.TOi2 hTO3;refine Rz (TN hTO4 rfl ?_);refine Rz (c8 hTO4 λh₅ hTO5 hs5=>?_)
 replace hTO5:bD h₅ TO x y c:=hTO5
 refine Rz (Uw (SA ?_));have k5:∀q o,q≠z->q≠TO->q≠i1->q≠i2->s.heap.get? q=some o->h₅.get? q=some o:=λq o c1 c2 c3 c4 e=>hs5.extBut _ _ c2 (hs4.extBut _ _ c4 (Q3 q o c1 c2 c3 e));refine Rz (Rz (Vi ?_));show wpAny _ _ (Tg (.ref i3) >>= _) _ _ _;refine Rz (cD (h3.at λo e=>k5 _ o D.JZ D.E1.symm D.Mt.symm D.M7.symm e) (QM.at λo e=>k5 _ o D3.z D3.o D3.i1 D3.i2 e) hv λh₆ h3₆ hs6=>SA ?_);have hTO6:bD h₆ TO x y c:=hs6.extBut _ _ D.E1 hTO5;refine Rz (TN hTO6 rfl ?_);refine Rz (c8 hTO6 λh₇ hTO7 hs7=>?_)
 replace hTO7:bD h₇ TO x y v:=hTO7
 refine Rz (Uw (SA (SA ?_)));refine Rz (TN hTO7 rfl ?_);refine Rz (ZS ?_);have hsz:h₇.objs.size=s.heap.objs.size:=by rw[hs7.1,hs6.1,hs5.1,hs4.1,hs3.1,hs2.1,hs₁.1]
 have hz3:IsZip h₃ z TI TO .ellipsis:=hs3.extBut _ _ D.TOz.symm (hs2.extBut _ _ D.i1z.symm hz1);have hz5:IsZip h₅ z TI TO .ellipsis:=hs5.extBut _ _ D.TOz.symm (hs4.extBut _ _ D.i2z.symm hz3);have hz7:IsZip h₇ z TI TO .ellipsis:=hs7.extBut _ _ D.TOz.symm (hs6.extBut _ _ D.JZ.symm hz5);have k7:∀q o,q≠z->q≠TO->q≠i1->q≠i2->q≠i3->s.heap.get? q=some o->h₇.get? q=some o:=λq o c1 c2 c3 c4 c5 e=>hs7.extBut _ _ c2 (hs6.extBut _ _ c5 (k5 q o c1 c2 c3 c4 e));have h1₇:dZ h₇ b1 i1 l1 (k1+1):=h1₂.at λo e=>hs7.extBut _ _ D.TOi1.symm (hs6.extBut _ _ D.Mt (hs5.extBut _ _ D.TOi1.symm (hs4.extBut _ _ D.i12 (hs3.extBut _ _ D.TOi1.symm e))));have h2₇:dZ h₇ b2 i2 l2 (k2+1):=h2₄.at λo e=>hs7.extBut _ _ D.TOi2.symm (hs6.extBut _ _ D.M7 (hs5.extBut _ _ D.TOi2.symm e));have h3₇:dZ h₇ b3 i3 l3 (k3+1):=h3₆.at λo e=>hs7.extBut _ _ D.E1.symm e;have QQ:z<h₇.objs.size:=SK hz7;show wpAny _ _ (UM (.ref z) (.ref h₇.objs.size) >>= _) _ _ _;refine Rz ?_;unfold UM;have hz₈:IsZip (h₇.push { cls:=.type "tuple",data:=.seq #[x,y,v] }) z TI TO .ellipsis:=Sw _ hz7;refine Rz (T9 hz₈ ↑13 λh₉ hz9 hs9=>?_)
 replace hz9:IsZip h₉ z TI TO (rawInt h₇.objs.size):=hz9
 refine T9 hz9 ↑13 λhA hzA hsA=>?_
 replace hzA:IsZip hA z TI TO (rawInt h₇.objs.size):=hzA
 have up:∀c o,c≠z->h₇.get? c=some o->hA.get? c=some o:=λc o c1 e=>hsA.extBut _ _ c1 (hs9.extBut _ _ c1 (Sw _ e));have hTA:bD hA h₇.objs.size x y v:=hsA.extBut _ _ (Uu QQ) (hs9.extBut _ _ (Uu QQ) (SH _ rfl));have Sh:hA.objs.size=h₇.objs.size+1:=by rw[hsA.1,hs9.1,TM]
 rw[hsz] at hzA hTA Sh;refine SA ⟨_,rfl,?_⟩;show Q (.ref h₇.objs.size) _;rw[hsz];exact hQ hA hzA (up _ _ D.TOz hTO7) (h1₇.at λo e=>up _ o D.i1z e) (h2₇.at λo e=>up _ o D.i2z e) (h3₇.at λo e=>up _ o D.JZ e) hTA Sh λc o c1 c2 c3 c4 c5 e=>up c o c1 (k7 c o c1 c2 c3 c4 c5 e)
def Br{Q:Fin->Shared->Prop}(hh:A.handled=none)(D:Z3 z TI TO i1 i2 i3)(D1:L3 z TO i1 i2 i3 l1)(D2:L3 z TO i1 i2 i3 l2)(D3:L3 z TO i1 i2 i3 l3)(hz:IsZip s.heap z TI TO .none)(OR:bD s.heap TI (.ref i1) (.ref i2) (.ref i3))(OU:bD s.heap TO a b c)(h1:dZ s.heap b1 i1 l1 k1)(h2:dZ s.heap b2 i2 l2 k2)(h3:dZ s.heap b3 i3 l3 k3)(Pr:eO s.heap b1 l1 xs)(Pt:eO s.heap b2 l2 ys)(QM:eO s.heap b3 l3 zs)(Pl:xs[k1]?=none\/ys[k2]?=none\/zs[k3]?=none)(hE:∀h' e,(∀c o,c≠z->c≠TO->c≠i1->c≠i2->c≠i3->s.heap.get? c=some o->h'.get? c=some o)->(∃o,h'.get? e=some o/\o.cls=.type "StopIteration")->E (.ref e) { s with heap:=h' }):wpAny ↑11 A (Builtin.«zip.__next__» ⟨[.ref z],[]⟩) Q E s:=by
 show wpAny _ _ (field (.ref z) 2 >>= _) _ _ _;refine Rz (Tv hz rfl (x:=.bool false) rfl ?_);show wpAny _ _ (field (.ref z) 3 >>= _) _ _ _;refine Rz (Tv hz rfl (x:=.ref TI) rfl ?_);refine Rz (TN OR rfl ?_);show wpAny _ _ (TQ (.ref z) >>= _) _ _ _;refine Rz ?_;unfold TQ;refine Rz (Tv hz rfl (x:=.none) rfl (SA ?_));simp only[if_true];refine Rz (U9 ?_);refine Rz (Tv hz rfl (x:=.ref TO) rfl ?_);refine Rz (T9 hz ↑13 λh₁ hz1 hs₁=>?_)
 replace hz1:IsZip h₁ z TI TO .ellipsis:=hz1
 refine Rz ?_;simp only[VF,XD,Wq,Wa];refine Rz (Rz (Vi ?_));show wpAny _ _ (Tg (.ref i1) >>= _) _ _ _;cases hx:xs[k1]? with
 | none =>
  refine Rz (gq hh (h1.at λo e=>hs₁.extBut _ _ D.i1z e) (Pr.at λo e=>hs₁.extBut _ _ D1.z e) hx λh₂ e hs2 he=>?_);obtain⟨oe,PF,Qr⟩:=he;have hz2:IsZip h₂ z TI TO .ellipsis:=hs2 _ _ D.i1z.symm hz1;have Q_:e≠z:=λx=>by subst x;rw[hz2] at PF;cases PF;simp at Qr
  refine T9 hz2 ↑13 λh₃ _ hs3=>hE h₃ e (λc o c1 _ c3 _ _ x=>hs3.extBut _ _ c1 (hs2 _ _ c3 (hs₁.extBut _ _ c1 x))) ⟨oe,hs3.extBut _ _ Q_ PF,Qr⟩
 | some x =>
  refine Rz (cD (h1.at λo e=>hs₁.extBut _ _ D.i1z e) (Pr.at λo e=>hs₁.extBut _ _ D1.z e) hx λh₂ h1₂ hs2=>SA ?_);have hTO2:bD h₂ TO a b c:=hs2.extBut _ _ D.TOi1 (hs₁.extBut _ _ D.TOz OU);refine Rz (TN hTO2 rfl ?_);refine Rz (c8 hTO2 λh₃ hTO3 hs3=>?_)
  replace hTO3:bD h₃ TO x b c:=hTO3
  refine Rz (Uw (SA ?_));have Q3:∀q o,q≠z->q≠TO->q≠i1->s.heap.get? q=some o->h₃.get? q=some o:=λq o c1 c2 c3 e=>hs3.extBut _ _ c2 (hs2.extBut _ _ c3 (hs₁.extBut _ _ c1 e));have hz3:IsZip h₃ z TI TO .ellipsis:=hs3.extBut _ _ D.TOz.symm (hs2.extBut _ _ D.i1z.symm hz1);refine Rz (Rz (Vi ?_));show wpAny _ _ (Tg (.ref i2) >>= _) _ _ _;cases hy:ys[k2]? with
  | none =>
   refine Rz (gq hh (h2.at λo e=>Q3 _ o D.i2z D.TOi2.symm D.i12.symm e) (Pt.at λo e=>Q3 _ o D2.z D2.o D2.i1 e) hy λh₄ e hs4 he=>?_);obtain⟨oe,PF,Qr⟩:=he;have hz₄:IsZip h₄ z TI TO .ellipsis:=hs4 _ _ D.i2z.symm hz3;have Q_:e≠z:=λx=>by subst x;rw[hz₄] at PF;cases PF;simp at Qr
   refine T9 hz₄ ↑13 λh₅ _ hs5=>hE h₅ e (λc o c1 c2 c3 c4 _ x=>hs5.extBut _ _ c1 (hs4 _ _ c4 (Q3 c o c1 c2 c3 x))) ⟨oe,hs5.extBut _ _ Q_ PF,Qr⟩
  | some y =>
   have hv:zs[k3]?=none:=by
    rcases Pl with h|h|h
    .rw[hx] at h;cases h
    .rw[hy] at h;cases h
    .exact h
   refine Rz (cD (h2.at λo e=>Q3 _ o D.i2z D.TOi2.symm D.i12.symm e) (Pt.at λo e=>Q3 _ o D2.z D2.o D2.i1 e) hy λh₄ h2₄ hs4=>SA ?_);have hTO4:bD h₄ TO x b c:=hs4.extBut _ _ D.TOi2 hTO3;refine Rz (TN hTO4 rfl ?_);refine Rz (c8 hTO4 λh₅ hTO5 hs5=>?_);refine Rz (Uw (SA ?_));have k5:∀q o,q≠z->q≠TO->q≠i1->q≠i2->s.heap.get? q=some o->h₅.get? q=some o:=λq o c1 c2 c3 c4 e=>hs5.extBut _ _ c2 (hs4.extBut _ _ c4 (Q3 q o c1 c2 c3 e));have hz5:IsZip h₅ z TI TO .ellipsis:=hs5.extBut _ _ D.TOz.symm (hs4.extBut _ _ D.i2z.symm hz3);refine Rz (Rz (Vi ?_));show wpAny _ _ (Tg (.ref i3) >>= _) _ _ _;refine Rz (gq hh (h3.at λo e=>k5 _ o D.JZ D.E1.symm D.Mt.symm D.M7.symm e) (QM.at λo e=>k5 _ o D3.z D3.o D3.i1 D3.i2 e) hv λh₆ e hs6 he=>?_);obtain⟨oe,PF,Qr⟩:=he;have hz6:IsZip h₆ z TI TO .ellipsis:=hs6 _ _ D.JZ.symm hz5;have Q_:e≠z:=λx=>by subst x;rw[hz6] at PF;cases PF;simp at Qr
   refine T9 hz6 ↑13 λh₇ _ hs7=>hE h₇ e (λc o c1 c2 c3 c4 c5 x=>hs7.extBut _ _ c1 (hs6 _ _ c5 (k5 c o c1 c2 c3 c4 x))) ⟨oe,hs7.extBut _ _ Q_ PF,Qr⟩
end
section
variable{E:Value->Shared->Prop}
variable{b1 b2 b3:Bool}{z TI TO i1 i2 i3 l3:Addr}{k3:Nat}{xs zs:Array Value}{x y v a b c:Value}
def mJ{Q:Option Value->Shared->Prop}(D:Z3 z TI TO i1 i2 i3)(D1:L3 z TO i1 i2 i3 l1)(D2:L3 z TO i1 i2 i3 l2)(D3:L3 z TO i1 i2 i3 l3)(hz:IsZip s.heap z TI TO .none)(OR:bD s.heap TI (.ref i1) (.ref i2) (.ref i3))(OU:bD s.heap TO a b c)(h1:dZ s.heap b1 i1 l1 k1)(h2:dZ s.heap b2 i2 l2 k2)(h3:dZ s.heap b3 i3 l3 k3)(Pr:eO s.heap b1 l1 xs)(Pt:eO s.heap b2 l2 ys)(QM:eO s.heap b3 l3 zs)(hx:xs[k1]?=some x)(hy:ys[k2]?=some y)(hv:zs[k3]?=some v)(hQ:∀h',IsZip h' z TI TO (rawInt s.heap.objs.size)->bD h' TO x y v->dZ h' b1 i1 l1 (k1+1)->dZ h' b2 i2 l2 (k2+1)->dZ h' b3 i3 l3 (k3+1)->bD h' s.heap.objs.size x y v->h'.objs.size=s.heap.objs.size+1 ->(∀c o,c≠z->c≠TO->c≠i1->c≠i2->c≠i3->s.heap.get? c=some o->h'.get? c=some o)->Q (some (.ref s.heap.objs.size)) { s with heap:=h' }):wpAny ↑11 A (pyNext (.ref z)) Q E s:=by
 have hT:s.TypeIs (.ref z) "zip" := ⟨_,hz,rfl⟩
 unfold pyNext;exact Rz (Vj (T4 (name:=Tp "__next__") hT F.slot_zip_next
  (Uc F.slot_zip_next hT F.entry_zip_next
   (yp D D1 D2 D3 hz OR OU h1 h2 h3 Pr Pt QM hx hy hv λh' a1 a2 a3 a4 a5 a6 a7 a8=>SA (hQ h' a1 a2 a3 a4 a5 a6 a7 a8)) (F.args_zip_next_1 _))))
def nV{Q:Option Value->Shared->Prop}(hh:A.handled=none)(D:Z3 z TI TO i1 i2 i3)(D1:L3 z TO i1 i2 i3 l1)(D2:L3 z TO i1 i2 i3 l2)(D3:L3 z TO i1 i2 i3 l3)(hz:IsZip s.heap z TI TO .none)(OR:bD s.heap TI (.ref i1) (.ref i2) (.ref i3))(OU:bD s.heap TO a b c)(h1:dZ s.heap b1 i1 l1 k1)(h2:dZ s.heap b2 i2 l2 k2)(h3:dZ s.heap b3 i3 l3 k3)(Pr:eO s.heap b1 l1 xs)(Pt:eO s.heap b2 l2 ys)(QM:eO s.heap b3 l3 zs)(Pl:xs[k1]?=none\/ys[k2]?=none\/zs[k3]?=none)(hQ:∀h',(∀c o,c≠z->c≠TO->c≠i1->c≠i2->c≠i3->s.heap.get? c=some o->h'.get? c=some o)->Q none { s with heap:=h' }):wpAny ↑11 A (pyNext (.ref z)) Q E s:=by
 have hT:s.TypeIs (.ref z) "zip" := ⟨_,hz,rfl⟩
 unfold pyNext;refine Rz (Vj (T4 (name:=Tp "__next__") hT F.slot_zip_next
  (Uc F.slot_zip_next hT F.entry_zip_next (Br hh D D1 D2 D3 hz OR OU h1 h2 h3 Pr Pt QM Pl λh' e hk he=>?_) (F.args_zip_next_1 _))))
 obtain⟨o,ho,hc⟩:=he;refine Rz (Wb (T := "StopIteration") (b:=true) ⟨o,ho,hc⟩ X_ ?_);exact SA (hQ _ hk)
end
abbrev LV(h:Heap)(b1 b2 b3:Bool)(l1 l2 l3:Addr):Heap:=(GD h b1 b2 l1 l2).push (DN b3 l3)
abbrev L9(h:Heap)(b1 b2 b3:Bool)(l1 l2 l3:Addr):Heap:=(LV h b1 b2 b3 l1 l2 l3).push { cls:=.type "tuple",data:=.seq #[.ref h.objs.size,.ref (Il h b1 l1).objs.size,.ref (GD h b1 b2 l1 l2).objs.size] }
abbrev L_(h:Heap)(b1 b2 b3:Bool)(l1 l2 l3:Addr):Heap:=(L9 h b1 b2 b3 l1 l2 l3).push { cls:=.type "tuple",data:=.seq #[.none,.none,.none] }
abbrev IT(h:Heap)(b1 b2 b3:Bool)(l1 l2 l3:Addr):Heap:=(L_ h b1 b2 b3 l1 l2 l3).push { cls:=.type "zip",data:=.fields #[.none,.bool false,.bool false,.ref (LV h b1 b2 b3 l1 l2 l3).objs.size,.ref (L9 h b1 b2 b3 l1 l2 l3).objs.size] }
def p9(b1 b2 b3:Bool)(l1 l2 l3:Addr)(xs ys zs:Array Value):Meets (Builtin.«zip.__new__» ⟨[.type "zip",.ref l1,.ref l2,.ref l3],[]⟩) (λ_ R s=>eO s.heap b1 l1 xs/\eO s.heap b2 l2 ys/\eO s.heap b3 l3 zs ∧R (.ok (.ret (.ref (L_ s.heap b1 b2 b3 l1 l2 l3).objs.size))) { s with heap:=IT s.heap b1 b2 b3 l1 l2 l3 }) :=
 .of_wp λprog w A R s h=>by
  obtain⟨hp,g,d,tk,os⟩:=s;obtain⟨Pr,Pt,QM,h⟩:=h;have Sd:=sub_zip;have hL1:eO (Xz ⟨hp,g,d,tk,os⟩) b1 l1 xs:=Pr;have hL2:eO (Xz ⟨hp.push (DN b1 l1),g,d,tk,os⟩) b2 l2 ys:=eO.push Pt _;have hL3:eO (Xz ⟨(hp.push (DN b1 l1)).push (DN b2 l2),g,d,tk,os⟩) b3 l3 zs:=eO.push (eO.push QM _) _
  wp_walk using fu hL1,fu hL2,fu hL3
  exact⟨_,rfl,h⟩
section
variable{E:Value->Shared->Prop}
def zI{b1 b2 b3:Bool}{l3:Addr}{xs zs:Array Value}(Pr:eO s.heap b1 l1 xs)(Pt:eO s.heap b2 l2 ys)(QM:eO s.heap b3 l3 zs)(h:∀h',IsZip h' (s.heap.objs.size+5) (s.heap.objs.size+3) (s.heap.objs.size+4) .none->bD h' (s.heap.objs.size+3) (.ref s.heap.objs.size) (.ref (s.heap.objs.size+1)) (.ref (s.heap.objs.size+2)) ->bD h' (s.heap.objs.size+4) .none .none .none->dZ h' b1 s.heap.objs.size l1 0->dZ h' b2 (s.heap.objs.size+1) l2 0->dZ h' b3 (s.heap.objs.size+2) l3 0 ->(∀c o,s.heap.get? c=some o->h'.get? c=some o)->Q (.ref (s.heap.objs.size+5)) { s with heap:=h' }):wpAny ↑11 A (call (.type "zip") [.ref l1,.ref l2,.ref l3]) Q E s:=by
 refine aax F.called_zip ↑12 (oI _ _ _) (qQ _ _ _) (λobj=>F.initArgs_range_3 obj _ _ _) F.entry_zip_new
  (p9 b1 b2 b3 l1 l2 l3 xs ys zs) ⟨Pr,Pt,QM,?_⟩
 have z1:(Il s.heap b1 l1).objs.size=s.heap.objs.size+1:=TM ..;have z2:(GD s.heap b1 b2 l1 l2).objs.size=s.heap.objs.size+2:=by rw[TM,z1]
 have z3:(LV s.heap b1 b2 b3 l1 l2 l3).objs.size=s.heap.objs.size+3:=by rw[TM,z2]
 have z4:(L9 s.heap b1 b2 b3 l1 l2 l3).objs.size=s.heap.objs.size+4:=by rw[TM,z3]
 have z5:(L_ s.heap b1 b2 b3 l1 l2 l3).objs.size=s.heap.objs.size+5:=by rw[TM,z4]
 have g6:(IT s.heap b1 b2 b3 l1 l2 l3).get? (L_ s.heap b1 b2 b3 l1 l2 l3).objs.size=some _:=SH _ rfl;have g5:(IT s.heap b1 b2 b3 l1 l2 l3).get? (L9 s.heap b1 b2 b3 l1 l2 l3).objs.size=some _:=Sw _ (SH _ rfl);have g4:(IT s.heap b1 b2 b3 l1 l2 l3).get? (LV s.heap b1 b2 b3 l1 l2 l3).objs.size=some _:=Sw _ (Sw _ (SH _ rfl));have g3:(IT s.heap b1 b2 b3 l1 l2 l3).get? (GD s.heap b1 b2 l1 l2).objs.size=some _:=Sw _ (Sw _ (Sw _ (SH _ rfl)));have g2:(IT s.heap b1 b2 b3 l1 l2 l3).get? (Il s.heap b1 l1).objs.size=some _:=Sw _ (Sw _ (Sw _ (Sw _ (SH _ rfl))));have g1:(IT s.heap b1 b2 b3 l1 l2 l3).get? s.heap.objs.size=some _:=Sw _ (Sw _ (Sw _ (Sw _ (Sw _ (SH _ rfl)))));show _/\_;rw[z3,z4,z5] at g6;rw[z1,z2,z3] at g4;rw[z4] at g5;rw[z2] at g3;rw[z1] at g2;rw[z5];exact⟨⟨_,g6,rfl⟩,h _ g6 g4 g5 (dZ.new _ b1 _ _ g1) (dZ.new _ b2 _ _ g2) (dZ.new _ b3 _ _ g3) λc o x =>
  Sw _ (Sw _ (Sw _ (Sw _ (Sw _ (Sw _ x)))))⟩
end
def Mn (K : SD)(b1 b2 b3 : Bool)(a1 a2 a3 : Addr) : It :=
  ⟨λi H => ∃xs ys zs x y v,jC K H b1 a1 xs /\ jC K H b2 a2 ys /\ jC K H b3 a3 zs /\ xs[i]? = some x /\ ys[i]? = some y /\ zs[i]? = some v,
   λi H r H' => ∃p x y v,H p=none /\ r=.ref p /\ H'=upd H p (.tup [x,y,v]) /\ (∀xs,jC K H b1 a1 xs -> xs[i]? = some x) /\ (∀ys,jC K H b2 a2 ys -> ys[i]? = some y) /\ (∀zs,jC K H b3 a3 zs -> zs[i]? = some v),
   λi H => ∃xs ys zs,jC K H b1 a1 xs /\ jC K H b2 a2 ys /\ jC K H b3 a3 zs /\ (xs.length <= i \/ ys.length <= i \/ zs.length <= i)⟩
def qZ{z TI TO i1 i2 i3 a:Addr}{xs:List V}(I:Inv X N9 σ H s)(h:jC X.K H b a xs)(hf:∀b∈[z,TO,i1,i2,i3,TI],lj X N9 H b):L3 z TO i1 i2 i3 a :=
 ⟨cn I h (hf z ↑13),cn I h (hf TO ↑13),cn I h (hf i1 ↑13),cn I h (hf i2 ↑13),cn I h (hf i3 ↑13)⟩
theorem yQ{K:SD}{tp:Pos}(b1 b2 b3:Bool)(a1 a2 a3 z TI TO i1 i2 i3:Addr)(D:Z3 z TI TO i1 i2 i3):Turn P w K (.Tuple elts x1 tp) (Mn K b1 b2 b3 a1 a2 a3) [z,TO,i1,i2,i3,TI] z (λi h=>IsZip h z TI TO .none/\bD h TI (.ref i1) (.ref i2) (.ref i3)/\(∃a b c,bD h TO a b c)/\dZ h b1 i1 a1 i/\dZ h b2 i2 a2 i/\dZ h b3 i3 a3 i) where
 mem:=by simp
 obj:=λi h st b hb=>by
  obtain⟨hz,OR,⟨a,c,d,OU⟩,h1,h2,h3⟩:=st;simp only[SQ,Ur,or_false] at hb;rcases hb with q|q|q|q|q|q<;>subst q
  .exact⟨_,hz,λv z=>by cases z⟩
  .exact⟨_,OU,λv z=>by cases z⟩
  .obtain⟨o,vs,e,d⟩:=h1.obj;exact⟨o,e,λv z=>by rw[d] at z;cases z⟩
  .obtain⟨o,vs,e,d⟩:=h2.obj;exact⟨o,e,λv z=>by rw[d] at z;cases z⟩
  .obtain⟨o,vs,e,d⟩:=h3.obj;exact⟨o,e,λv z=>by rw[d] at z;cases z⟩
  .exact⟨_,OR,λv z=>by cases z⟩
 keep:=λi h h' st k=>by
  obtain⟨hz,OR,⟨a,c,d,OU⟩,h1,h2,h3⟩:=st;exact⟨k z ↑13 _ hz,k TI ↑13 _ OR,⟨a,c,d,k TO ↑13 _ OU⟩,h1.at λo e=>k i1 ↑13 o e,h2.at λo e=>k i2 ↑13 o e,h3.at λo e=>k i3 ↑13 o e⟩
 item:=by
  intro X hP hw hK hc i N9 s σ H E I hf st hg;subst hP hw hK;obtain⟨xs,ys,zs,x,y,v,OS,ON,Ql,hx,hy,hv⟩:=hg;obtain⟨QR,Ri,p1,Sf⟩:=I.row OS;obtain⟨Pw,Rj,p2,RN⟩:=I.row ON;obtain⟨Sj,rv3,p3,hz3'⟩:=I.row Ql;obtain⟨u1,hu1,ru1⟩:=Ri.get hx;obtain⟨u2,hu2,ru2⟩:=Rj.get hy;obtain⟨u3,hu3,ru3⟩:=rv3.get hv;obtain⟨hz,OR,⟨a,c,d,OU⟩,h1,h2,h3⟩:=st;obtain⟨oi1,vs1,RS,di1⟩:=h1.obj;obtain⟨oi2,vs2,RT,di2⟩:=h2.obj;obtain⟨oi3,vs3,ei3,di3⟩:=h3.obj;refine mJ D (qZ I OS hf) (qZ I ON hf) (qZ I Ql hf) hz OR OU h1 h2 h3 p1 p2 p3 (x:=u1) (y:=u2) (v:=u3) (by simpa using hu1) (by simpa using hu2) (by simpa using hu3) λh' g1 g2 g3 g4 g4' g5 g6 g7=>⟨_,rfl,?_⟩
  refine Yj (s:={ s with heap:=h' }) g1 λhN Sg Qw=>?_;have Pu:H s.heap.objs.size=none:=I.br.fresh (SE _);have lt:∀{c:Addr}{o:Obj},s.heap.get? c=some o->c≠s.heap.objs.size:=λe=>SW (SK e);have QT:∀b o,b ∉ [z,TO,i1,i2,i3,TI]->s.heap.get? b=some o->hN.get? b=some o:=λb o hb q=>by
   simp only[SQ,Ur,or_false,not_or] at hb;exact(Qw.2 b hb.1).trans (g7 b o hb.1 hb.2.1 hb.2.2.1 hb.2.2.2.1 hb.2.2.2.2.1 q)
  have hT3:hN.get? s.heap.objs.size=some { cls:=.type "tuple",data:=.seq #[u1,u2,u3] }:=(Qw.2 _ (lt hz).symm).trans g5;have I3:Inv X N9 σ (upd H s.heap.objs.size (.tup [x,y,v])) { s with heap:=hN,toks:=s.toks } :=
   I.kj (ch:=[z,TO,i1,i2,i3,TI]) QT hf (SE _) (λb hb=>by
    simp only[SQ,Ur,or_false] at hb;rcases hb with q|q|q|q|q|q<;>subst q
    .exact⟨_,hz⟩
    .exact⟨_,OU⟩
    .exact⟨_,RS⟩
    .exact⟨_,RT⟩
    .exact⟨_,ei3⟩
    .exact⟨_,OR⟩)
    ⟨by show 3<=sizeLine;decide,[u1,u2,u3],.cons ru1 (.cons ru2 (.cons ru3 .nil)),⟨_,hT3,rfl,_,rfl⟩⟩
  refine⟨.ref s.heap.objs.size,_,I3,rfl,⟨_,x,y,v,Pu,rfl,rfl,λzs' Rh=>by rwa[I.lW Rh OS],λzs' Rh=>by rwa[I.lW Rh ON],λzs' Rh=>by rwa[I.lW Rh Ql]⟩,
   ⟨Sg,(Qw.2 TI D.TIz).trans (g7 TI _ D.TIz D.TITO D.TIi1 D.TIi2 D.Nb OR),⟨_,_,_,(Qw.2 TO D.TOz).trans g2⟩,g3.at λo e=>(Qw.2 i1 D.i1z).trans e,g4.at λo e=>(Qw.2 i2 D.i2z).trans e,g4'.at λo e=>(Qw.2 i3 D.JZ).trans e⟩,λb hb=>?_⟩
  have nb:b≠s.heap.objs.size:=by
   simp only[SQ,Ur,or_false] at hb;rcases hb with q|q|q|q|q|q<;>subst q
   .exact lt hz
   .exact lt OU
   .exact lt RS
   .exact lt RT
   .exact lt ei3
   .exact lt OR
  rw[au nb];exact(hf b hb).1
 done:=by
  intro X hP hw hK hc i N9 s σ H E I hf st hg;subst hP hw hK;obtain⟨xs,ys,zs,OS,ON,Ql,Pl⟩:=hg;obtain⟨QR,Ri,p1,Sf⟩:=I.row OS;obtain⟨Pw,Rj,p2,RN⟩:=I.row ON;obtain⟨Sj,rv3,p3,hz3'⟩:=I.row Ql;obtain⟨hz,OR,⟨a,c,d,OU⟩,h1,h2,h3⟩:=st;have l1:=Ri.length;have l2:=Rj.length;have l3:=rv3.length;refine nV (I.ok.hd hc) D (qZ I OS hf) (qZ I ON hf) (qZ I Ql hf) hz OR OU h1 h2 h3 p1 p2 p3 ?_ λh' k=>⟨rfl,?_⟩
  .rcases Pl with q|q|q
   .exact .inl (by simp;lia)
   .exact .inr (.inl (by simp;lia))
   .exact .inr (.inr (by simp;lia))
  .exact I.xA (t':=s.toks) (ch:=[z,TO,i1,i2,i3,TI]) (λb u hb e=>by
    simp only[SQ,Ur,or_false,not_or] at hb;exact k b u hb.1 hb.2.1 hb.2.2.1 hb.2.2.2.1 hb.2.2.2.2.1 e) hf
 self:=λ_ _ _ _ _ st h=>by
  obtain⟨hz,_⟩:=st;exact Xm hz h
theorem ER(n:Nat):Z3 (n+5) (n+3) (n+4) n (n+1) (n+2):=by
 refine⟨?_,?_,?_,?_,?_,?_,?_,?_,?_,?_,?_,?_,?_,?_,?_⟩<;>(show @Ne Nat _ _;lia)
def GK(K:SD)(tl:TA):TI:=fun σ H R=>tl σ H λvs H1=>∃b1 b2 b3 a1 a2 a3,vs=[.ref a1,.ref a2,.ref a3]/\(∃xs,jC K H1 b1 a1 xs)/\(∃ys,jC K H1 b2 a2 ys)/\(∃zs,jC K H1 b3 a3 zs)/\R (Mn K b1 b2 b3 a1 a2 a3) H1
def xu{tp:Pos}{l1 l2 l3:Expr}{p pos:Pos}(hg:Gl X "zip")(hm:X.mg "zip"=none)(hl:PA X [l1,l2,l3] tl)(hs:autoParam (starEach [l1,l2,l3] X.env=[(false,eval l1 X.env),(false,eval l2 X.env),(false,eval l3 X.env)]) aR._auto_1)(Py:autoParam (starEach [l2,l3] X.env=[(false,eval l2 X.env),(false,eval l3 X.env)]) aR._auto_1):PI X (.Tuple elts x1 tp) (.Call (.Name "zip" p) [l1,l2,l3] [] pos) (GK X.K tl):=by
 intro N9 s σ H R I h;refine Call_ (iy I hg hm ZA (Uk (ck (hl pos N9 s σ H _ I h) λus s1 ⟨vs,H1,I1,r1,q1⟩=>?_) (by rw[hs,Py]) (by rw[Py];rfl)));obtain⟨b1,b2,b3,a1,a2,a3,e,⟨xs,OS⟩,⟨ys,ON⟩,⟨zs,Ql⟩,q⟩:=q1;subst e;cases r1 with
 | cons r rr =>
  cases rr with
  | cons r' rr =>
   cases rr with
   | cons Sr rr =>
    cases rr;cases (show _=SN a1 from r);cases (show _=SN a2 from r');cases (show _=SN a3 from Sr);obtain⟨QR,Ri,p1,Sf⟩:=I1.row OS;obtain⟨Pw,Rj,p2,RN⟩:=I1.row ON;obtain⟨Sj,rv3,p3,Sg⟩:=I1.row Ql;refine zI p1 p2 p3 λh' g1 g2 g3 g4 g5 g6 g7=>?_;have I2:Inv X N9 σ H1 { s1 with heap:=h' }:=I1.kept (t':=s1.toks) g7;refine Xm (s:={ s1 with heap:=h' }) g1 ?_;refine⟨s1.heap.objs.size+5,[s1.heap.objs.size+5,s1.heap.objs.size+4,s1.heap.objs.size,s1.heap.objs.size+1,s1.heap.objs.size+2,s1.heap.objs.size+3],_,_,H1,rfl,I2,
     yQ b1 b2 b3 a1 a2 a3 _ _ _ _ _ _ (ER s1.heap.objs.size),⟨g1,g2,⟨_,_,_,g3⟩,g4,g5,g6⟩,λb hb=>?_,q⟩
    have hle:s1.heap.objs.size<=b:=by
     simp only[SQ,Ur,or_false] at hb;rcases hb with q|q|q|q|q|q
     .rw[q];exact UH _ 5
     .rw[q];exact UH _ 4
     .rw[q];exact SE _
     .rw[q];exact UH _ 1
     .rw[q];exact UH _ 2
     .rw[q];exact UH _ 3
    exact I1.qL hle (I1.br.fresh hle)
variable{oe:Obj}{outer:List Env}
variable{to:Option Addr}
section
variable{M:Model}{E:Value->Shared->Prop}
def sD{env:Env}{L e:Addr}{vs:Array Value}{head:Value}{Q8:Bool}{Q:Unit->Shared->Prop}
  (Ra:A.frames=some (env::outer)) (hl:s.heap.FunFrames base (env::outer)) (hf:env.frame=some L)
  (he:s.heap.get? e=some oe) (hd:oe.data=.fields vs) (hsz:1<vs.size)
  (h:∀h' T oT ts,h'.get? e=some (U7 (·.setIfInBounds 1 (.ref T)) oe)->s.heap.objs.size<=T->T≠e->h'.get? T=some oT->oT.data=.fields ts->ts[3]?=some (rawInt L) ->
   (∀b o,b≠e->b ∉ vY (env::outer)->s.heap.get? b=some o->h'.get? b=some o)->(∀b o,b≠e->s.heap.get? b=some o->∃sl,h'.get? b=some { o with slots:=sl })->Q () { s with heap:=h' }) :
  wpAny M A (do let a <- frameOf env;let pl <- entryPlaceOf L Q8;let b <- Z2 head a .none (rawInt L) .none pl;setField (.ref e) 1 b) Q E s:=by
 have hene:e ∉ (env::outer).filterMap (·.frame):=λhm=>by
  obtain⟨_,o,ho,R7⟩:=hl.mem hm;rw[he] at ho;injection ho with ho;subst ho;exact R7 vs hd
 refine Rz (wpAny_frameOf_fun Ra hl hf λh₁ hs₁=>?_);refine Rz (wpAny_entryPlaceOf λpl OM=>?_);unfold Z2 newFields;refine Rz (Ue ?_ (OM.sizeOk5 _ _ _ _ _));have he1:h₁.get? e=some oe:=(hs₁.2.1 e hene).trans he;have he₂:=Sw (h:=h₁) { cls:=.type "traceback",dict:=none,data:=.fields ([head,.ref L,.none,rawInt L,.none]++(if pl.isEmpty then Sx 6 TY else pl)).toArray } he1;have hTe:h₁.objs.size≠e:=Uu (SK he1);have hd3:=UZ hd (·.setIfInBounds 1 (SN h₁.objs.size));have he3:=TL (U7 (·.setIfInBounds 1 (SN h₁.objs.size))) he₂ (VN hd3);have hT₃:=(S5 (h₁.push { cls:=.type "traceback",dict:=none,data:=.fields ([head,.ref L,.none,rawInt L,.none]++(if pl.isEmpty then Sx 6 TY else pl)).toArray })
  (U7 (·.setIfInBounds 1 (SN h₁.objs.size))) (UN hTe)).trans (SH h₁ rfl)
 have keep:∀b o,b≠e->h₁.get? b=some o ->
   ((h₁.push { cls:=.type "traceback",dict:=none,data:=.fields ([head,.ref L,.none,rawInt L,.none]++(if pl.isEmpty then Sx 6 TY else pl)).toArray }).update e (U7 (·.setIfInBounds 1 (SN h₁.objs.size)))).get? b=some o:=λb o Qy hb=>by
  rw[S5 _ _ (UN Qy)];exact Sw _ hb
 refine V_ he₂ hd hsz (h _ h₁.objs.size _ _ he3 ?_ hTe hT₃ rfl (by first|(simp;done)|(rcases OM with rfl|⟨_,_,_,_,_,_,_,rfl⟩<;>simp)) ?_ ?_)
 .exact YT hs₁.1.symm
 .intro b o Qy hbf hb;exact keep b o Qy ((hs₁.2.1 b hbf).trans hb)
 .intro b o Qy hb;obtain⟨sl,hs⟩:=hs₁.2.2 b o hb;exact⟨sl,keep b _ Qy hs⟩
def Lies(h:Heap)(e:Addr)(vs:Array Value)(to:Option Addr):Prop:=match to with
 | none=>vs[1]?=some .none
 |some T=>vs[1]?=some (.ref T)/\T≠e/\∃oT ts,h.get? T=some oT/\oT.data=.fields ts/\ts[3]?=some .none
def yC{env:Env}{L e:Addr}{vs:Array Value}{Q:Unit->Shared->Prop}(Ra:A.frames=some (env::outer))(hl:s.heap.FunFrames base (env::outer))(hf:env.frame=some L)(he:s.heap.get? e=some oe)(hd:oe.data=.fields vs)(hto:Lies s.heap e vs to)(h:∀h' T oT ts,h'.get? e=some (U7 (·.setIfInBounds 1 (.ref T)) oe)->s.heap.objs.size<=T->T≠e->h'.get? T=some oT->oT.data=.fields ts->ts[3]?=some (rawInt L) ->(∀b o,b≠e->(∀T,to=some T->b≠T)->b ∉ vY (env::outer)->s.heap.get? b=some o->h'.get? b=some o) ->(∀b o,b≠e->(∀T,to=some T->b≠T)->s.heap.get? b=some o->∃sl,h'.get? b=some { o with slots:=sl })->(∀b o,s.heap.get? b=some o->∃o',h'.get? b=some o')->Q () { s with heap:=h' }):wpAny M A (noteFrame (.ref e) env) Q E s:=by
 unfold noteFrame;simp only[hf];cases to with
 | none =>
  have h1:vs[1]?=some .none:=hto;refine Rz (Tv he hd h1 ?_);rw[if_neg ↑12];refine sD Ra hl hf he hd (UA.mp h1).1 λh' T oT ts a1 a2 a3 a4 a5 a6 a7 a8=>?_;refine h h' T oT ts a1 a2 a3 a4 a5 a6 (λb o n1 _ n2 q=>a7 b o n1 n2 q) (λb o n1 _ q=>a8 b o n1 q) λb o q=>?_
  by_cases z:b=e
  .subst z;exact⟨_,a1⟩
  .obtain⟨sl,r⟩:=a8 b o z q;exact⟨_,r⟩
 | some T0 =>
  obtain⟨h1,hTe,oT,ts,hT,hdT,h3⟩:=hto;refine Rz (Tv he hd h1 ?_);rw[if_pos (show (SN T0 != TY)=true from by simp)];refine Rz (Tv hT hdT h3 ?_);rw[if_neg (show ¬ ((TY==rawInt L)=true) from by simp[rawInt])];refine Rz (V_ hT hdT (UA.mp h3).1 ?_);have other:∀b,b≠T0->(s.heap.update T0 (U7 (·.setIfInBounds 3 TY))).get? b=s.heap.get? b:=λb hb=>S5 _ _ (UN hb);have QW:∀b o,s.heap.get? b=some o->(∀vs,o.data≠.fields vs)->b≠T0:=λb o hb R7 q=>by
   rw[q,hT] at hb;injection hb with hb;subst hb;exact R7 ts hdT
  have Q7:=TL (U7 (·.setIfInBounds 3 TY)) hT (VN (UZ hdT _));refine sD Ra (hl.of_keeps λb o hb R7=>⟨o,(other b (QW b o hb R7)).trans hb,rfl⟩) hf ((other e (UN hTe)).trans he) hd (UA.mp h1).1 λh' T oT' ts' a1 a2 a3 a4 a5 a6 a7 a8=>?_;refine h h' T oT' ts' a1 (by simpa [Heap.update] using a2) a3 a4 a5 a6 (λb o n1 n2 n3 q=>a7 b o n1 n3 ((other b (n2 T0 rfl)).trans q)) (λb o n1 n2 q=>a8 b o n1 ((other b (n2 T0 rfl)).trans q)) λb o q=>?_
  by_cases z:b=e
  .subst z;exact⟨_,a1⟩
  .by_cases z2:b=T0
   .subst z2;obtain⟨sl,r⟩:=a8 b _ z Q7;exact⟨_,r⟩
   .obtain⟨sl,r⟩:=a8 b o z ((other b z2).trans q);exact⟨_,r⟩
end
def Ji(C:Addr)(dd:Option Addr)(e:Addr):HO:=.ext λh=>∃t,h.get? e=some ⟨.ref C,dd,.fields #[.ref t,.none,.none,.none,.bool false,.none],#[]⟩
def LD(C:Addr)(dd:Option Addr)(e T:Addr):HO:=.ext λh=>∃vs,h.get? e=some ⟨.ref C,dd,.fields vs,#[]⟩/\vs[1]?=some (.ref T)
def Nm(fl:Value)(T:Addr):HO:=.ext λh=>∃oT ts,h.get? T=some oT/\oT.data=.fields ts/\ts[3]?=some fl
def qg(Hc:Hp)(e T C:Addr)(dd:Option Addr)(fl:Value):Hp:=upd (upd Hc T (Nm fl T)) e (LD C dd e T)
variable{fl:Value}{Hc:Hp}
def vP{e:Addr}:qg Hc e T C dd fl e=some (LD C dd e T):=ay
def rX{e:Addr}(n:T≠e):qg Hc e T C dd fl T=some (Nm fl T):=by unfold qg;rw[au n,ay]
def mV{e b:Addr}(n:b≠e)(n2:b≠T):qg Hc e T C dd fl b=Hc b:=by unfold qg;rw[au n,au n2]
def Inv.note{e:Addr}{vs:Array Value}{φ:Heap->Prop}{Q:Unit->Shared->Prop}{E:Value->Shared->Prop}(I:Inv X N9 σ H s)(OV:X.stack=X.env::X.outer)(hf:X.env.frame=some X.env.locals)(he:H e=some (.ext φ))(hx:s.heap.get? e=some ⟨.ref C,dd,.fields vs,#[]⟩)(lies:Lies s.heap e vs to)(hT:∀T,to=some T->(∃ψ,H T=some (.ext ψ))/\Hc T=none)(hc:∀b,b≠e->(∀T,to=some T->b≠T)->Hc b=H b)(h:∀h' T,Hc T=none->T≠e->Inv X N9 σ (qg Hc e T C dd (rawInt X.env.locals)) { s with heap:=h' }->Q () { s with heap:=h' }):wpAny ↑8 X.A (noteFrame (.ref e) X.env) Q E s:=by
 have hl:=I.stack;have Ra:=I.ok.frames;have sf:=I.tJ;rw[OV] at hl Ra sf;refine yC (base:=X.base) Ra hl hf hx rfl lies λh' T oT ts a1 a2 a3 a4 a5 a6 a7 a8 a9=>?_;have hTn:H T=none:=I.br.fresh a2;have nT:∀b u,H b=some u->b≠T:=λb u q z=>by rw[z,hTn] at q;cases q
 have QH:∀b u,H b=some u->(∀ψ,u≠.ext ψ)->b≠e/\∀T0,to=some T0->b≠T0:=by
  intro b u q hu;refine⟨λz=>?_,λT0 z w=>?_⟩
  .rw[z,he] at q;exact hu _ (Th q).symm
  .obtain⟨⟨ψ,q2⟩,_⟩:=hT T0 z;rw[w,q2] at q;exact hu _ (Th q).symm
 have old:∀b u,H b=some u->(∀ψ,u≠.ext ψ)->qg Hc e T C dd (rawInt X.env.locals) b=some u:=λb u q hu=>by
  obtain⟨n1,n2⟩:=QH b u q hu;rwa[mV n1 (nT b u q),hc b n1 n2]
 have hcT:Hc T=none:=by
  by_cases z:∃T0,to=some T0/\T=T0
  .obtain⟨T0,z1,z2⟩:=z;rw[z2];exact(hT T0 z1).2
  .rw[hc T a3 λT0 z1 z2=>z ⟨T0,z1,z2⟩];exact hTn
 have un:∀b o,s.heap.get? b=some o->H b=none->b≠e/\(∀T0,to=some T0->b≠T0)/\b≠T:=by
  intro b o q n;refine⟨λz=>?_,λT0 z w=>?_,SW (S8 (SK q) a2)⟩
  .rw[z,he] at n;cases n
  .obtain⟨⟨ψ,q2⟩,_⟩:=hT T0 z;rw[w,q2] at n;cases n
 refine h h' T hcT a3 ?_;have U:Un (vY X.stack) [] H (qg Hc e T C dd (rawInt X.env.locals)) s.heap h':=by
  rw[OV];refine⟨λb o q n nf _=>?_,λb o q n _ _=>?_,λb o q n _=>?_,λb o q _=>a9 b o q,λb xs q=>old b _ q (λ_ z=>nomatch z),λb ob u q=>old b _ q (λ_ z=>nomatch z),λb ps q=>⟨#[],?_⟩⟩
  .obtain⟨n1,n2,_⟩:=un b o q n;exact a7 b o n1 n2 nf q
  .obtain⟨n1,n2,_⟩:=un b o q n;exact a8 b o n1 n2 q
  .obtain⟨n1,n2,n3⟩:=un b o q n;rwa[mV n1 n3,hc b n1 n2]
  .rw[old b _ q (λ_ z=>nomatch z)];simp
 have ok:kI X.prog X.w (qg Hc e T C dd (rawInt X.env.locals)) h':=λb u q=>by
  by_cases z:b=e
  .subst z;rw[vP] at q;cases q;refine⟨⟨_,a1,?_⟩,⟨_,a1⟩,λh1 h2 ⟨ws,q1,q2⟩ k=>⟨ws,k _ q1,q2⟩⟩;have hsz:1<vs.size:=by
    cases to with
    | none=>exact(UA.mp (show vs[1]?=some .none from lies)).1
    | some T0=>exact(UA.mp lies.1).1
   simp[hsz]
  .by_cases z2:b=T
   .subst z2;rw[rX a3] at q;cases q;exact⟨⟨oT,ts,a4,a5,a6⟩,⟨_,a4⟩,λh1 h2 ⟨o1,t1,q1,q2,q3⟩ k=>⟨o1,t1,k _ q1,q2,q3⟩⟩
   .rw[mV z z2] at q;have z3:∀T0,to=some T0->b≠T0:=λT0 w w2=>by rw[w2,(hT T0 w).2] at q;cases q
    rw[hc b z z3] at q;have nf:∀c u',H c=some u'->c ∉ vY (X.env::X.outer):=λc u' q' hm=>by have:=sf c hm;rw[q'] at this;cases this
    refine(I.br b u q).qE (λc v Qz q'=>?_) (λc q'=>old c _ q' (λ_ z=>nomatch z)) λc xs q'=>old c _ q' (λ_ z=>nomatch z);rcases Qz with rfl|Qz
    .exact a7 c v z z3 (nf c u q) q'
    .obtain⟨n1,n2⟩:=QH c _ Qz (λ_ z=>nomatch z);exact a7 c v n1 n2 (nf c _ Qz) q'
 exact I.call (ch:=[]) U ok I.bare (λb z=>absurd z ↑13)
def Inv.IK{e:Addr}(I:Inv X N9 σ (qg Hc e T C dd fl) s)(n:T≠e):∃vs oT ts,s.heap.get? e=some ⟨.ref C,dd,.fields vs,#[]⟩/\vs[1]?=some (.ref T)/\s.heap.get? T=some oT/\oT.data=.fields ts/\ts[3]?=some fl:=by
 obtain⟨vs,h1,h2⟩:=(I.br e _ vP).1;obtain⟨oT,ts,q⟩:=(I.br T _ (rX n)).1;exact⟨vs,oT,ts,h1,h2,q⟩
def Inv.KQ{e:Addr}{Q:Unit->Shared->Prop}{E:Value->Shared->Prop}(I:Inv X N9 σ (qg Hc e T C dd fl) s)(hfl:fl=.none\/fl=rawInt X.env.locals)(n:T≠e)(hcT:Hc T=none)(OV:X.stack=X.env::X.outer)(hf:X.env.frame=some X.env.locals)(h:∀h' T,Hc T=none->T≠e->Inv X N9 σ (qg Hc e T C dd (rawInt X.env.locals)) { s with heap:=h' }->Q () { s with heap:=h' }):wpAny ↑8 X.A (noteFrame (.ref e) X.env) Q E s:=by
 obtain⟨vs,oT,ts,hx,h1,hT,hd,h3⟩:=I.IK n;rcases hfl with rfl|rfl
 .refine I.note (Hc:=Hc) (to:=some T) OV hf vP hx ⟨h1,n,oT,ts,hT,hd,h3⟩ (λT0 z=>?_) (λb n1 n2=>(mV n1 (n2 T rfl)).symm) h;cases z;exact⟨⟨_,rX n⟩,hcT⟩
 .unfold noteFrame;simp only[hf];refine Rz (Tv hx rfl h1 ?_);rw[if_pos (show (SN T != TY)=true from by simp)];refine Rz (Tv hT hd h3 ?_);rw[if_pos (show (rawInt X.env.locals==rawInt X.env.locals)=true from by simp)];exact SA (h s.heap T hcT n I)
def Inv.J7{e:Addr}{Q:Unit->Shared->Prop}{E:Value->Shared->Prop}(I:Inv X N9 σ H s)(he:H e=some (Ji C dd e))(OV:X.stack=X.env::X.outer)(hf:X.env.frame=some X.env.locals)(h:∀h' T,upd H e (nq C dd e) T=none->T≠e->Inv X N9 σ (qg (upd H e (nq C dd e)) e T C dd (rawInt X.env.locals)) { s with heap:=h' }->Q () { s with heap:=h' }):wpAny ↑8 X.A (noteFrame (.ref e) X.env) Q E s:=by
 obtain⟨t,hx⟩:=(I.br e _ he).1;exact I.note (Hc:=upd H e (nq C dd e)) (to:=none) OV hf he hx rfl (λ_ z=>by cases z) (λb n1 _=>au n1) h
def Inv.Bq{e:Addr}{fr:Option Addr}{Q:Unit->Shared->Prop}{E:Value->Shared->Prop}(I:Inv X N9 σ (qg Hc e T C dd fl) s)(n:T≠e)(h:∀h',Inv X N9 σ (qg Hc e T C dd (fr.elim .none λf=>rawInt f)) { s with heap:=h' }->Q () { s with heap:=h' }):wpAny ↑8 X.A (setFlight (.ref e) fr) Q E s:=by
 obtain⟨vs,oT,ts,hx,h1,hT,hd,h3⟩:=I.IK n;unfold setFlight;refine Rz (Tv hx rfl h1 ?_);rw[if_pos (show (SN T != TY)=true from by simp)];have hsz:3<ts.size:=(UA.mp h3).1;refine V_ hT hd hsz (h _ ?_);have other:∀b,b≠T->(s.heap.update T (U7 (·.setIfInBounds 3 (fr.elim TY λf=>rawInt f)))).get? b=s.heap.get? b:=λb hb=>S5 _ _ (UN hb);have Q7:=TL (U7 (·.setIfInBounds 3 (fr.elim TY λf=>rawInt f))) hT (VN (UZ hd _));have nT:∀b,qg Hc e T C dd fl b=none->b≠T:=λb q z=>by rw[z,rX n] at q;cases q
 have same:∀b,b≠T->qg Hc e T C dd (fr.elim .none λf=>rawInt f) b=qg Hc e T C dd fl b:=λb z=>by
  by_cases w:b=e
  .subst w;rw[vP,vP]
  .rw[mV w z,mV w z]
 have ne:∀b u,qg Hc e T C dd fl b=some u->(∀ψ,u≠.ext ψ)->b≠T:=λb u q hu z=>by rw[z,rX n] at q;exact hu _ (Th q).symm
 refine I.un (t':=s.toks) ⟨λb o q z _ _=>(other b (nT b z)).trans q,λb o q z _ _=>⟨o.slots,(other b (nT b z)).trans q⟩,λb o q z _=>by rwa[same b (nT b z)],λb o q _=>?_,λb xs q=>?_,λb ob u q=>?_,λb ps q=>⟨#[],?_⟩⟩ λb u q=>?_
 .by_cases z:b=T
  .subst z;exact⟨_,Q7⟩
  .exact⟨o,(other b z).trans q⟩
 .rw[same b (ne b _ q λ_ z=>nomatch z)];exact q
 .rw[same b (ne b _ q λ_ z=>nomatch z)];exact q
 .rw[same b (ne b _ q λ_ z=>nomatch z),q];simp
 .by_cases z:b=T
  .subst z;rw[rX n] at q;cases q;refine⟨⟨_,_,Q7,UZ hd _,?_⟩,⟨_,Q7⟩,λh1 h2 ⟨o1,t1,q1,q2,q3⟩ k=>⟨o1,t1,k _ q1,q2,q3⟩⟩;simp[hsz]
  .rw[same b z] at q;refine(I.br b u q).qE (λc v hc q'=>(other c ?_).trans q') (λc q'=>?_) λc xs q'=>?_
   .rcases hc with rfl|hc
    .exact z
    .exact ne c _ hc λ_ z=>nomatch z
   .rw[same c (ne c _ q' λ_ z=>nomatch z)];exact q'
   .rw[same c (ne c _ q' λ_ z=>nomatch z)];exact q'
def cu(P:Program)(w:World):JY:=λouter H s E e s'=>∃(ea T C:Addr)(dd:Option Addr)(Hc:Hp),e=.ref ea/\s'.os=s.os/\AllBare s'.gens/\Un (vY outer) [] H (qg Hc ea T C dd .none) s.heap s'.heap/\kI P w (qg Hc ea T C dd .none) s'.heap ∧
 Hc ea=some (nq C dd ea)/\Hc T=none/\T≠ea/\E (.ref ea) none Hc
def Zx (X : Cx)(E : St -> XK)(e : Value)(s : Shared) : Prop := ∃(ea C : Addr)(dd : Option Addr)(N9 : List (Addr × Obj))(σ : St),e=.ref ea ∧
  ((∃H,Inv X N9 σ H s /\ H ea=some (Ji C dd ea) /\ E σ (.ref ea) none (upd H ea (nq C dd ea))) ∨
   (∃Hc T fl,Inv X N9 σ (qg Hc ea T C dd fl) s /\ (fl=.none \/ fl=rawInt X.env.locals) /\ Hc ea=some (nq C dd ea) /\ Hc T=none /\ T ≠ ea /\ E σ (.ref ea) none Hc))
variable{E:St->XK}
def Zx.note{e:Value}{Q:Unit->Shared->Prop}{F:Value->Shared->Prop}(z:Zx X E e s)(OV:X.stack=X.env::X.outer)(hf:X.env.frame=some X.env.locals)(h:∀s' ea C dd N9 σ Hc T,e=.ref ea->Inv X N9 σ (qg Hc ea T C dd (rawInt X.env.locals)) s'->Hc ea=some (nq C dd ea)->Hc T=none->T≠ea->E σ (.ref ea) none Hc->Q () s'):wpAny ↑8 X.A (noteFrame e X.env) Q F s:=by
 obtain⟨ea,C,dd,N9,σ,rfl,⟨H,I,h1,h2⟩|⟨Hc,T,fl,I,h1,h2,h3,h4,h5⟩⟩:=z
 .exact I.J7 h1 OV hf λh' T q1 q2 I2=>h _ ea C dd N9 σ _ T rfl I2 ay q1 q2 h2
 .exact I.KQ h1 h4 h3 OV hf λh' T q1 q2 I2=>h _ ea C dd N9 σ _ T rfl I2 h2 q1 q2 h5
def Zx.G_{E:XK}{e:Value}{F:Value->Shared->Prop}(z:Zx X (λ_=>E) e s)(OV:X.stack=X.env::X.outer)(hf:X.env.frame=some X.env.locals)(hex:X.ex=[]):wpAny ↑8 X.A (leaving X.env e) (λ_ s'=>cu X.prog X.w X.outer X.H₀ X.s₀ E e s') F s:=by
 unfold leaving;refine Rz (z.note OV hf λs' ea C dd N9 σ Hc T he I h1 h2 h3 h4=>?_);subst he;refine I.Bq h3 λh' I2=>⟨ea,T,C,dd,Hc,rfl,I2.os,I2.bare,?_,I2.br,h1,h2,h3,h4⟩
 have:=I2.base;rwa[hex] at this
def Zx.own(OV:X.stack=X.env::X.outer)(hf:X.env.frame=some X.env.locals):PassesOwn ↑8 X.A X.env (Zx X E):=by
 intro e s z;refine z.note OV hf λs' ea C dd N9 σ Hc T he I h1 h2 h3 h4=>?_;subst he;obtain⟨vs,oT,ts,hx,q1,_⟩:=I.IK h3;show wpAny _ _ _ _ _ _;refine Rz (Tv hx rfl q1 ?_);rw[if_neg (show ¬ ((SN T==TY)=true) from by simp)];rw[hf];refine I.Bq h3 λh' I2=>⟨ea,C,dd,N9,σ,rfl,.inr ⟨Hc,T,_,I2,.inr rfl,h1,h2,h3,h4⟩⟩
structure gB (X:Cx) (E:St->XK):Prop where
 pass:∀(N9:List (Addr×Obj))(σ:St)(H:Hp)(s:Shared)(e:Value)(s':Shared),Inv X N9 σ H s->cu X.prog X.w X.stack H s (E σ) e s'->X.xe e s'
 new:∀(N9:List (Addr×Obj))(σ:St)(H:Hp)(s:Shared)(e C:Addr)(dd:Option Addr),Inv X N9 σ H s->H e=some (Ji C dd e)->E σ (.ref e) none (upd H e (nq C dd e))->X.xe (.ref e) s
 own:PassesOwn ↑8 X.A X.env X.xe
abbrev Cx.out(X:Cx)(E:St->XK):Cx:=X.qV (Zx X E)
def Gw(OV:X.stack=X.env::X.outer)(hf:X.env.frame=some X.env.locals):gB (X.out E) E where
 pass:=by
  intro N9 σ H s e s' I h;obtain⟨ea,T,C,dd,Hc,rfl,os,bare,un,br,h1,h2,h3,hE⟩:=h;have I':=I.iG.C_ (ch:=[]) os un br bare (λb z=>absurd z ↑13);exact⟨ea,C,dd,N9,σ,rfl,.inr ⟨Hc,T,.none,I',.inl rfl,h1,h2,h3,hE⟩⟩
 new:=λN9 σ H s e C dd I he hE=>⟨e,C,dd,N9,σ,rfl,.inl ⟨H,I.iG,he,hE⟩⟩
 own:=Zx.own OV hf
variable{N:List Str}{Q4:Array (Option Value)}{an:Option Addr}{body:List Stmt}{params:Arguments}
def Co{K:SD}{dV kV doc pm Ov ct oc:Value}{od:Option Addr}(lk:K.lookup f=some ⟨oc,od,.func (UR name qual params body scope dV kV doc pm an Ov ct),Q4⟩)(O7:VG K Ov qual=true)(S:dM N ps scope)(len:∀vs H Q E,sp vs H Q E->vs.length=ps.length)(QJ:∀(A:Around)(outer:List Env)(s:Shared)(H:Hp)(vs:List V)(Q:VK)(E:XK),bU k (A.deeper (envOfC qual scope s.heap.objs.size f Ov))->sp vs H Q E ->∃t,mW ((lJ (cu P w) P w K mg base N qual scope f Ov A outer s H E).out λ_=>E) body t/\t { nx:=λ_ H'=>Q .dq H',rt:=Q } (start N vs) H):aT P w K mg base (cu P w) (k+1) f (UR name qual params body scope dV kV doc pm an Ov ct) ps sp:=by
 refine Lx lk O7 S len λA outer s H vs Q E hr hs=>?_;obtain⟨t,h1,h2⟩:=QJ A outer s H vs Q E hr hs;refine⟨t,λN9 s1 σ H1 D I q=>?_,h2⟩;refine Vc (h1 N9 s1 σ H1 D (I.qV _) q) (λf s' z=>z.iG) λe s' z=>?_;exact z.G_ rfl rfl rfl
section
open PySem.Builtin.ObjectAttr (storeInOwnDict storeTaker? setByDescriptor)
section
variable{p pos:Pos}{t:TA}
end
end
section
variable{M:Model}{E:Value->Shared->Prop}
end
inductive PV where
 | dq|bl (b:Bool)|int (i:Int)|str (x:Str)
 | tup (xs:List PV)|lst (xs:List PV)
 | jz (xs:List PV)
 | obj (C:Addr) (fs:List (Str×PV))
 | exc (C:Addr) (fo:Option (List (Str×PV)))
 | emp
 | dR (Oa:List (List Int×PV))
 | fn (a:Addr)
 deriving Inhabited
mutual
inductive Rep (H:Hp):PV->V->Prop where
 | dq:Rep H .dq .dq
 | bl (b:Bool):Rep H (.bl b) (.bl b)
 | int (i:Int):Rep H (.int i) (.int i)
 | str (x:Str):Rep H (.str x) (.str x)
 | tup {a:Addr} {xs:List PV} {vs:List V}:H a=some (.tup vs)->aB H xs vs->Rep H (.tup xs) (.ref a)
 | lst {a:Addr} {xs:List PV} {vs:List V}:H a=some (.lst vs)->aB H xs vs->Rep H (.lst xs) (.ref a)
 | jz {a:Addr} {o:Obj} {xs:List PV} {vs:List V}:H a=some (.jx o (.lst vs))->aB H xs vs->Rep H (.jz xs) (.ref a)
 | obj {a C dx:Addr} {fs:List (Str×PV)} {vs:List (Str×V)}:H a=some (.ins C dx vs)->gi H fs vs->Rep H (.obj C fs) (.ref a)
 | wq {a C:Addr}:H a=some (nq C none a)->Rep H (.exc C none) (.ref a)
 | wW {a C d:Addr} {fs:List (Str×PV)} {vs:List (Str×V)}:H a=some (nq C (some d) a)->H d=some (.xd vs)->gi H fs vs->Rep H (.exc C (some fs)) (.ref a)
 | emp {a:Addr}:H a=some (.dK [])->Rep H .emp (.ref a)
 | dR {a:Addr} {o:Obj} {Oa:List (List Int×PV)} {us:List (List Key×V)}:H a=some (.jx o (.dT us))->dr H Oa us->Rep H (.dR Oa) (.ref a)
 |fn (a:Addr):Rep H (.fn a) (.ref a)
inductive aB (H:Hp):List PV->List V->Prop where
 | nil:aB H [] []
 |cons {p:PV} {v:V} {ps:List PV} {vs:List V}:Rep H p v->aB H ps vs->aB H (p::ps) (v::vs)
inductive gi (H:Hp):List (Str×PV)->List (Str×V)->Prop where
 | nil:gi H [] []
 |cons {n:Str} {p:PV} {v:V} {ps:List (Str×PV)} {vs:List (Str×V)}:Rep H p v->gi H ps vs->gi H ((n,p)::ps) ((n,v)::vs)
inductive dr (H:Hp):List (List Int×PV)->List (List Key×V)->Prop where
 | nil:dr H [] []
 |cons {k:List Int} {p:PV} {v:V} {ps:List (List Int×PV)} {vs:List (List Key×V)}:Rep H p v->dr H ps vs->dr H ((k,p)::ps) ((k.map WX,v)::vs)
end
mutual
theorem Rep.mono{H H':Hp}(s:aQ H H'):∀{p:PV}{v:V},Rep H p v->Rep H' p v
 | _,_,.dq=>.dq
 | _,_,.bl b=>.bl b
 | _,_,.int i=>.int i
 | _,_,.str x=>.str x
 | _,_,.tup h r=>.tup (s _ _ h) (r.mono s)
 | _,_,.lst h r=>.lst (s _ _ h) (r.mono s)
 | _,_,.jz h r=>.jz (s _ _ h) (r.mono s)
 | _,_,.obj h r=>.obj (s _ _ h) (r.mono s)
 | _,_,.wq h=>.wq (s _ _ h)
 | _,_,.wW h h2 r=>.wW (s _ _ h) (s _ _ h2) (r.mono s)
 | _,_,.emp h=>.emp (s _ _ h)
 | _,_,.dR h r=>.dR (s _ _ h) (r.mono s)
 |_,_,.fn a=>.fn a
theorem aB.mono{H H':Hp}(s:aQ H H'):∀{p:List PV}{v:List V},aB H p v->aB H' p v
 | _,_,.nil=>.nil
 |_,_,.cons h r=>.cons (h.mono s) (r.mono s)
theorem gi.mono{H H':Hp}(s:aQ H H'):∀{p:List (Str×PV)}{v:List (Str×V)},gi H p v->gi H' p v
 | _,_,.nil=>.nil
 |_,_,.cons h r=>.cons (h.mono s) (r.mono s)
theorem dr.mono{H H':Hp}(s:aQ H H'):∀{p:List (List Int×PV)}{v:List (List Key×V)},dr H p v->dr H' p v
 | _,_,.nil=>.nil
 |_,_,.cons h r=>.cons (h.mono s) (r.mono s)
end
theorem aB.length{H:Hp}:∀{p:List PV}{v:List V},aB H p v->p.length=v.length
 | _,_,.nil=>rfl
 |_,_,.cons _ r=>by simp[r.length]
theorem aB.get{H:Hp}:∀{p:List PV}{v:List V}{i:Nat}{x:PV},aB H p v->p[i]?=some x->∃u,v[i]?=some u/\Rep H x u
 | _,_,_,_,.nil,e=>by simp at e
 | _,_,0,_,.cons h _,e=>by simp at e;subst e;exact⟨_,rfl,h⟩
 | _,_,i+1,x,.cons _ r,e=>by
  obtain⟨u,h1,h2⟩:=aB.get (i:=i) (x:=x) r (by simpa using e);exact⟨u,by simpa using h1,h2⟩
theorem aB.append{H:Hp}:∀{p q:List PV}{v u:List V},aB H p v->aB H q u->aB H (p++q) (v++u)
 | _,_,_,_,.nil,s=>s
 |_,_,_,_,.cons h r,s=>.cons h (r.append s)
theorem aB.take{H:Hp}:∀{p:List PV}{v:List V}(n:Nat),aB H p v->aB H (p.take n) (v.take n)
 | _,_,0,_=>.nil
 | _,_,_+1,.nil=>.nil
 |_,_,n+1,.cons h r=>.cons h (r.take n)
theorem aB.drop{H:Hp}:∀{p:List PV}{v:List V}(n:Nat),aB H p v->aB H (p.drop n) (v.drop n)
 | _,_,0,r=>r
 | _,_,_+1,.nil=>.nil
 |_,_,n+1,.cons _ r=>r.drop n
def aB.snoc{p:List PV}{v:List V}{x:PV}{u:V}(r:aB H p v)(h:Rep H x u):aB H (p++[x]) (v++[u]):=r.append (.cons h .nil)
theorem gi.look{H:Hp}{f:Str}:∀{p:List (Str×PV)}{v:List (Str×V)}{x:PV},gi H p v->p.lookup f=some x->∃u,v.lookup f=some u/\Rep H x u
 | _,_,_,.nil,e=>by simp at e
 | (n,_)::_,_,x,.cons h r,e=>by
  rw[U0] at e ⊢;cases q:f==n with
  | true=>rw[q] at e;cases e;exact⟨_,rfl,h⟩
  |false=>rw[q] at e;exact r.look e
theorem gi.none{H:Hp}{f:Str}:∀{p:List (Str×PV)}{v:List (Str×V)},gi H p v->p.lookup f=none->v.lookup f=none
 | _,_,.nil,_=>rfl
 | (n,_)::_,_,.cons h r,e=>by
  rw[U0] at e ⊢;cases q:f==n with
  | true=>rw[q] at e;cases e
  |false=>rw[q] at e;exact r.none e
theorem aB.ints{H:Hp}:∀{ns:List Int}{v:List V},aB H (ns.map PV.int) v->v=ns.map V.int
 | [],_,.nil=>rfl
 |_::_,_,.cons (.int i) r=>by rw[r.ints];rfl
theorem aB.Nl{H:Hp}:∀{ns:List Bool}{v:List V},aB H (ns.map PV.bl) v->v=ns.map V.bl
 | [],_,.nil=>rfl
 |_::_,_,.cons (.bl i) r=>by rw[r.Nl];rfl
structure aW (Hs H Oe H':Hp):Prop where
 st:aQ Hs Oe
 al:aQ H H'
 sub:aQ Oe H'
 nw:∀a o,Hs a=none->H a=some o->(∀ws,o≠.tup ws)->Oe a=none
variable{Hs:Hp}
def aW.refl(s:aQ Hs H):aW Hs H Hs H:=⟨λ_ _ e=>e,λ_ _ e=>e,s,λ_ _ e _ _=>e⟩
variable{Oj:Hp}
def aW.trans{H1 Ol H2:Hp}(a:aW Hs H Oj H1)(b:aW Oj H1 Ol H2):aW Hs H Ol H2 :=
 ⟨λc o e=>b.st c o (a.st c o e),λc o e=>b.al c o (a.al c o e),b.sub,λc o e q t=>b.nw c o (a.nw c o e q t) (a.al c o q) t⟩
def aW.new{p:Addr}{o:HO}(s:aQ Hs H)(n:H p=none):aW Hs H (upd Hs p o) (upd H p o):=by
 have ne:∀c u,H c=some u->c≠p:=λc u e z=>by rw[z,n] at e;cases e
 refine⟨λc u e=>?_,λc u e=>?_,λc u e=>?_,λc u e q _=>?_⟩
 .rw[au (ne c u (s c u e))];exact e
 .rw[au (ne c u e)];exact e
 .by_cases z:c=p
  .subst z;rw[ay] at e ⊢;exact e
  .rw[au z] at e ⊢;exact s c u e
 .rw[au (ne c u q)];exact e
inductive SV where
 | sh (p:PV)
 | ow (xs:List PV)
 | bd (a C:Addr) (fs:List (Str×PV))
 |dw (Oa:List (List Int×PV))
abbrev af:=List (Option SV)
def gD:SV->Bool
 | .sh _=>false
 |_=>true
def Ho(H₀ Hs H:Hp):SV->V->Prop
 | .sh p,v=>Rep Hs p v
 | .ow xs,v=>∃a vs,v=.ref a/\H a=some (.lst vs)/\Hs a=none/\H₀ a=none/\aB Hs xs vs
 | .bd a C fs,v=>∃dx vs,v=.ref a/\H a=some (.ins C dx vs)/\Hs a=none/\H₀ a=none/\gi Hs fs vs
 |.dw Oa,v=>∃a us,v=.ref a/\H a=some (.dT us)/\Hs a=none/\H₀ a=none/\dr Hs Oa us
structure SR (B H₀ Hs H:Hp) (σ:St) (env:af):Prop where
 gr:aW B H₀ Hs H
 len:σ.length=env.length
 at_:∀(i:Nat)(x:SV),env[i]?=some (some x)->∃v,σ[i]?=some (some v)/\Ho H₀ Hs H x v
 ap:∀(i j:Nat)(x y:SV)(a:Addr),i≠j->env[i]?=some (some x)->env[j]?=some (some y)->gD x=true->gD y=true->σ[i]?=some (some (.ref a))->σ[j]?≠some (some (.ref a))
variable{H₀:Hp}
variable{j:Nat}
section
variable{B B' H₀' Oe H':Hp}{σ':St}{env Od:af}{x:Option SV}{v:Option V}
theorem SR.sh(r:SR B H₀ Hs H σ env)(i:Nat)(p:PV)(e:env[i]?=some (some (.sh p))):∃v,σ[i]?=some (some v)/\Rep Hs p v:=r.at_ i _ e
theorem SR.ow(r:SR B H₀ Hs H σ env)(i:Nat)(xs:List PV)(e:env[i]?=some (some (.ow xs))):∃a vs,σ[i]?=some (some (.ref a))/\H a=some (.lst vs)/\Hs a=none/\H₀ a=none/\aB Hs xs vs :=
 let ⟨_,h1,a,vs,z,h⟩:=r.at_ i _ e;⟨a,vs,z▸h1,h⟩
theorem SR.bd(r:SR B H₀ Hs H σ env)(i:Nat)(a C:Addr)(fs:List (Str×PV))(e:env[i]?=some (some (.bd a C fs))):∃dx vs,σ[i]?=some (some (.ref a))/\H a=some (.ins C dx vs)/\Hs a=none/\H₀ a=none/\gi Hs fs vs :=
 let ⟨_,h1,dx,vs,z,h⟩:=r.at_ i _ e;⟨dx,vs,z▸h1,h⟩
theorem SR.dw(r:SR B H₀ Hs H σ env)(i:Nat)(Oa:List (List Int×PV))(e:env[i]?=some (some (.dw Oa))):∃a us,σ[i]?=some (some (.ref a))/\H a=some (.dT us)/\Hs a=none/\H₀ a=none/\dr Hs Oa us :=
 let ⟨_,h1,a,vs,z,h⟩:=r.at_ i _ e;⟨a,vs,z▸h1,h⟩
def Ho.jP{x:SV}{v:V}(h:Ho H₀ Hs H x v)(o:gD x=true):∃a u,v=.ref a/\H a=some u/\Hs a=none/\H₀ a=none/\∀ws,u≠.tup ws:=by
 cases x with
 | sh p=>cases o
 | ow xs=>obtain⟨a,vs,z,h1,h2,h3,_⟩:=h;exact⟨a,_,z,h1,h2,h3,λ_=>nofun⟩
 | bd a C fs=>obtain⟨dx,vs,z,h1,h2,h3,_⟩:=h;exact⟨a,_,z,h1,h2,h3,λ_=>nofun⟩
 |dw Oa=>obtain⟨a,vs,z,h1,h2,h3,_⟩:=h;exact⟨a,_,z,h1,h2,h3,λ_=>nofun⟩
theorem Ho.mono{x:SV}{v:V}(h:Ho H₀ Hs H x v)(s:aQ Hs Oe)(k:∀a u,gD x=true->v=.ref a->H a=some u->Hs a=none->H₀ a=none->(∀ws,u≠.tup ws)->H' a=some u/\Oe a=none/\H₀' a=none):Ho H₀' Oe H' x v:=by
 cases x with
 | sh p=>exact Rep.mono s h
 | ow xs=>obtain⟨a,vs,z,h1,h2,h3,h4⟩:=h;obtain⟨q1,q2,q3⟩:=k a _ rfl z h1 h2 h3 (λ_=>nofun);exact⟨a,vs,z,q1,q2,q3,h4.mono s⟩
 | bd a C fs=>obtain⟨dx,vs,z,h1,h2,h3,h4⟩:=h;obtain⟨q1,q2,q3⟩:=k a _ rfl z h1 h2 h3 (λ_=>nofun);exact⟨dx,vs,z,q1,q2,q3,h4.mono s⟩
 |dw Oa=>obtain⟨a,vs,z,h1,h2,h3,h4⟩:=h;obtain⟨q1,q2,q3⟩:=k a _ rfl z h1 h2 h3 (λ_=>nofun);exact⟨a,vs,z,q1,q2,q3,h4.mono s⟩
def SR.mv(r:SR B H₀ Hs H σ env)(gr:aW B' H₀' Oe H')(hl:σ'.length=Od.length)(s:aQ Hs Oe)(c:∀(j:Nat)(x:SV),Od[j]?=some (some x)->env[j]?=some (some x)/\σ'[j]?=σ[j]?/\∀a u,gD x=true->σ[j]?=some (some (.ref a))->H a=some u->Hs a=none->H₀ a=none->(∀ws,u≠.tup ws)->H' a=some u/\Oe a=none/\H₀' a=none):SR B' H₀' Oe H' σ' Od where
 gr:=gr
 len:=hl
 at_:=λj x e=>by
  obtain⟨e1,e2,k⟩:=c j x e;obtain⟨v,h1,h2⟩:=r.at_ j x e1;exact⟨v,e2.trans h1,h2.mono s λa u o z=>k a u o (z▸h1)⟩
 ap:=λj k x y a n e1 e2 o1 o2=>by
  rw[(c j x e1).2.1,(c k y e2).2.1];exact r.ap j k x y a n (c j x e1).1 (c k y e2).1 o1 o2
def sN{y:SV}(e:(env.set i x)[j]?=some (some y)):(i≠j/\env[j]?=some (some y))\/(i=j/\x=some y/\i<env.length):=by
 rw[VZ] at e
 by_cases z:i=j
 .rw[if_pos z] at e
  split at e
  .exact .inr ⟨z,Th e,by assumption⟩
  .cases e
 .rw[if_neg z] at e;exact .inl ⟨z,e⟩
def SR.chg(r:SR B H₀ Hs H σ env)(gr:aW B H₀ Oe H')(s:aQ Hs Oe)(new:∀y,x=some y->∃w,v=some w/\Ho H₀ Oe H' y w)(kp:∀(j:Nat)(y:SV)(a:Addr)(u:HO),i≠j->env[j]?=some (some y)->gD y=true->σ[j]?=some (some (.ref a))->H a=some u->Hs a=none->(∀ws,u≠.tup ws)->H' a=some u/\Oe a=none)(sp:∀y,x=some y->gD y=true->∀(k:Nat)(z:SV),i≠k->env[k]?=some (some z)->gD z=true->σ[k]?≠some v):SR B H₀ Oe H' (σ.set i v) (env.set i x) where
 gr:=gr
 len:=by rw[aaZ,aaZ];exact r.len
 at_:=λj y e=>by
  rcases sN e with ⟨n,e⟩|⟨rfl,e,l⟩
  .obtain⟨w,h1,h2⟩:=r.at_ j y e;refine⟨w,by rwa[VZ,if_neg n],h2.mono s λa u o z q1 q2 q3 t=>?_⟩;obtain⟨p1,p2⟩:=kp j y a u n e o (z▸h1) q1 q2 t;exact⟨p1,p2,q3⟩
  .obtain⟨w,rfl,h⟩:=new y e;exact⟨w,by rw[VZ,if_pos rfl,if_pos (by rwa[r.len])],h⟩
 ap:=λj k y z a n e1 e2 o1 o2 q1 q2=>by
  rw[VZ] at q1 q2;rcases sN e1 with ⟨n1,e1⟩|⟨rfl,e1,l⟩
  .rw[if_neg n1] at q1;rcases sN e2 with ⟨n2,e2⟩|⟨rfl,e2,l⟩
   .rw[if_neg n2] at q2;exact r.ap j k y z a n e1 e2 o1 o2 q1 q2
   .rw[if_pos rfl,if_pos (by rwa[r.len])] at q2;exact sp z e2 o2 j y n1 e1 o1 (q1.trans q2.symm)
  .rw[if_pos rfl,if_pos (by rwa[r.len])] at q1;rcases sN e2 with ⟨n2,e2⟩|⟨z2,_,_⟩
   .rw[if_neg n2] at q2;exact sp y e1 o1 k z n2 e2 o2 (q2.trans q1.symm)
   .exact n z2
def SR.Cs(r:SR B H₀ Hs H σ env)(hv:σ[i]?=some v)(gr:aW B H₀ Oe H')(s:aQ Hs Oe)(new:∀y,x=some y->∃w,v=some w/\Ho H₀ Oe H' y w)(kp:∀(j:Nat)(y:SV)(a:Addr)(u:HO),i≠j->env[j]?=some (some y)->gD y=true->σ[j]?=some (some (.ref a))->H a=some u->Hs a=none->(∀ws,u≠.tup ws)->H' a=some u/\Oe a=none)(sp:∀y,x=some y->gD y=true->∀(k:Nat)(z:SV),i≠k->env[k]?=some (some z)->gD z=true->σ[k]?≠some v):SR B H₀ Oe H' σ (env.set i x):=by
 have e:σ.set i v=σ:=W9 λj=>by
  rw[VZ]
  by_cases z:i=j
  .subst z;rw[if_pos rfl,if_pos (Tw.mp hv).1,hv]
  .rw[if_neg z]
 have:=r.chg gr s new kp sp
 rwa [e] at this
def SR.held{p:Addr}(r:SR B H₀ Hs H σ env)(n:H p=none):∀(j:Nat)(y:SV),env[j]?=some (some y)->gD y=true->σ[j]?≠some (some (.ref p)):=λj y e o z=>by
 obtain⟨v,h1,h2⟩:=r.at_ j y e;obtain⟨a,u,rfl,q,_⟩:=h2.jP o;rw[h1] at z;cases z;rw[n] at q;cases q
def SR.free{p:Addr}(r:SR B H₀ Hs H σ env)(n:H p=none):Hs p=none/\H₀ p=none:=by
 refine⟨?_,?_⟩
 .cases q:Hs p with
  | none=>rfl
  | some o=>have:=r.gr.sub _ _ q;rw[n] at this;cases this
 .cases q:H₀ p with
  | none=>rfl
  |some o=>have:=r.gr.al _ _ q;rw[n] at this;cases this
def aW.jP{p:Addr}{o:HO}(g:aW B H₀ Hs H)(h1:Hs p=none)(h2:H₀ p=none):aW B H₀ Hs (upd H p o) :=
 ⟨g.st,λc u q=>by rw[au (λz=>by rw[z,h2] at q;cases q)];exact g.al c u q,λc u q=>by rw[au (λz=>by rw[z,h1] at q;cases q)];exact g.sub c u q,g.nw⟩
def aW.into{p:Addr}{o:HO}(g:aW B H₀ Hs H)(h:H p=some o)(h1:Hs p=none)(h2:H₀ p=none):aW B H₀ (upd Hs p o) H/\aQ Hs (upd Hs p o):=by
 have st:aQ Hs (upd Hs p o):=λc u q=>by rwa[au (λz=>by rw[z,h1] at q;cases q)]
 refine⟨⟨λc u q=>st c u (g.st c u q),g.al,λc u q=>?_,λc u q1 q2 q3=>?_⟩,st⟩
 .by_cases z:c=p
  .subst z;rw[ay] at q;rw[h,q]
  .rw[au z] at q;exact g.sub c u q
 .rw[au (λz=>by rw[z,h2] at q2;cases q2)];exact g.nw c u q1 q2 q3
def SR.grow(r:SR B H₀ Hs H σ env)(g:aW Hs H Oe H'):SR B H₀ Oe H' σ env :=
 r.mv (r.gr.trans g) r.len g.st λ_ _ e=>⟨e,rfl,λa u _ _ h1 h2 h3 t=>⟨g.al _ _ h1,g.nw _ _ h2 h1 t,h3⟩⟩
end
abbrev EX:=Addr×Option (List (Str×PV))
abbrev M(α:Type):=Option (Except EX α)
def M.ok{α:Type}(a:α):M α:=some (.ok a)
variable{α:Type}
noncomputable def M.bind{β:Type}(x:M α)(f:α->M β):M β:=match x with
 | some (.ok a)=>f a
 | some (.error e)=>some (.error e)
 |none=>none
instance:Monad M where
 pure:=M.ok
 bind:=M.bind
def aq(r:M α)(Q:α->Prop)(E:EX->Prop):Prop:=match r with
 | some (.ok a)=>Q a
 | some (.error e)=>E e
 |none=>False
def aq.imp{r:M α}{Q Q':α->Prop}{E E':EX->Prop}(h:aq r Q E)(hq:∀a,Q a->Q' a)(he:∀e,E e->E' e):aq r Q' E':=by
 cases r with
 | none=>exact h
 | some x=>cases x with
  | ok a=>exact hq a h
  |error e=>exact he e h
theorem aq.bind{α β:Type}{x:M α}{f:α->M β}{Q:β->Prop}{E:EX->Prop}(h:aq (x.bind f) Q E):aq x (λa=>aq (f a) Q E) E:=by
 cases x with
 | none=>exact h
 | some x=>cases x with
  | ok a=>exact h
  |error e=>exact h
def XW(E:XK)(Hs H:Hp)(x:EX):Prop:=∀ea Oe H',aW Hs H Oe H'->Rep Oe (.exc x.1 x.2) (.ref ea)->E (.ref ea) none H'
def XW.grow{E:XK}{Oe H':Hp}{x:EX}(h:XW E Hs H x)(g:aW Hs H Oe H'):XW E Oe H' x:=λea Ol H2 g2 r=>h ea Ol H2 (g.trans g2) r
def tE(E:St->XK)(f:af->M PV):TE:=fun σ H Q=>∃B H₀ Hs env,SR B H₀ Hs H σ env/\aq (f env) (λp=>∀v Oe H',aW Hs H Oe H'->Rep Oe p v->Q v H') (XW (E σ) Hs H)
def PE.imp{t t':TE}(h:PE X e t)(i:∀σ H Q,t' σ H Q->t σ H Q):PE X e t':=λN9 s σ H Q I q=>h N9 s σ H Q I (i σ H Q q)
def oE{f:af->M PV}{g:af->PV->M PV}{Q R:VK}(h:tE E (λenv=>(f env).bind (g env)) σ H Q)(k:∀B H₀ Hs H1 env p v,SR B H₀ Hs H1 σ env->Rep Hs p v->aq (g env p) (λq=>∀u Oe H',aW Hs H1 Oe H'->Rep Oe q u->Q u H') (XW (E σ) Hs H1)->R v H1):tE E f σ H R:=by
 obtain⟨B,H₀,Hs,env,sr,h⟩:=h;refine⟨B,H₀,Hs,env,sr,(aq.bind h).imp (λp hp v Oe H' g r=>?_) λe he=>he⟩;exact k B H₀ Oe H' env p v (sr.grow g) r (hp.imp (λq hq u Ol H2 g2 r2=>hq u Ol H2 (g.trans g2) r2) λe he=>he.grow g)
def xD{f g:af->M PV}{op:PV->PV->M PV}{r:R2}{Q:VK}(h:tE E (λenv=>(f env).bind λp=>(g env).bind λq=>op p q) σ H Q)(k:∀Hs H1 p q v u,aQ Hs H1->Rep Hs p v->Rep Hs q u->aq (op p q) (λz=>∀w Oe H',aW Hs H1 Oe H'->Rep Oe z w->Q w H') (XW (E σ) Hs H1)->r v u H1 Q):J3 r (tE E f) (tE E g) σ H Q:=by
 refine oE h λB H₀ Hs H1 env p v sr rp hp=>?_;refine⟨B,H₀,Hs,env,sr,(aq.bind hp).imp (λq hq u Oe H' g ru=>?_) λe he=>he⟩;exact k Oe H' p q v u (sr.grow g).gr.sub (rp.mono g.st) ru (hq.imp (λz hz w Ol H2 g2 r2=>hz w Ol H2 (g.trans g2) r2) λe he=>he.grow g)
def Lf{f:af->M PV}{op:PV->M PV}{r:V->Hp->VK->Prop}{Q:VK}(h:tE E (λenv=>(f env).bind op) σ H Q)(k:∀Hs H1 p v,aQ Hs H1->Rep Hs p v->aq (op p) (λz=>∀w Oe H',aW Hs H1 Oe H'->Rep Oe z w->Q w H') (XW (E σ) Hs H1)->r v H1 Q):Nn r (tE E f) σ H Q :=
 oE h λB H₀ Hs H1 env p v sr rp hp=>k Hs H1 p v sr.gr.sub rp hp
def wB(sp:Sp)(OX:List V)(E:St->XK)(t:TA):TE:=fun σ H Q=>t σ H λvs H1=>sp (vs++OX) H1 Q (E σ)
def BJ(C:Addr)(m:Str)(sp:Sp)(OX:List V)(E:St->XK)(ta:TE)(t:TA):TE:=fun σ H Q=>ta σ H λx H1=>∃a dx fs,x=.ref a/\H1 a=some (.ins C dx fs)/\fs.lookup m=none ∧
 t σ H1 λvs H2=>sp (x::(vs++OX)) H2 Q (E σ)
def HX(C:Addr)(sp:Sp)(OX:List V)(E:St->XK)(t:TA):TE:=fun σ H Q=>t σ H λvs H1=>∀x dx,H1 x=none->H1 dx=none->dx≠x ->
 sp (.ref x::(vs++OX)) (upd (upd H1 dx (.own x)) x (.ins C dx [])) (λv H2=>v=.dq/\Q (.ref x) H2) (E σ)
variable{OX:List V}
variable{vs:List V}{us:List Value}
variable{pl:Sem Bool}
section
variable{p pos:Pos}{t:TA}
def tU{Q:VK}(F:aT X.prog X.w X.K X.mg X.base (cu X.prog X.w) k f fd ps sp)(hr:bU k X.A)(hb:Binds X.K fd ps ds)(hd:Vals OX ds)(hx:gB X E)(I:Inv X N9 σ H s)(r:Vals vs us)(h:sp (vs++OX) H Q (E σ)):wpAny ↑8 X.A (call (.ref f) us) (EP X N9 σ Q) X.xe s:=by
 have r2:Vals (vs++OX) (us++ds):=r.append hd;have hl:(us++ds).length=ps.length:=by rw[<- r2.length];exact F.len _ _ _ _ h
 refine aah (YZ (F.run X.A X.stack s H ⟨us,[]⟩ (us++ds) (vs++OX) Q (E σ) hr I.mZ (hb s us I.mq hl) r2 h) λr s' hq=>?_);cases r with
 | error e=>exact hx.pass N9 σ H s e s' I hq
 | ok fl =>
  cases fl with
  | ret u=>exact I.after hq
  | next=>exact VH hq
  | brk=>exact VH hq
  |cont=>exact VH hq
def uN(F:aT X.prog X.w X.K X.mg X.base (cu X.prog X.w) k f fd ps sp)(hr:bU k X.A)(hg:Gl X x)(hm:X.mg x=some (.ref f))(hk:Vn X.K (.ref f)=true)(hb:Binds X.K fd ps ds)(hd:Vals OX ds)(hx:gB X E)(ha:PA X (e::es) t)(PL:autoParam ↑7 aD._auto_1)(he:autoParam ↑0 aR._auto_1)(OM:autoParam ↑2 aR._auto_1):PE X (.Call (.Name x p) (e::es) [] pos) (wB sp OX E t):=by
 intro N9 s σ H Q I h;refine Wi (sT I hg hm ?_ PL);refine Yd (h₀:=X.base) I.ok.mod.J2 hk (ck (ha pos N9 s σ H _ I h) λus s1 ⟨vs,H1,I1,r,q⟩=>⟨I1.mq,?_⟩) he OM;exact tU F hr hb hd hx I1 r q
def Bn(he:PE X o ta)(c:mn X.K C)(hm:Meth X.K C m f)(F:aT X.prog X.w X.K X.mg X.base (cu X.prog X.w) k f fd ps sp)(hr:bU k X.A)(hb:Binds X.K fd ps ds)(hd:Vals OX ds)(hx:gB X E)(ha:PA X (e::es) t)
  (OV:autoParam ↑0 aR._auto_1) (OM:autoParam ↑2 aR._auto_1)
  (ht:autoParam (eval (.Call (.Attribute o m apos) (e::es) [] pos) X.env=(do
   let ov <- eval o X.env
   standAt apos.atName
   let (f,first) <- holding [ov] (getMethod ov m pl)
   callWith pos f first (backTo pos (starEach (e::es) X.env)) (backToKw pos (keywordEach [] X.env)))) aR._auto_1) :
  PE X (.Call (.Attribute o m apos) (e::es) [] pos) (BJ C m sp OX E ta t):=by
 intro N9 s σ H Q I h;refine ZD (pl:=pl) (ck (he N9 s σ H _ I h) λu s1 ⟨x,H1,I1,rx,a,dx,fs,ex,ea,l,q⟩=>?_) ht;subst ex;obtain rfl:u=SN a:=rx;refine pC I1 ea c hm l ?_;refine Yd (first:=[.ref a]) (h₀:=X.base) I.ok.mod.J2 hm.kp (ck (ha pos N9 s1 σ H1 _ I1 q) λus s2 ⟨vs,H2,I2,r,q2⟩=>⟨I2.mq,?_⟩) OV OM;exact tU (us:=.ref a::us) (vs:=.ref a::vs) F hr hb hd hx I2 (.cons rfl r) q2
def yn(he:PE X o ta)(c:mn X.K C)(hm:Meth X.K C m f)(F:aT X.prog X.w X.K X.mg X.base (cu X.prog X.w) k f fd ps sp)(hr:bU k X.A)(hb:Binds X.K fd ps ds)(hd:Vals OX ds)(hx:gB X E)
  (ht:autoParam (eval (.Call (.Attribute o m apos) [] [] pos) X.env=(do
   let ov <- eval o X.env
   standAt apos.atName
   let (f,first) <- holding [ov] (getMethod ov m pl)
   callWith pos f first (backTo pos (starEach [] X.env)) (backToKw pos (keywordEach [] X.env)))) aR._auto_1) :
  PE X (.Call (.Attribute o m apos) [] [] pos) (BJ C m sp OX E ta Bv):=by
 intro N9 s σ H Q I h;refine ZD (pl:=pl) (ck (he N9 s σ H _ I h) λu s1 ⟨x,H1,I1,rx,a,dx,fs,ex,ea,l,q⟩=>?_) ht;subst ex;obtain rfl:u=SN a:=rx;refine pC I1 ea c hm l ?_;exact PySem.W.callWith_K0 (first:=[.ref a]) I1.mq hm.kp (tU (us:=[.ref a]) (vs:=[.ref a]) F hr hb hd hx I1 (.cons rfl .nil) q)
def zc{Q:VK}(M:Mk X.K C f)(F:aT X.prog X.w X.K X.mg X.base (cu X.prog X.w) k f fd ps sp)(hr:bU (k+1) X.A)(hb:Binds X.K fd ps ds)(hd:Vals OX ds)(hx:gB X E)(I:Inv X N9 σ H s)(r:Vals vs us)(h:∀x dx,H x=none->H dx=none->dx≠x->sp (.ref x::(vs++OX)) (upd (upd H dx (.own x)) x (.ins C dx [])) (λv H2=>v=.dq/\Q (.ref x) H2) (E σ)):wpAny ↑8 X.A (call (.ref C) us) (EP X N9 σ Q) X.xe s:=by
 have hq:=h (s.heap.objs.size+1) s.heap.objs.size (I.br.fresh (ZR _)) (I.br.fresh (SE _)) (SW (UG _));have I2:=Inv.made (C:=C) I;have r2:Vals (V.ref (s.heap.objs.size+1)::(vs++OX)) (SN (s.heap.objs.size+1)::(us++ds)):=.cons rfl (r.append hd);have hl:(SN (s.heap.objs.size+1)::us++ds).length=ps.length:=by
  have e:=r2.length;rw[F.len _ _ _ _ hq] at e;exact e.symm
 refine aah (Av (f:=f) I.mq M.makes M.init (beq_iff_eq.mp M.fn) (YZ (F.run _ X.stack _ _ ⟨SN (s.heap.objs.size+1)::us,[]⟩ (SN (s.heap.objs.size+1)::(us++ds)) _ _ (E σ) (hr.make C us [])
  (I2.mZ.make C us []) (hb _ (SN (s.heap.objs.size+1)::us) I2.mq hl) r2 hq) λr s' R_=>?_))
 cases r with
 | error e=>exact hx.pass N9 σ _ _ e s' I2 R_
 | ok fl =>
  cases fl with
  | ret u =>
   obtain⟨v,H',I3,rv,ev,q3⟩:=I2.after R_;subst ev;exact⟨rv,⟨V.ref (s.heap.objs.size+1),H',I3,rfl,q3⟩⟩
  | next=>exact VH R_
  | brk=>exact VH R_
  |cont=>exact VH R_
def A6(M:Mk X.K C f)(F:aT X.prog X.w X.K X.mg X.base (cu X.prog X.w) k f fd ps sp)(hr:bU (k+1) X.A)(hg:Gl X x)(hm:X.mg x=some (.ref C))(hb:Binds X.K fd ps ds)(hd:Vals OX ds)(hx:gB X E)(ha:PA X (e::es) t)(PL:autoParam ↑7 aD._auto_1)(he:autoParam ↑0 aR._auto_1)(OM:autoParam ↑2 aR._auto_1):PE X (.Call (.Name x p) (e::es) [] pos) (HX C sp OX E t):=by
 intro N9 s σ H Q I h;refine Wi (sT I hg hm ?_ PL);refine Yd (h₀:=X.base) I.ok.mod.J2 M.kp (ck (ha pos N9 s σ H _ I h) λus s1 ⟨vs,H1,I1,r,q⟩=>⟨I1.mq,?_⟩) he OM;exact zc M F hr hb hd hx I1 r q
end
abbrev du(Hs H:Hp)(Q:VK):PV->Prop:=λz=>∀w Oe H',aW Hs H Oe H'->Rep Oe z w->Q w H'
variable{p:PV}
def du.flat{Q:VK}(h:du Hs H Q p)(s:aQ Hs H)(r:Rep Hs p v):Q v H:=h v Hs H (.refl s) r
theorem du.tup{Hs H:Hp}{Q:VK}{xs:List PV}{vs:List V}(h:du Hs H Q (.tup xs))(s:aQ Hs H)(r:aB Hs xs vs):∀p,H p=none->Q (.ref p) (upd H p (.tup vs)) :=
 λp n=>h _ (upd Hs p (.tup vs)) _ (aW.new s n) (.tup ay (r.mono (aW.new s n).st))
theorem du.lst{Hs H:Hp}{Q:VK}{xs:List PV}{vs:List V}(h:du Hs H Q (.lst xs))(s:aQ Hs H)(r:aB Hs xs vs):∀p,H p=none->Q (.ref p) (upd H p (.lst vs)) :=
 λp n=>h _ (upd Hs p (.lst vs)) _ (aW.new s n) (.lst ay (r.mono (aW.new s n).st))
namespace HT
def DB{prog:Program}{w:World}{A:Around}{E:Value->Shared->Prop}{s:Shared}{t b:Addr}{ws:List Value}{Q:Value->Shared->Prop}(ht:IsTup s.heap t #[])(hb:IsTup s.heap b ws.toArray)(h1:Q (.ref b) s):wpAny ↑11 A (binaryOp .Add (.ref t) (.ref b)) Q E s:=by
 obtain⟨⟨cls,dd,data,sl⟩,ho,hc,n,hd⟩:=id ht;obtain⟨⟨RQ,Q5,data2,Rp⟩,Qe,QC,n2,hd2⟩:=id hb;simp only at hc hd QC hd2;subst hc hd QC hd2;exact aau ⟨_,ho,rfl⟩ ⟨_,Qe,rfl⟩ YB Z7 W5 WV (WM _ _)
   (tuple_addW0 t b #[] ws.toArray n n2 dd Q5 sl Rp rfl) ⟨ho,Qe,h1⟩
end HT
def Cj(K:SD):R2:=λx y H Q=>∃a b ys,x=.ref a/\y=.ref b/\fJ K H a []/\fJ K H b ys/\Q (.ref b) H
def BU:gf X (binaryOp .Add) (Cj X.K):=by
 intro N9 s σ H x y v u Q I rx ry h;obtain⟨a,b,ys,rfl,rfl,ha,hb,q1⟩:=h;cases rx;cases ry;obtain⟨Ob,r1,p1,_⟩:=I.tuple ha;obtain⟨Pw,r2,p2,_⟩:=I.tuple hb;have e:Ob=[]:=r1.lZ.mpr rfl;subst e;exact HT.DB p1 p2 ⟨.ref b,H,I,rfl,q1⟩
def cM(c:Prop)[Decidable c](x:M α):M α:=if c then x else none
theorem aq.cM{α:Type}{c:Prop}[Decidable c]{x:M α}{Q:α->Prop}{E:EX->Prop}(h:aq (L2.cM c x) Q E):c/\aq x Q E:=by
 unfold L2.cM at h
 by_cases hc:c
 .rw[if_pos hc] at h;exact⟨hc,h⟩
 .rw[if_neg hc] at h;exact h.elim
def eB(o:Option PV):M PV:=match o with
 | some x=>M.ok x
 |none=>none
def aq.opt{o:Option PV}{Q:PV->Prop}{E:EX->Prop}(h:aq (eB o) Q E):∃x,o=some x/\Q x:=by
 cases o with
 | none=>exact h.elim
 |some x=>exact⟨x,rfl,h⟩
variable{c:Expr}
variable{op:CmpOp}
section
variable{a b:Expr}{pos:Pos}{f g h:af->M PV}
def aa(i:Nat)(env:af):M PV:=match env[i]? with
 | some (some (.sh p))=>M.ok p
 |_=>none
def GS(hN:X.N[i]?=some x)(hv:AN X.env.scope x)(hd:autoParam ↑7 aD._auto_1)(O7:autoParam ↑6 aD._auto_1):PE X (.Name x pos) (tE E (aa i)):=by
 refine(iE hN hv hd O7).imp fun σ H Q q=>?_;obtain⟨B,H₀,Hs,env,sr,q⟩:=q;unfold aa at q
 split at q
 .rename_i p e;obtain⟨v,h1,h2⟩:=sr.sh i p e;exact⟨v,h1,du.flat q sr.gr.sub h2⟩
 .exact q.elim
def oC(he:PE X e (tC v))(r:∀H,Rep H p v):PE X e (tE E λ_=>M.ok p):=by
 refine he.imp fun σ H Q q=>?_;obtain⟨B,H₀,Hs,env,sr,q⟩:=q;exact du.flat q sr.gr.sub (r Hs)
def Jj{i:Int}:PE X (.Constant (.int i) j pos) (tE E λ_=>M.ok (.int i)):=oC xp λ_=>.int i
def Ky{i:Bool}:PE X (.Constant (.bool i) j pos) (tE E λ_=>M.ok (.bl i)):=oC LH λ_=>.bl i
def Iv:PE X (.Constant .none j pos) (tE E λ_=>M.ok .dq):=oC G2 λ_=>.dq
def ai(op:PV->PV->M PV)(f g:af->M PV):af->M PV:=λenv=>(f env).bind λp=>(g env).bind λq=>op p q
def mi(E:St->XK)(r:R2)(op:PV->PV->M PV):Prop:=∀(σ:St)(Hs H:Hp)(p q:PV)(v u:V)(Q:VK),aQ Hs H->Rep Hs p v->Rep Hs q u->aq (op p q) (du Hs H Q) (XW (E σ) Hs H)->r v u H Q
def oK{op:Operator}{r:R2}{o:PV->PV->M PV}(ho:gf X (binaryOp op) r)(hv:mi E r o)(ha:PE X a (tE E f))(hb:PE X b (tE E g)):PE X (.BinOp a op b pos) (tE E (ai o f g)) :=
 (K1 ho ha hb).imp fun σ H Q q=>xD q λHs H1 p q v u s rp rq h=>hv σ Hs H1 p q v u Q s rp rq h
def kQ{r:R2}{o:PV->PV->M PV}(ho:gf X (compareOp op) r)(hv:mi E r o)(ha:PE X a (tE E f))(hb:PE X b (tE E g))(hm:behindInMarks op b=false):PE X (.Compare a [op] [b] pos) (tE E (ai o f g)) :=
 (Fl ho ha hb hm).imp fun σ H Q q=>xD q λHs H1 p q v u s rp rq h=>hv σ Hs H1 p q v u Q s rp rq h
def gH:PV->PV->M PV
 | .int i,.int j=>M.ok (.int (i+j))
 | .str x,.str y=>cM (x.length+y.length<=sizeLine) (M.ok (.str (x++y)))
 | .tup xs,.tup ys=>cM (xs.length+ys.length<=sizeLine) (M.ok (.tup (xs++ys)))
 | .lst xs,.lst ys=>cM (xs.length+ys.length<=sizeLine) (M.ok (.lst (xs++ys)))
 |_,_=>none
def GL(K:SD):R2:=λx y H Q=>(∃i j,x=.int i/\y=.int j/\Q (.int (i+j)) H)\/(∃i j,x=.str i/\y=.str j/\i.length+j.length<=sizeLine/\Q (.str (i++j)) H)\/Ga K x y H Q\/La x y H Q\/Cj K x y H Q
def F6:gf X (binaryOp .Add) (GL X.K):=gf.or Ik (gf.or wL (gf.or D8 (gf.or IG BU)))
def Ij{K:SD}:mi E (GL K) gH:=by
 intro σ Hs H p q v u Q s rp rq h;cases rp with
 | int i=>cases rq with
  | int j=>exact .inl ⟨i,j,rfl,rfl,du.flat h s (.int _)⟩
  | _=>exact h.elim
 | str i=>cases rq with
  | str j =>
   obtain⟨hz,h⟩:=aq.cM h;exact .inr (.inl ⟨i,j,rfl,rfl,hz,du.flat h s (.str _)⟩)
  | _=>exact h.elim
 | @tup a xs vs ha hx=>cases rq with
  | @tup b ys us hb hy =>
   obtain⟨hz,h⟩:=aq.cM h;cases hx with
   | nil=>exact .inr (.inr (.inr (.inr ⟨a,b,us,rfl,rfl,fJ.of (s _ _ ha),fJ.of (s _ _ hb),du.flat h s (.tup hb hy)⟩)))
   | cons Se RM =>
    have hx:=aB.cons Se RM;refine .inr (.inr (.inl ⟨a,b,_,us,rfl,rfl,fJ.of (s _ _ ha),fJ.of (s _ _ hb),(λz=>nomatch z),by rwa[<- hx.length,<- hy.length],λz=>?_,λz=>du.tup h s (hx.append hy)⟩));have e:ys=[]:=by cases hy with|nil=>rfl|cons _ _=>cases z
    subst e;rw[UC] at h;exact du.flat h s (.tup ha hx)
  | _=>exact h.elim
 | @lst a xs vs ha hx=>cases rq with
  | @lst b ys us hb hy =>
   obtain⟨hz,h⟩:=aq.cM h;exact .inr (.inr (.inr (.inl ⟨a,b,vs,us,rfl,rfl,s _ _ ha,s _ _ hb,by rwa[<- hx.length,<- hy.length],du.lst h s (hx.append hy)⟩)))
  | _=>exact h.elim
 |_=>exact h.elim
def CD(c:Int->Int->Bool)(o:Int->Int->Int):PV->PV->M PV
 | .int i,.int j=>cM (c i j=true) (M.ok (.int (o i j)))
 |_,_=>none
def Cn{C:Int->Int->Prop}{c:Int->Int->Bool}{o:Int->Int->Int}(hc:∀i j,c i j=true->C i j):mi E (rI C λi j=>.int (o i j)) (CD c o):=by
 intro σ Hs H p q v u Q s rp rq h;cases rp with
 | int i=>cases rq with
  | int j =>
   obtain⟨hz,h⟩:=aq.cM h;exact⟨i,j,rfl,rfl,hc i j hz,du.flat h s (.int _)⟩
  | _=>exact h.elim
 |_=>exact h.elim
def nP:PV->PV->M PV
 | .int i,.int j=>M.ok (.int (i-j))
 |_,_=>none
def HY:mi E (xG λi j=>.int (i-j)) nP:=by
 intro σ Hs H p q v u Q s rp rq h;cases rp with
 | int i=>cases rq with
  | int j=>exact⟨i,j,rfl,rfl,du.flat h s (.int _)⟩
  | _=>exact h.elim
 |_=>exact h.elim
def Dh(o:Int->Int->Bool):PV->PV->M PV
 | .int i,.int j=>M.ok (.bl (o i j))
 |_,_=>none
def ur{o:Int->Int->Bool}:mi E (xG λi j=>.bl (o i j)) (Dh o):=by
 intro σ Hs H p q v u Q s rp rq h;cases rp with
 | int i=>cases rq with
  | int j=>exact⟨i,j,rfl,rfl,du.flat h s (.bl _)⟩
  | _=>exact h.elim
 |_=>exact h.elim
def aA:PV->PV->M PV
 | .tup xs,.int i=>eB (qr xs i)
 | .lst xs,.int i=>eB (qr xs i)
 | .jz xs,.int i=>eB (qr xs i)
 | .str z,.int i=>cM (z.length<=sizeLine) (eB ((qr z.cps.toList i).map λc=>.str ⟨#[c]⟩))
 |_,_=>none
theorem aB.qr{H:Hp}{xs:List PV}{vs:List V}{i:Int}{x:PV}(r:aB H xs vs)(e:L2.qr xs i=some x):∃v,L2.qr vs i=some v/\Rep H x v:=by
 unfold L2.qr at e ⊢;rw[<- r.length];obtain⟨j,h1,h2⟩:=WW.mp e;obtain⟨v,h3,h4⟩:=r.get h2;exact⟨v,by rwa[h1],h4⟩
def JB{K:SD}:mi E (Nv K) aA:=by
 intro σ Hs H p q v u Q s rp rq h;cases rp with
 | @tup a xs vs ha hx=>cases rq with
  | int i =>
   obtain⟨x,ex,h⟩:=aq.opt h;obtain⟨v,h1,h2⟩:=hx.qr ex;exact .inr (.inl ⟨a,vs,i,v,rfl,rfl,fJ.of (s _ _ ha),h1,du.flat h s h2⟩)
  | _=>exact h.elim
 | @lst a xs vs ha hx=>cases rq with
  | int i =>
   obtain⟨x,ex,h⟩:=aq.opt h;obtain⟨v,h1,h2⟩:=hx.qr ex;exact .inl ⟨a,vs,i,v,rfl,rfl,h9.of (s _ _ ha),h1,du.flat h s h2⟩
  | _=>exact h.elim
 | @jz a o xs vs ha hx=>cases rq with
  | int i =>
   obtain⟨x,ex,h⟩:=aq.opt h;obtain⟨v,h1,h2⟩:=hx.qr ex;exact .inl ⟨a,vs,i,v,rfl,rfl,.inl (.inr ⟨o,s _ _ ha⟩),h1,du.flat h s h2⟩
  | _=>exact h.elim
 | str z=>cases rq with
  | int i =>
   obtain⟨hz,h⟩:=aq.cM h;obtain⟨x,ex,h⟩:=aq.opt h;obtain⟨c,ec,rfl⟩:=Td.mp ex;exact .inr (.inr ⟨z,i,c,rfl,rfl,hz,ec,du.flat h s (.str _)⟩)
  | _=>exact h.elim
 |_=>exact h.elim
def Hh(ha:PE X a (tE E f))(hb:PE X b (tE E g))(hs:oh b):PE X (.Subscript a b pos) (tE E (ai aA f g)) :=
 (GH Ck ha hb hs).imp fun σ H Q q=>xD q λHs H1 p q v u s rp rq h=>JB σ Hs H1 p q v u Q s rp rq h
end
def tG(E:St->XK)(f:af->M α)(K:Hp->Hp->α->Prop):St->Hp->Prop:=fun σ H=>∃B H₀ Hs env,SR B H₀ Hs H σ env/\aq (f env) (K Hs H) (XW (E σ) Hs H)
def KG(K:Hp->Hp->α->Prop):Prop:=∀Hs H Oe H' b,K Hs H b->aW Hs H Oe H'->K Oe H' b
abbrev KB(Q:Bool->Hp->Prop):Hp->Hp->Bool->Prop:=λHs H k=>∀Oe H',aW Hs H Oe H'->Q k H'
abbrev kC(Q:VK):Hp->Hp->PV->Prop:=λHs H p=>du Hs H Q p
abbrev KL(Q:List V->Hp->Prop):Hp->Hp->List PV->Prop:=λHs H ps=>∀vs Oe H',aW Hs H Oe H'->aB Oe ps vs->Q vs H'
theorem KB.g{Q:Bool->Hp->Prop}:KG (KB Q):=λHs H Oe H' b k g Ol H2 g2=>k Ol H2 (g.trans g2)
theorem kC.g{Q:VK}:KG (kC Q):=λHs H Oe H' b k g w Ol H2 g2 r=>k w Ol H2 (g.trans g2) r
theorem KL.g{Q:List V->Hp->Prop}:KG (KL Q):=λHs H Oe H' b k g w Ol H2 g2 r=>k w Ol H2 (g.trans g2) r
def tT(E:St->XK)(f:af->M Bool):TT:=fun σ H Q=>tG E f (KB Q) σ H
def tL(E:St->XK)(f:af->M (List PV)):TA:=fun σ H Q=>tG E f (KL Q) σ H
def PT.imp{t t':TT}(h:PT X e t)(i:∀σ H Q,t' σ H Q->t σ H Q):PT X e t':=λN9 s σ H Q I q=>h N9 s σ H Q I (i σ H Q q)
def PW.imp{t t':TT}(h:PW X e t)(i:∀σ H Q,t' σ H Q->t σ H Q):PW X e t':=λw N9 s σ H Q I q=>h w N9 s σ H Q I (i σ H Q q)
def PA.imp{e:List Expr}{t t':TA}(h:PA X e t)(i:∀σ H Q,t' σ H Q->t σ H Q):PA X e t':=λw N9 s σ H Q I q=>h w N9 s σ H Q I (i σ H Q q)
section
variable{β:Type}{K:Hp->Hp->β->Prop}
def b_{f:af->M PV}{g:af->PV->M β}{R:VK}(kg:KG K)(h:tG E (λenv=>(f env).bind (g env)) K σ H)(k:∀B H₀ Hs H1 env p v,SR B H₀ Hs H1 σ env->Rep Hs p v->aq (g env p) (K Hs H1) (XW (E σ) Hs H1)->R v H1):tE E f σ H R:=by
 obtain⟨B,H₀,Hs,env,sr,h⟩:=h;refine⟨B,H₀,Hs,env,sr,(aq.bind h).imp (λp hp v Oe H' g r=>?_) λe he=>he⟩;exact k B H₀ Oe H' env p v (sr.grow g) r (hp.imp (λq hq=>kg _ _ _ _ q hq g) λe he=>he.grow g)
def l9{f:af->M Bool}{g:af->Bool->M β}{R:Bool->Hp->Prop}(kg:KG K)(h:tG E (λenv=>(f env).bind (g env)) K σ H)(k:∀B H₀ Hs H1 env p,SR B H₀ Hs H1 σ env->aq (g env p) (K Hs H1) (XW (E σ) Hs H1)->R p H1):tT E f σ H R:=by
 obtain⟨B,H₀,Hs,env,sr,h⟩:=h;refine⟨B,H₀,Hs,env,sr,(aq.bind h).imp (λp hp Oe H' g=>?_) λe he=>he⟩;exact k B H₀ Oe H' env p (sr.grow g) (hp.imp (λq hq=>kg _ _ _ _ q hq g) λe he=>he.grow g)
def cZ{f:af->M (List PV)}{g:af->List PV->M β}{R:List V->Hp->Prop}(kg:KG K)(h:tG E (λenv=>(f env).bind (g env)) K σ H)(k:∀B H₀ Hs H1 env p v,SR B H₀ Hs H1 σ env->aB Hs p v->aq (g env p) (K Hs H1) (XW (E σ) Hs H1)->R v H1):tL E f σ H R:=by
 obtain⟨B,H₀,Hs,env,sr,h⟩:=h;refine⟨B,H₀,Hs,env,sr,(aq.bind h).imp (λp hp v Oe H' g r=>?_) λe he=>he⟩;exact k B H₀ Oe H' env p v (sr.grow g) r (hp.imp (λq hq=>kg _ _ _ _ q hq g) λe he=>he.grow g)
end
def wa:PV->M Bool
 | .bl b=>M.ok b
 |_=>none
def cR(f:af->M PV):af->M Bool:=λenv=>(f env).bind wa
def aq.L7{Q:Bool->Prop}{E:EX->Prop}(h:aq (wa p) Q E):∃b,p=.bl b/\Q b:=by
 cases p with
 | bl b=>exact⟨b,rfl,h⟩
 |_=>exact h.elim
variable{r:List V->Hp->VK->Prop}
section
variable{a b:Expr}{pos:Pos}{f g h:af->M PV}{u v:af->M Bool}{rest:List Expr}
def lU{Q:Bool->Hp->Prop}(q:tT E (cR f) σ H Q):tB (tE E f) σ H Q:=by
 refine b_ KB.g q λB H₀ Hs H1 env p v sr rp hp=>?_;obtain⟨k,rfl,hp⟩:=aq.L7 hp;cases rp;exact⟨k,rfl,hp Hs H1 (.refl sr.gr.sub)⟩
def t7(he:PE X e (tE E f))(hw:autoParam (∀whole,isTrue e X.env whole=(do let v <- whole;standAt e.pos;holding [v] (truthy v))) aI._auto_1):PT X e (tT E (cR f)) :=
 (JM he hw).imp fun σ H Q q=>lU q
def je{r:R2}{o:PV->PV->M PV}(ho:gf X (compareOp op) r)(hv:mi E r o)(ha:PE X a (tE E f))(hb:PE X b (tE E g))(hm:behindInMarks op b=false):PT X (.Compare a [op] [b] pos) (tT E (cR (ai o f g))):=by
 refine(xJ ho ha hb hm).imp fun σ H Q q=>?_;have q':=lU q;exact xD q' λHs H1 p q v u s rp rq h=>hv σ Hs H1 p q v u _ s rp rq h
def gM(u:af->M Bool):af->M Bool:=λenv=>(u env).bind λb=>M.ok (!b)
def pQ(u v:af->M Bool):af->M Bool:=λenv=>(u env).bind λb=>if b=true then v env else M.ok false
def sy(u v:af->M Bool):af->M Bool:=λenv=>(u env).bind λb=>if b=true then M.ok true else v env
def GU(ha:PT X a (tT E u)):PT X (.UnaryOp .Not a pos) (tT E (gM u)) :=
 (JU ha).imp fun σ H Q q=>l9 KB.g q λB H₀ Hs H1 env p sr hp=>hp Hs H1 (.refl sr.gr.sub)
def sZ(ha:PT X a (tT E u)):PW X (.BoolOp .And [a] pos) (tT E u):=pw_and1 ha
def iA(ha:PT X a (tT E u)):PW X (.BoolOp .Or [a] pos) (tT E u):=pw_or1 ha
def v8(ha:PT X a (tT E u))(hb:PW X (.BoolOp .And (b::rest) pos) (tT E v)):PW X (.BoolOp .And (a::b::rest) pos) (tT E (pQ u v)):=by
 refine(pw_and ha hb).imp fun σ H Q q=>l9 KB.g q λB H₀ Hs H1 env p sr hp=>?_;cases p with
 | true=>exact⟨B,H₀,Hs,env,sr,hp⟩
 |false=>exact hp Hs H1 (.refl sr.gr.sub)
def hU(ha:PT X a (tT E u))(hb:PW X (.BoolOp .Or (b::rest) pos) (tT E v)):PW X (.BoolOp .Or (a::b::rest) pos) (tT E (sy u v)):=by
 refine(pw_or ha hb).imp fun σ H Q q=>l9 KB.g q λB H₀ Hs H1 env p sr hp=>?_;cases p with
 | true=>exact hp Hs H1 (.refl sr.gr.sub)
 |false=>exact⟨B,H₀,Hs,env,sr,hp⟩
def Ii(f:af->M PV):af->M PV:=λenv=>(f env).bind λp=>(wa p).bind λb=>M.ok (.bl (!b))
def BL(f g:af->M PV):af->M PV:=λenv=>(f env).bind λp=>(wa p).bind λb=>if b=true then g env else M.ok (.bl false)
def NR(f g:af->M PV):af->M PV:=λenv=>(f env).bind λp=>(wa p).bind λb=>if b=true then M.ok (.bl true) else g env
def Hk(ha:PE X a (tE E f)):PE X (.UnaryOp .Not a pos) (tE E (Ii f)):=by
 refine(Iq ha).imp fun σ H Q q=>b_ (K:=kC Q) kC.g q λB H₀ Hs H1 env p v sr rp hp=>?_;obtain⟨k,rfl,hp⟩:=aq.L7 (aq.bind hp);cases rp;exact⟨k,rfl,du.flat hp sr.gr.sub (.bl _)⟩
def wu(ha:PE X a (tE E f))(hb:PE X (.BoolOp .And (b::rest) pos) (tE E g)):PE X (.BoolOp .And (a::b::rest) pos) (tE E (BL f g)):=by
 refine(HM ha hb).imp fun σ H Q q=>b_ (K:=kC Q) kC.g q λB H₀ Hs H1 env p v sr rp hp=>?_;obtain⟨k,rfl,hp⟩:=aq.L7 (aq.bind hp);cases rp;refine⟨k,rfl,?_⟩;cases k with
 | true=>exact⟨B,H₀,Hs,env,sr,hp⟩
 |false=>exact du.flat hp sr.gr.sub (.bl _)
def yu(u:af->M Bool)(f g:af->M PV):af->M PV:=λenv=>(u env).bind λb=>if b=true then f env else g env
def Jz(hc:PT X c (tT E u))(ha:PE X a (tE E f))(hb:PE X b (tE E g)):PE X (.IfExp c a b pos) (tE E (yu u f g)):=by
 refine(Ct hc ha hb).imp fun σ H Q q=>l9 (K:=kC Q) kC.g q λB H₀ Hs H1 env p sr hp=>?_;cases p with
 | true=>exact⟨B,H₀,Hs,env,sr,hp⟩
 |false=>exact⟨B,H₀,Hs,env,sr,hp⟩
def ak:af->M (List PV):=λ_=>M.ok []
def ae(f:af->M PV)(fs:af->M (List PV)):af->M (List PV):=λenv=>(f env).bind λp=>(fs env).bind λps=>M.ok (p::ps)
variable{fs:af->M (List PV)}
def HC:PA X [] (tL E ak):=by
 refine i5.imp fun σ H Q q=>?_;obtain⟨B,H₀,Hs,env,sr,q⟩:=q;exact q [] Hs H (.refl sr.gr.sub) .nil
def Fe(ha:PE X e (tE E f))(hr:PA X es (tL E fs))(hs:autoParam ↑0 aR._auto_1):PA X (e::es) (tL E (ae f fs)):=by
 refine(cL ha hr hs).imp fun σ H Q q=>b_ (K:=KL Q) KL.g q λB H₀ Hs H1 env p v sr rp hp=>?_;refine⟨B,H₀,Hs,env,sr,(aq.bind hp).imp (λps R9 vs Oe H' g r=>?_) λe he=>he⟩;exact R9 (v::vs) Oe H' g (.cons (rp.mono g.st) r)
def kX(fs:af->M (List PV)):af->M PV:=λenv=>(fs env).bind λps=>cM (ps.length<=sizeLine) (M.ok (.tup ps))
def qM(fs:af->M (List PV)):af->M PV:=λenv=>(fs env).bind λps=>cM (ps.length<=sizeLine) (M.ok (.lst ps))
def Hl(hr:PA X es (tL E fs)):PE X (.Tuple es x1 pos) (tE E (kX fs)):=by
 refine(C2 hr).imp fun σ H Q q=>cZ (K:=kC Q) kC.g q λB H₀ Hs H1 env p v sr rp hp=>?_;obtain⟨hz,hp⟩:=aq.cM hp;exact⟨by rwa[<- rp.length],du.tup hp sr.gr.sub rp⟩
def H0(hr:PA X es (tL E fs)):PE X (.List es pos) (tE E (qM fs)):=by
 refine(Cz hr).imp fun σ H Q q=>cZ (K:=kC Q) kC.g q λB H₀ Hs H1 env p v sr rp hp=>?_;obtain⟨hz,hp⟩:=aq.cM hp;exact⟨by rwa[<- rp.length],du.lst hp sr.gr.sub rp⟩
def ah(o:List PV->M PV)(fs:af->M (List PV)):af->M PV:=λenv=>(fs env).bind o
def jq(E:St->XK)(r:List V->Hp->VK->Prop)(o:List PV->M PV):Prop:=∀(σ:St)(Hs H:Hp)(ps:List PV)(vs:List V)(Q:VK),aQ Hs H->aB Hs ps vs->aq (o ps) (du Hs H Q) (XW (E σ) Hs H)->r vs H Q
def Bz{o:List PV->M PV}{Q:VK}(hv:jq E r o)(q:tE E (ah o fs) σ H Q):M4 r (tL E fs) σ H Q :=
 cZ (K:=kC Q) kC.g q λB H₀ Hs H1 env p v sr rp hp=>hv σ Hs H1 p v Q sr.gr.sub rp hp
variable{p:Pos}{id T:String}
def eg{o:List PV->M PV}(hc:cv X (.builtin id) r)(hv:jq E r o)(hg:Gl X x)(hm:X.mg x=none)(hx:bootBuiltins x=some (.builtin id))(ha:PA X (e::es) (tL E fs))(hn:autoParam (x ≠ "__name__") aD._auto_1)(PL:autoParam ↑7 aD._auto_1)(he:autoParam ↑0 aR._auto_1)(OM:autoParam ↑2 aR._auto_1):PE X (.Call (.Name x p) (e::es) [] pos) (tE E (ah o fs)) :=
 (qe hc hg hm hx ha hn PL he OM).imp fun σ H Q q=>Bz hv q
def rZ{o:List PV->M PV}(hc:cv X (.type T) r)(hv:jq E r o)(hg:Gl X x)(hm:X.mg x=none)(hx:bootBuiltins x=some (.type T))(ha:PA X (e::es) (tL E fs))(hn:autoParam (x ≠ "__name__") aD._auto_1)(PL:autoParam ↑7 aD._auto_1)(he:autoParam ↑0 aR._auto_1)(OM:autoParam ↑2 aR._auto_1):PE X (.Call (.Name x p) (e::es) [] pos) (tE E (ah o fs)) :=
 (nr hc hg hm hx ha hn PL he OM).imp fun σ H Q q=>Bz hv q
end
variable{xs:List PV}
def bX:PV->Option (List PV)
 | .tup xs=>some xs
 | .lst xs=>some xs
 | .jz xs=>some xs
 |_=>none
def CZ{K:SD}(s:aQ Hs H)(r:Rep Hs p v)(e:bX p=some xs):∃a vs,v=.ref a/\(h9 K H a vs\/fJ K H a vs)/\aB Hs xs vs:=by
 cases r with
 | tup h r=>cases e;exact⟨_,_,rfl,.inr (fJ.of (s _ _ h)),r⟩
 | lst h r=>cases e;exact⟨_,_,rfl,.inl (h9.of (s _ _ h)),r⟩
 | jz h r=>cases e;exact⟨_,_,rfl,.inl (.inl (.inr ⟨_,s _ _ h⟩)),r⟩
 |_=>cases e
def vT:PV->M PV
 | .str z=>cM (z.length<=sizeLine) (M.ok (.int z.length))
 |p=>eB ((bX p).map λxs=>.int xs.length)
def dz:List PV->M PV
 | [p]=>vT p
 |_=>none
def aB.one(r:aB H [p] vs):∃v,vs=[v]/\Rep H p v:=by
 cases r with
 |cons h r=>cases r;exact⟨_,rfl,h⟩
def aB.two{q:PV}(r:aB H [p,q] vs):∃v u,vs=[v,u]/\Rep H p v/\Rep H q u:=by
 cases r with
 |cons h r=>obtain⟨u,rfl,h2⟩:=r.one;exact⟨_,_,rfl,h,h2⟩
def GA(K:SD):List V->Hp->VK->Prop:=λxs H Q=>(∃p ys,xs=[.ref p]/\(h9 K H p ys\/fJ K H p ys)/\Q (.int ys.length) H)\/∃z,xs=[.str z]/\z.length<=sizeLine/\Q (.int z.length) H
def zW:cv X (.builtin "len") (GA X.K):=cv.or sY tH
def IX{K:SD}:jq E (GA K) dz:=by
 intro σ Hs H ps vs Q s r h
 match ps,r with
 | [],_=>exact h.elim
 | _::_::_,_=>exact h.elim
 | [p],r =>
  obtain⟨v,rfl,rp⟩:=r.one;cases hp:bX p with
  | none =>
   cases p with
   | str z =>
    cases rp;obtain⟨hz,h⟩:=aq.cM h;exact .inr ⟨z,rfl,hz,du.flat h s (.int _)⟩
   | tup _=>cases hp
   | lst _=>cases hp
   | jz _=>cases hp
   | _=>exact h.elim
  | some xs =>
   obtain⟨a,us,rfl,hq,hx⟩:=CZ (K:=K) s rp hp;have h':aq (eB ((bX p).map λxs=>PV.int xs.length)) (du Hs H Q) (XW (E σ) Hs H):=by
    cases p with
    | str z=>cases hp
    | _=>exact h
   rw[hp] at h';refine .inl ⟨a,us,rfl,hq,?_⟩;rw[<- hx.length];exact du.flat h' s (.int _)
def xH:List PV->M PV
 | [p]=>eB ((bX p).map .lst)
 |_=>none
def FA{K:SD}:jq E (λxs H Q=>∃p ys,xs=[.ref p]/\(h9 K H p ys\/fJ K H p ys)/\∀l,H l=none->Q (.ref l) (upd H l (.lst ys))) xH:=by
 intro σ Hs H ps vs Q s r h
 match ps,r with
 | [],_=>exact h.elim
 | _::_::_,_=>exact h.elim
 | [p],r =>
  obtain⟨v,rfl,rp⟩:=r.one;obtain⟨x,ex,h⟩:=aq.opt h;obtain⟨xs,hp,rfl⟩:=Td.mp ex;obtain⟨a,us,rfl,hq,hx⟩:=CZ (K:=K) s rp hp;exact⟨a,us,rfl,hq,du.lst h s hx⟩
def cw:List PV->M PV
 | [p]=>eB ((bX p).map .tup)
 |_=>none
def Cp{K:SD}:jq E (λxs H Q=>∃p ys,xs=[.ref p]/\((h9 K H p ys/\∀l,H l=none->Q (.ref l) (upd H l (.tup ys)))\/(fJ K H p ys/\Q (.ref p) H))) cw:=by
 intro σ Hs H ps vs Q s r h
 match ps,r with
 | [],_=>exact h.elim
 | _::_::_,_=>exact h.elim
 | [p],r =>
  obtain⟨v,rfl,rp⟩:=r.one;obtain⟨x,ex,h⟩:=aq.opt h;obtain⟨xs,hp,rfl⟩:=Td.mp ex;cases rp with
  | tup ha hx=>cases hp;exact⟨_,_,rfl,.inr ⟨fJ.of (s _ _ ha),du.flat h s (.tup ha hx)⟩⟩
  | lst ha hx=>cases hp;exact⟨_,_,rfl,.inl ⟨h9.of (s _ _ ha),du.tup h s hx⟩⟩
  | jz ha hx=>cases hp;exact⟨_,_,rfl,.inl ⟨.inl (.inr ⟨_,s _ _ ha⟩),du.tup h s hx⟩⟩
  |_=>cases hp
def l7:List PV->Option (List Int)
 | []=>some []
 | .int i::r=>(l7 r).map (i::·)
 |_=>none
def Cd:List PV->Option (List Bool)
 | []=>some []
 | .bl i::r=>(Cd r).map (i::·)
 |_=>none
theorem ye:∀{ps:List PV}{ns:List Int},l7 ps=some ns->ps=ns.map PV.int
 | [],_,e=>by cases e;rfl
 | .int i::r,_,e=>by
  obtain⟨ms,h1,rfl⟩:=Td.mp e;rw[ye h1];rfl
theorem CH:∀{ps:List PV}{ns:List Bool},Cd ps=some ns->ps=ns.map PV.bl
 | [],_,e=>by cases e;rfl
 | .bl i::r,_,e=>by
  obtain⟨ms,h1,rfl⟩:=Td.mp e;rw[CH h1];rfl
theorem mB:∀(ns:List Int),l7 (ns.map PV.int)=some ns
 | []=>rfl
 |n::r=>by show (l7 (r.map PV.int)).map (n::·)=_;rw[mB r];rfl
theorem uX:∀(ns:List Bool),Cd (ns.map PV.bl)=some ns
 | []=>rfl
 |n::r=>by show (Cd (r.map PV.bl)).map (n::·)=_;rw[uX r];rfl
def all1:PV->M PV
 | .lst xs=>eB ((Cd xs).map λns=>.bl (ns.all id))
 |_=>none
def vg:List PV->M PV
 | [p]=>all1 p
 |_=>none
def HK{K:SD}:jq E (λxs H Q=>∃(a:Addr)(bs:List Bool),xs=[.ref a]/\h9 K H a (bs.map V.bl)/\Q (.bl (bs.all id)) H) vg:=by
 intro σ Hs H ps vs Q s r h
 match ps,r with
 | [],_=>exact h.elim
 | _::_::_,_=>exact h.elim
 | [p],r =>
  obtain⟨v,rfl,rp⟩:=r.one;cases rp with
  | lst ha hx =>
   obtain⟨x,ex,h⟩:=aq.opt h;obtain⟨ns,hn,rfl⟩:=Td.mp ex;rw[CH hn] at hx;exact⟨_,ns,rfl,hx.Nl▸h9.of (s _ _ ha),du.flat h s (.bl _)⟩
  |_=>exact h.elim
def M0(o:Int->Int->Int):PV->PV->M PV
 | .int i,.int j=>M.ok (.int (o i j))
 |_,_=>none
def xQ(o:Int->Int->Int):List PV->M PV
 | [p,q]=>M0 o p q
 |_=>none
def yf{o:Int->Int->Int}:jq E (λxs H Q=>∃i j,xs=[.int i,.int j]/\Q (.int (o i j)) H) (xQ o):=by
 intro σ Hs H ps vs Q s r h
 match ps,r with
 | [],_=>exact h.elim
 | [_],_=>exact h.elim
 | _::_::_::_,_=>exact h.elim
 | [p,q],r =>
  obtain⟨v,u,rfl,rp,rq⟩:=r.two;cases rp with
  | int i=>cases rq with
   | int j=>exact⟨i,j,rfl,du.flat h s (.int _)⟩
   | _=>exact h.elim
  |_=>exact h.elim
def dY(n:Nat)(sem:List PV->M PV):Sp:=λvs H Q E=>vs.length=n/\∃Hs ps,aQ Hs H/\aB Hs ps vs/\aq (sem ps) (du Hs H Q) (XW E Hs H)
variable{PJ:List PV}
section
variable{sem:List PV->M PV}{p pos:Pos}{fs:af->M (List PV)}{g:af->M PV}
def FQ(F:aT X.prog X.w X.K X.mg X.base (cu X.prog X.w) k f fd ps (dY n sem))(hr:bU k X.A)(hg:Gl X x)(hm:X.mg x=some (.ref f))(hk:Vn X.K (.ref f)=true)(hb:Binds X.K fd ps ds)(hd:Vals OX ds)(hdp:∀H,aB H PJ OX)(O:gB X E)(hl:∀ps,sem (ps++PJ)≠none->ps.length+PJ.length=n)(ha:PA X (e::es) (tL E fs))(PL:autoParam ↑7 aD._auto_1)(he:autoParam ↑0 aR._auto_1)(OM:autoParam ↑2 aR._auto_1):PE X (.Call (.Name x p) (e::es) [] pos) (tE E (ah (λps=>sem (ps++PJ)) fs)):=by
 refine(uN F hr hg hm hk hb hd O ha PL he OM).imp fun σ H Q q=>cZ (K:=kC Q) kC.g q λB H₀ Hs H1 env P7 v sr rp hp=>?_;have r2:aB Hs (P7++PJ) (v++OX):=rp.append (hdp Hs);have hn:sem (P7++PJ)≠none:=λz=>by rwa[z] at hp
 refine⟨?_,Hs,P7++PJ,sr.gr.sub,r2,hp⟩;rw[<- r2.length,S6];exact hl P7 hn
def fq(ok:Addr->Bool)(f:Str)(g:af->M PV):af->M PV:=λenv=>(g env).bind λp=>match p with
 | .obj C fs=>cM (ok C=true) (eB (fs.lookup f))
 |_=>none
def HQ{ok:Addr->Bool}{fl:Str}(he:PE X e (tE E g))(br:∀C,ok C=true->mn X.K C/\bW X.K C fl)(hb:attributeBase e fl X.env (eval e X.env)=eval e X.env):PE X (.Attribute e fl pos) (tE E (fq ok fl g)):=by
 refine(HV he hb).imp fun σ H Q q=>b_ (K:=kC Q) kC.g q λB H₀ Hs H1 env p v sr rp hp=>?_;cases rp with
 | obj ha hx =>
  obtain⟨hc,hp⟩:=aq.cM hp;obtain⟨x,ex,hp⟩:=aq.opt hp;obtain⟨u,h1,h2⟩:=hx.look ex;exact⟨_,_,_,_,u,rfl,sr.gr.sub _ _ ha,(br _ hc).1,(br _ hc).2,h1,du.flat hp sr.gr.sub h2⟩
 |_=>exact hp.elim
def bV(C:Addr)(m:Str)(sem:List PV->M PV)(g:af->M PV)(fs:af->M (List PV)):af->M PV:=λenv=>(g env).bind λp=>match p with
 | .obj C' fl=>cM (C'=C/\fl.lookup m=none) ((fs env).bind λps=>sem (.obj C' fl::ps))
 |_=>none
def Ff(he:PE X o (tE E g))(c:mn X.K C)(hm:Meth X.K C m f)(F:aT X.prog X.w X.K X.mg X.base (cu X.prog X.w) k f fd ps (dY n sem))(hr:bU k X.A)(hb:Binds X.K fd ps [])(O:gB X E)(hl:∀ps,sem ps≠none->ps.length=n)(ha:PA X (e::es) (tL E fs))
  (OV:autoParam ↑0 aR._auto_1) (OM:autoParam ↑2 aR._auto_1)
  (ht:autoParam (eval (.Call (.Attribute o m apos) (e::es) [] pos) X.env=(do
   let ov <- eval o X.env
   standAt apos.atName
   let (f,first) <- holding [ov] (getMethod ov m pl)
   callWith pos f first (backTo pos (starEach (e::es) X.env)) (backToKw pos (keywordEach [] X.env)))) aR._auto_1) :
  PE X (.Call (.Attribute o m apos) (e::es) [] pos) (tE E (bV C m sem g fs)):=by
 refine(Bn he c hm F hr hb .nil O ha OV OM ht).imp fun σ H Q q=>b_ (K:=kC Q) kC.g q λB H₀ Hs H1 env p v sr rp hp=>?_;cases rp with
 | @obj a C' dx fl fvs ho hx =>
  obtain⟨⟨e1,hn⟩,Am⟩:=aq.cM hp;subst e1;refine⟨a,dx,fvs,rfl,sr.gr.sub _ _ ho,hx.none hn,B,H₀,Hs,env,sr,(aq.bind Am).imp (λP7 R9 vs Oe H' g' r=>?_) λe he=>he⟩;have r2:aB Oe (.obj C' fl::P7) (V.ref a::(vs++[])):=by rw[UC];exact .cons ((Rep.obj ho hx).mono g'.st) r
  have hn:sem (.obj C' fl::P7)≠none:=λz=>by rwa[z] at R9
  refine⟨by rw[<- r2.length];exact hl _ hn,Oe,_,g'.sub,r2,R9.imp (λz hz w Ol H2 g2 r2=>hz w Ol H2 (g'.trans g2) r2) λe he=>he.grow g'⟩
 |_=>exact hp.elim
def C5(he:PE X o (tE E g))(c:mn X.K C)(hm:Meth X.K C m f)(F:aT X.prog X.w X.K X.mg X.base (cu X.prog X.w) k f fd ps (dY n sem))(hr:bU k X.A)(hb:Binds X.K fd ps [])(O:gB X E)(hl:∀ps,sem ps≠none->ps.length=n)
  (ht:autoParam (eval (.Call (.Attribute o m apos) [] [] pos) X.env=(do
   let ov <- eval o X.env
   standAt apos.atName
   let (f,first) <- holding [ov] (getMethod ov m pl)
   callWith pos f first (backTo pos (starEach [] X.env)) (backToKw pos (keywordEach [] X.env)))) aR._auto_1) :
  PE X (.Call (.Attribute o m apos) [] [] pos) (tE E (bV C m sem g ak)):=by
 refine(yn he c hm F hr hb .nil O ht).imp fun σ H Q q=>b_ (K:=kC Q) kC.g q λB H₀ Hs H1 env p v sr rp hp=>?_;cases rp with
 | @obj a C' dx fl fvs ho hx =>
  obtain⟨⟨e1,hn⟩,Am⟩:=aq.cM hp;subst e1;have r2:aB Hs [.obj C' fl] [V.ref a]:=.cons (Rep.obj ho hx) .nil;have hn':sem [.obj C' fl]≠none:=λz=>by
   have Qj:aq (sem [.obj C' fl]) (du Hs H1 Q) (XW (E σ) Hs H1):=Am;rwa[z] at Qj
  exact⟨a,dx,fvs,rfl,sr.gr.sub _ _ ho,hx.none hn,by rw[show ([]:List V)++[]=[] from rfl];exact r2.length▸hl _ hn',Hs,_,sr.gr.sub,r2,Am⟩
 |_=>exact hp.elim
end
inductive Out where
 |nx (env:af)|rt (p:PV)|bk (env:af)|ct (env:af)
def KS(D:Ends)(B H₀:Hp):Out->Prop
 | .nx env=>∀σ Hs H,SR B H₀ Hs H σ env->D.nx σ H
 | .rt p=>∀v Hs H,aW B H₀ Hs H->Rep Hs p v->D.rt v H
 | .bk env=>∀σ Hs H,SR B H₀ Hs H σ env->D.bk σ H
 |.ct env=>∀σ Hs H,SR B H₀ Hs H σ env->D.ct σ H
def tS(E:XK)(f:af->M Out):TS:=λD σ H=>∃B H₀ Hs env,SR B H₀ Hs H σ env/\aq (f env) (KS D B H₀) (XW E B H₀)
def PS.imp{st:Stmt}{t t':TS}(h:PS X st t)(i:∀D σ H,t' D σ H->t D σ H):PS X st t':=λN9 s σ H D I q=>h N9 s σ H D I (i D σ H q)
def mW.imp{st:List Stmt}{t t':TS}(h:mW X st t)(i:∀D σ H,t' D σ H->t D σ H):mW X st t':=λN9 s σ H D I q=>h N9 s σ H D I (i D σ H q)
def ao:af->M Out:=λenv=>M.ok (.nx env)
def Dp(g:af->M Out):Out->M Out
 | .nx env=>g env
 |o=>M.ok o
noncomputable def aj(f g:af->M Out):af->M Out:=λenv=>(f env).bind (Dp g)
def iK{E:XK}{f:af->M PV}{g:af->PV->M Out}{D:Ends}{R:VK}(h:tS E (λenv=>(f env).bind (g env)) D σ H)(k:∀B H₀ Hs H1 env p v,SR B H₀ Hs H1 σ env->Rep Hs p v->aq (g env p) (KS D B H₀) (XW E B H₀)->R v H1):tE (λ_=>E) f σ H R:=by
 obtain⟨B,H₀,Hs,env,sr,h⟩:=h;refine⟨B,H₀,Hs,env,sr,(aq.bind h).imp (λp hp v Oe H' g r=>?_) λe he=>he.grow sr.gr⟩;exact k B H₀ Oe H' env p v (sr.grow g) r hp
def AU{E:XK}{f:af->M Bool}{g:af->Bool->M Out}{D:Ends}{R:Bool->Hp->Prop}(h:tS E (λenv=>(f env).bind (g env)) D σ H)(k:∀B H₀ Hs H1 env p,SR B H₀ Hs H1 σ env->aq (g env p) (KS D B H₀) (XW E B H₀)->R p H1):tT (λ_=>E) f σ H R:=by
 obtain⟨B,H₀,Hs,env,sr,h⟩:=h;refine⟨B,H₀,Hs,env,sr,(aq.bind h).imp (λp hp Oe H' g=>?_) λe he=>he.grow sr.gr⟩;exact k B H₀ Oe H' env p (sr.grow g) hp
theorem SR.set{B H₀ Hs H:Hp}{σ:St}{env:af}{p:PV}{v:V}{i:Nat}(r:SR B H₀ Hs H σ env)(h:Rep Hs p v):SR B H₀ Hs H (σ.set i (some v)) (env.set i (some (.sh p))) :=
 r.chg r.gr (λ_ _ q=>q) (λ_ e=>by cases e;exact⟨v,rfl,h⟩) (λ_ _ _ _ _ _ _ _ h1 h2 _=>⟨h1,h2⟩) λ_ e o=>by cases e;cases o
def SR.own{B:Hp}{env:af}{p:Addr}(r:SR B H₀ Hs H σ env)(h:aB Hs xs vs)(n:H p=none):SR B H₀ Hs (upd H p (.lst vs)) (σ.set i (some (.ref p))) (env.set i (some (.ow xs))) :=
 r.chg (r.gr.jP (r.free n).1 (r.free n).2) (λ_ _ q=>q) (λ_ e=>by cases e;exact⟨_,rfl,p,vs,rfl,ay,(r.free n).1,(r.free n).2,h⟩) (λ_ _ a u _ _ _ _ h1 h2 _=>⟨by rwa[au (λz=>by rw[z,n] at h1;cases h1)],h2⟩) λ_ _ _ k z _=>r.held n k z
def mI(i:Nat)(env:af):af:=match env[i]? with
 | some (some (.ow xs))=>env.set i (some (.sh (.lst xs)))
 |_=>env
def SR.Ka{B:Hp}{env:af}(r:SR B H₀ Hs H σ env)(e:env[i]?=some (some (.ow xs))):∃a vs,Hs a=none/\H a=some (.lst vs)/\SR B H₀ (upd Hs a (.lst vs)) H σ (env.set i (some (.sh (.lst xs))))/\aQ Hs (upd Hs a (.lst vs)):=by
 obtain⟨a,vs,h1,h2,h3,h4,h5⟩:=r.ow i xs e;obtain⟨g,st⟩:=r.gr.into h2 h3 h4;refine⟨a,vs,h3,h2,r.Cs h1 g st (λ_ q=>by cases q;exact⟨_,rfl,.lst ay (h5.mono st)⟩) (λj y b u n ej o z q1 q2 _=>⟨q1,by rwa[au (λw=>by subst w;exact r.ap i j _ y b n e ej rfl o h1 z)]⟩) λ_ q o=>(by cases q;cases o),st⟩
def SR.jx{B:Hp}{env:af}(i:Nat)(r:SR B H₀ Hs H σ env):∃Oe,SR B H₀ Oe H σ (mI i env)/\aQ Hs Oe:=by
 unfold mI
 split
 .obtain⟨a,vs,_,_,h⟩:=r.Ka (by assumption);exact⟨_,h⟩
 .exact⟨Hs,r,λ_ _ q=>q⟩
def mT(is:List Nat)(f:af->M Out):af->M Out:=λenv=>f (is.foldl (λe i=>mI i e) env)
theorem SR.m7{B H₀ H:Hp}{σ:St}:∀{is:List Nat}{Hs:Hp}{env:af},SR B H₀ Hs H σ env->∃Oe,SR B H₀ Oe H σ (is.foldl (λe i=>mI i e) env)/\aQ Hs Oe
 | [],Hs,_,r=>⟨Hs,r,λ_ _ q=>q⟩
 | i::is,_,_,r=>by
  obtain⟨Oj,r1,s1⟩:=r.jx i;obtain⟨Ol,r2,s2⟩:=SR.m7 (is:=is) r1;exact⟨Ol,r2,λc u q=>s2 c u (s1 c u q)⟩
variable{pos':Pos}
section
variable{E:XK}{pos:Pos}{f:af->M PV}{st:Stmt}{sts rest:List Stmt}{u:af->M Bool}{g h:af->M Out}
def JN(is:List Nat)(hs:PS X st (tS E g)):PS X st (tS E (mT is g)):=hs.imp λD σ H q=>by
 obtain⟨B,H₀,Hs,env,sr,q⟩:=q;obtain⟨Oe,r,_⟩:=sr.m7 (is:=is);exact⟨B,H₀,Oe,_,r,q⟩
def Eh:mW X [] (tS E ao):=DZ.imp λD σ H q=>by
 obtain⟨B,H₀,Hs,env,sr,q⟩:=q;exact q σ Hs H sr
def AD(h1:PS X st (tS E g))(h2:mW X rest (tS E h)):mW X (st::rest) (tS E (aj g h)):=by
 refine(BW h1 h2).imp λD σ H q=>?_;obtain⟨B,H₀,Hs,env,sr,q⟩:=q;refine⟨B,H₀,Hs,env,sr,(aq.bind q).imp (λo ho=>?_) λe he=>he⟩;cases o with
 | nx Od=>exact fun σ' Oe H' Qf=>⟨B,H₀,Oe,Od,Qf,ho⟩
 | rt p=>exact ho
 | bk Od=>exact ho
 |ct Od=>exact ho
def uM:PS X (.Continue pos) (tS E λenv=>M.ok (.ct env)):=uK.imp λD σ H q=>by
 obtain⟨B,H₀,Hs,env,sr,q⟩:=q;exact q σ Hs H sr
def a_(i:Nat)(f:af->M PV):af->M Out:=λenv=>(f env).bind λp=>M.ok (.nx (env.set i (some (.sh p))))
def HW(hN:X.N.Nodup)(hi:X.N[i]?=some x)(hx:Loc X.env.scope x)(he:PE X e (tE (λ_=>E) f))(hs:autoParam (swapsWith e (some (.Name x pos')) pos.line X.env=pure false) aR._auto_1)(hf:autoParam ↑1 aF._auto_1):PS X (.Assign [.Name x pos'] e pos) (tS E (a_ i f)) :=
 (tN hN hi hx he hs hf).imp λD σ H q=>iK q λB H₀ Hs H1 env p v sr rp hp=>hp _ Hs H1 (sr.set rp)
def retS(f:af->M PV):af->M Out:=λenv=>(f env).bind λp=>M.ok (.rt p)
def I_(he:PE X e (tE (λ_=>E) f)):PS X (.Return (some e) pos) (tS E (retS f)) :=
 (GW he).imp λD σ H q=>iK q λB H₀ Hs H1 env p v sr rp hp=>hp v Hs H1 sr.gr rp
def sG(f:af->M PV):af->M Out:=λenv=>(f env).bind λ_=>M.ok (.nx env)
def Fc(he:PE X e (tE (λ_=>E) f))(hs:autoParam (swapsWith e none pos.line X.env=pure false) aR._auto_1):PS X (.Expr e pos) (tS E (sG f)) :=
 (yk he hs).imp λD σ H q=>iK q λB H₀ Hs H1 env p v sr rp hp=>hp σ Hs H1 sr
def kF(u:af->M Bool)(g h:af->M Out):af->M Out:=λenv=>(u env).bind λb=>if b=true then g env else h env
def Kj{a b:List Stmt}(hc:PT X c (tT (λ_=>E) u))(ha:mW X a (tS E g))(hb:mW X b (tS E h)):PS X (.If c a b pos) (tS E (kF u g h)):=by
 refine(Lk hc ha hb).imp λD σ H q=>AU q λB H₀ Hs H1 env p sr hp=>?_;cases p with
 | true=>exact⟨B,H₀,Hs,env,sr,hp⟩
 |false=>exact⟨B,H₀,Hs,env,sr,hp⟩
end
def ov(Hs H₀:Hp):Hp:=λa=>match Hs a with
 | some o=>some o
 |none=>H₀ a
def t5{a:Addr}{o:HO}(h:Hs a=some o):ov Hs H₀ a=some o:=by unfold ov;rw[h]
def lQ{a:Addr}(h:Hs a=none):ov Hs H₀ a=H₀ a:=by unfold ov;rw[h]
def ED(s:aQ Hs H)(t:aQ H₀ H):aQ (ov Hs H₀) H:=λa o e=>by
 cases q:Hs a with
 | some o'=>rw[t5 q] at e;cases e;exact s _ _ q
 |none=>rw[lQ q] at e;exact t _ _ e
def SR.rebase{B:Hp}{env:af}(r:SR B H₀ Hs H σ env):SR Hs (ov Hs H₀) Hs H σ env :=
 r.mv ⟨λ_ _ e=>e,ED r.gr.sub r.gr.al,r.gr.sub,λ_ _ e _ _=>e⟩ r.len (λ_ _ q=>q) λ_ _ e=>⟨e,rfl,λa u _ _ h1 h2 h3 _=>⟨h1,h2,by rwa[lQ h2]⟩⟩
def aW.kY{B Ol H2:Hp}(g:aW B H₀ Hs H)(g2:aW Hs (ov Hs H₀) Ol H2):aW B H₀ Ol H2 where
 st:=λa o e=>g2.st a o (g.st a o e)
 al:=λa o e=>by
  cases q:Hs a with
  | some o' =>
   have h1:=g.sub a o' q;have h2:=g.al a o e;rw[h1] at h2;cases h2;exact g2.al a _ (t5 q)
  | none=>exact g2.al a o (by rwa[lQ q])
 sub:=g2.sub
 nw:=λa o e q t=>by
  have h1:=g.nw a o e q t;exact g2.nw a o h1 (by rwa[lQ h1]) t
theorem SR.kY{B H₀ Hs H Ol H2:Hp}{σ:St}{env:af}(g:aW B H₀ Hs H)(r:SR Hs (ov Hs H₀) Ol H2 σ env):SR B H₀ Ol H2 σ env :=
 r.mv (g.kY r.gr) r.len (λ_ _ q=>q) λ_ _ e=>⟨e,rfl,λa u _ _ h1 h2 h4 _=>⟨h1,h2,by
  cases q:Hs a with
  | some o=>rw[t5 q] at h4;cases h4
  |none=>rwa[lQ q] at h4⟩⟩
def XW.rebase{E:XK}{B:Hp}(g:aW B H₀ Hs H){x:EX}(h:XW E B H₀ x):XW E Hs (ov Hs H₀) x:=λea Ol H2 r q=>h ea Ol H2 (g.kY r) q
def Kr(k:af->M Out):Out->M Out
 | .nx env=>k env
 | .ct env=>k env
 | .bk env=>M.ok (.nx env)
 |.rt p=>M.ok (.rt p)
def jG(set:PV->af->M af)(body:af->M Out):List PV->af->M Out
 | [],env=>M.ok (.nx env)
 |x::xs,env=>(set x env).bind λOd=>(body Od).bind (Kr (jG set body xs))
def DL(E:XK)(g:TG)(set:PV->af->M af):Prop:=∀(B H₀ Hs H:Hp)(σ:St)(env:af)(p:PV)(v:V)(Q:St->Hp->Prop)(Z:EX->Prop),SR B H₀ Hs H σ env->Rep Hs p v->aq (set p env) (λOd=>∀σ',SR B H₀ Hs H σ' Od->Q σ' H) Z->g v σ H Q
def bL(i:Nat)(p:PV)(env:af):M af:=M.ok (env.set i (some (.sh p)))
def bb{E:XK}:DL E (aE i) (bL i):=λB H₀ Hs H σ env p v Q Z sr r h=>h _ (sr.set r)
def bT(i j:Nat):PV->af->M af
 | .tup [p,q],env=>M.ok ((env.set i (some (.sh p))).set j (some (.sh q)))
 |_,_=>none
def dh{E:XK}{K:SD}:DL E (jB K 2 (bA (aE i) (bA (aE j) jw))) (bT i j):=by
 intro B H₀ Hs H σ env p v Q Z sr r h;cases r with
 | @tup a xs vs ha hx =>
  match xs,hx with
  | [p,q],hx =>
   obtain⟨v,u,rfl,rp,rq⟩:=hx.two;exact⟨a,[v,u],rfl,fJ.of (sr.gr.sub _ _ ha),rfl,v,[u],rfl,u,[],rfl,rfl,h _ ((sr.set rp).set rq)⟩
  | [],_=>exact h.elim
  | [_],_=>exact h.elim
  | _::_::_::_,_=>exact h.elim
 |_=>exact h.elim
section
variable{E:XK}{g:TG}{set:PV->af->M af}{body:af->M Out}{D:Ends}{B:Hp}
def Jv(E:XK)(set:PV->af->M af)(body:af->M Out)(D:Ends)(B H₀ Oj:Hp)(xs:List PV)(i:Nat)(σ:St)(H:Hp):Prop:=∃Hs env,SR B H₀ Hs H σ env/\aQ Oj Hs/\aq (jG set body (xs.drop i) env) (KS D B H₀) (XW E B H₀)
def Jv.done(j:Jv E set body D B H₀ Oj xs n σ H)(hn:xs.length<=n):D.nx σ H:=by
 obtain⟨Hs,env,sr,_,h⟩:=j;rw[Wj hn] at h;exact h σ Hs H sr
def Jv.turn{H1 Hx:Hp}{x:PV}(tg:DL E g set)(hx:xs[i]?=some x){env:af}(sr:SR B H₀ Hs H σ env)(s1:aQ Oj Hs)(h:aq (jG set body (xs.drop i) env) (KS D B H₀) (XW E B H₀)){Ol H2:Hp}(gr:aW Hs H Ol H2)(rv:Rep Ol x v):g v σ H2 fun σ2 H3=>tS E body { D with nx:=Jv E set body D B H₀ Oj xs (i+1),ct:=Jv E set body D B H₀ Oj xs (i+1),bk:=D.nx } σ2 H3:=by
 have OC:i<xs.length:=(Tw.mp hx).1;have hd:xs.drop i=x::xs.drop (i+1):=by
  rw[Va OC];rw[Sy OC] at hx;rw[Th hx]
 rw[hd] at h;have OL:=sr.grow gr;refine tg B H₀ Ol H2 σ env x v _ _ OL rv ((aq.bind h).imp (λOd h' σ' Qf=>?_) λ_ z=>z);refine⟨Ol,ov Ol H₀,Ol,Od,Qf.rebase,(aq.bind h').imp (λo ho=>?_) λe he=>he.rebase Qf.gr⟩;cases o with
 | nx e2=>exact fun σ3 PQ H3 r=>⟨PQ,e2,r.kY Qf.gr,λa o z=>r.gr.st a o (gr.st a o (s1 a o z)),ho⟩
 | ct e2=>exact fun σ3 PQ H3 r=>⟨PQ,e2,r.kY Qf.gr,λa o z=>r.gr.st a o (gr.st a o (s1 a o z)),ho⟩
 | bk e2=>exact fun σ3 PQ H3 r=>ho σ3 PQ H3 (r.kY Qf.gr)
 |rt p=>exact λv3 PQ H3 r q=>ho v3 PQ H3 (Qf.gr.kY r) q
end
def iz(it:af->M (List PV))(set:PV->af->M af)(body:af->M Out):af->M Out:=λenv=>(it env).bind λxs=>jG set body xs env
def itemsOf(f:af->M PV):af->M (List PV):=λenv=>(f env).bind λp=>match bX p with|some xs=>M.ok xs|none=>none
def jd{K:SD}(s:aQ Hs H)(r:Rep Hs p v)(e:bX p=some xs):∃b a vs,v=.ref a/\(∀Oe H',aQ Hs Oe->aQ Oe H'->jC K H' b a vs)/\aB Hs xs vs:=by
 cases r with
 | tup h r=>cases e;exact⟨false,_,_,rfl,λOe H' s1 s2=>fJ.of (s2 _ _ (s1 _ _ h)),r⟩
 | lst h r=>cases e;exact⟨true,_,_,rfl,λOe H' s1 s2=>h9.of (s2 _ _ (s1 _ _ h)),r⟩
 | jz h r=>cases e;exact⟨true,_,_,rfl,λOe H' s1 s2=>.inl (.inr ⟨_,s2 _ _ (s1 _ _ h)⟩),r⟩
 |_=>cases e
section
variable{E:XK}{pos p:Pos}{f f2:af->M PV}{g:TG}{set:PV->af->M af}{body:af->M Out}{bd:List Stmt}
end
def MC:PV->M (List PV)
 | .int n=>cM (-(2^62)<=n/\n<2^62) (M.ok ((S1 n.toNat).map λ(i:Nat)=>.int (0+(i:Int))))
 |_=>none
def MK:PV->PV->M (List PV)
 | .int a,.int b=>cM (-(2^62)<=a/\a<2^62/\-(2^62)<=b/\b<2^62) (M.ok ((S1 (b-a).toNat).map λ(i:Nat)=>.int (a+(i:Int))))
 |_,_=>none
def nU:List PV->M (List PV)
 | [p]=>MC p
 |_=>none
def yP:List PV->M (List PV)
 | [p,q]=>MK p q
 |_=>none
variable{Z:EX->Prop}
def zx{ps:List PV}{k:List PV->M α}{Q:α->Prop}(h:aq ((nU ps).bind k) Q Z):∃n:Int,ps=[.int n]/\-(2^62)<=n/\n<2^62/\aq (k ((S1 n.toNat).map λ(i:Nat)=>.int (0+(i:Int)))) Q Z:=by
 match ps with
 | []=>exact h.elim
 | _::_::_=>exact h.elim
 | [p] =>
  cases p with
  | int n =>
   obtain⟨hc,h⟩:=aq.cM (aq.bind h);exact⟨n,rfl,hc.1,hc.2,h⟩
  |_=>exact h.elim
def zD{ps:List PV}{k:List PV->M α}{Q:α->Prop}(h:aq ((yP ps).bind k) Q Z):∃a b:Int,ps=[.int a,.int b]/\(-(2^62)<=a/\a<2^62/\-(2^62)<=b/\b<2^62)/\aq (k ((S1 (b-a).toNat).map λ(i:Nat)=>.int (a+(i:Int)))) Q Z:=by
 match ps with
 | []=>exact h.elim
 | [_]=>exact h.elim
 | _::_::_::_=>exact h.elim
 | [p,q] =>
  cases p with
  | int a=>cases q with
   | int b =>
    obtain⟨hc,h⟩:=aq.cM (aq.bind h);exact⟨a,b,rfl,hc,h⟩
   | _=>exact h.elim
  |_=>exact h.elim
def zip2:List PV->M (List PV)
 | [p,q]=>match bX p,bX q with
  | some xs,some ys=>M.ok (Y3 (λa b=>.tup [a,b]) xs ys)
  | _,_=>none
 |_=>none
def zG{ps:List PV}{k:List PV->M α}{Q:α->Prop}(h:aq ((zip2 ps).bind k) Q Z):∃p q xs ys,ps=[p,q]/\bX p=some xs/\bX q=some ys/\aq (k (Y3 (λa b=>.tup [a,b]) xs ys)) Q Z:=by
 match ps with
 | []=>exact h.elim
 | [_]=>exact h.elim
 | _::_::_::_=>exact h.elim
 | [p,q] =>
  unfold zip2 at h;dsimp only at h;cases e1:bX p with
  | none=>rw[e1] at h;exact h.elim
  | some xs =>
   cases e2:bX q with
   | none=>rw[e1,e2] at h;exact h.elim
   |some ys=>rw[e1,e2] at h;exact⟨p,q,xs,ys,rfl,e1,e2,h⟩
def yU{f:Nat->PV}(h:i<n):((S1 n).map f)[i]?=some (f i):=by
 rw[Te,WL h];rfl
section
variable{E:XK}{a b l l1 l2:Expr}{pos p tp:Pos}{fs:af->M (List PV)}{g:TG}{set:PV->af->M af}{body:af->M Out}{bd:List Stmt}
end
def KO(Q:VK):Hp->Hp->List PV->Prop:=λHs H ps=>∀vs p Oe H',aW Hs H Oe H'->aB Oe ps vs->H' p=none->Q (.ref p) (upd H' p (.lst vs))
def tO(E:St->XK)(f:af->M (List PV)):TE:=fun σ H Q=>tG E f (KO Q) σ H
variable{px:Pos}
section
variable{E:XK}{pos:Pos}{fs:af->M (List PV)}{f:af->M PV}
def mD(i:Nat)(f:af->M (List PV)):af->M Out:=λenv=>(f env).bind λps=>M.ok (.nx (env.set i (some (.ow ps))))
def F8(hN:X.N.Nodup)(hi:X.N[i]?=some x)(hx:Loc X.env.scope x)(he:PE X e (tO (λ_=>E) fs))(hs:autoParam (swapsWith e (some (.Name x pos')) pos.line X.env=pure false) aR._auto_1)(hf:autoParam ↑1 aF._auto_1):PS X (.Assign [.Name x pos'] e pos) (tS E (mD i fs)):=by
 refine(tN hN hi hx he hs hf).imp λD σ H q=>?_;obtain⟨B,H₀,Hs,env,sr,q⟩:=q;refine⟨B,H₀,Hs,env,sr,(aq.bind q).imp (λps hp vs p Oe H' g r n=>?_) λe he=>he.grow sr.gr⟩;exact hp _ Oe _ ((sr.grow g).own r n)
def gO(fs:af->M (List PV)):af->M (List PV):=λenv=>(fs env).bind λps=>if ps.length<=sizeLine then M.ok ps else none
def IZ{E:St->XK}(hr:PA X es (tL E fs)):PE X (.List es pos) (tO E (gO fs)):=by
 refine(Cz hr).imp fun σ H Q q=>?_;obtain⟨B,H₀,Hs,env,sr,q⟩:=q;refine⟨B,H₀,Hs,env,sr,(aq.bind q).imp (λps hp vs Oe H' g r=>?_) λe he=>he⟩
 by_cases hz:ps.length<=sizeLine
 .rw[if_pos hz] at hp;exact⟨by rwa[<- r.length],λp n=>hp vs p Oe H' g r n⟩
 .rw[if_neg hz] at hp;exact hp.elim
def jc(i:Nat)(f:af->M PV):af->M Out:=λenv=>match env[i]? with
 | some (some (.ow xs))=>(f env).bind λp=>if xs.length<sizeLine then M.ok (.nx (env.set i (some (.ow (xs++[p]))))) else none
 |_=>none
def SR.put{B:Hp}{env:af}{a:Addr}{ys:List PV}{us:List V}(r:SR B H₀ Hs H σ env)(e:env[i]?=some (some (.ow xs)))(hi:σ[i]?=some (some (.ref a)))(h:aB Hs ys us):SR B H₀ Hs (upd H a (.lst us)) σ (env.set i (some (.ow ys))):=by
 obtain⟨a',vs,h1,h2,h3,h4,h5⟩:=r.ow i xs e;rw[hi] at h1;cases h1;exact r.Cs hi (r.gr.jP h3 h4) (λ_ _ q=>q) (λ_ q=>by cases q;exact⟨_,rfl,a,us,rfl,ay,h3,h4,h⟩) (λj y b u n ej o z q1 q2 _=>⟨by rwa[au (λw=>by subst w;exact r.ap i j _ y b n e ej rfl o hi z)],q2⟩) λ_ _ _ k z n ek o=>r.ap i k _ z a n e ek rfl o hi
def yL(hi:X.N[i]?=some x)(hv:AN X.env.scope x)(he:PE X e (tE (λ_=>E) f))(hd:autoParam ↑7 aD._auto_1)(O7:autoParam ↑6 aD._auto_1)(P8:autoParam (attributeBase (.Name x px) "append" X.env (eval (.Name x px) X.env)=eval (.Name x px) X.env) aR._auto_1)(Rt:autoParam (((backTo Oy (starEach [e] X.env)).all (λx=>!x.1)&&(backToKw Oy (keywordEach [] X.env)).all (λx=>x.1.isSome) && decide (([e]:List Expr).length+([]:List Keyword).length+(if ([]:List Keyword).isEmpty then 0 else 1)<30))=true) aR._auto_1)(P9:autoParam ((apos.endLine==Oy.line)=true) aR._auto_1)(OV:autoParam (starEach [e] X.env=(false,eval e X.env)::starEach [] X.env) aR._auto_1)(Qk:autoParam ((backTo Oy (starEach [] X.env)).any (·.1)=false) aR._auto_1)(hs:autoParam (swapsWith (.Call (.Attribute (.Name x px) "append" apos) [e] [] Oy) none pos.line X.env=pure false) aR._auto_1):PS X (.Expr (.Call (.Attribute (.Name x px) "append" apos) [e] [] Oy) pos) (tS E (jc i f)):=by
 refine(yk (K6 YF PySem.F.slot_list_append PySem.F.type_list_append rB (iE hi hv hd O7) (cL he i5 OV) P8 Rt P9 OV Qk) hs).imp λD σ H q=>?_;obtain⟨B,H₀,Hs,env,sr,q⟩:=q;unfold jc at q
 split at q
 .rename_i xs ex;obtain⟨a,vs,h1,h2,h3,h4,h5⟩:=sr.ow i xs ex;refine⟨.ref a,h1,.inl ⟨rfl,vs,h9.of h2⟩,B,H₀,Hs,env,sr,(aq.bind q).imp (λp hp v Oe H' g r=>?_) λe he=>he.grow sr.gr⟩
  by_cases hz:xs.length<sizeLine
  .rw[if_pos hz] at hp;have Qf:=sr.grow g;have r5:aB Oe (xs++[p]) (vs++[v]):=(h5.mono g.st).snoc r;exact⟨a,vs,v,rfl,rfl,g.al _ _ h2,by rwa[<- h5.length],hp σ Oe _ (Qf.put ex h1 r5)⟩
  .rw[if_neg hz] at hp;exact hp.elim
 .exact q.elim
end
def JL:Out->M PV
 | .rt p=>M.ok p
 | .nx _=>M.ok .dq
 |_=>none
def mZ(m:Nat)(ps:List PV):af:=ps.map (λp=>some (.sh p))++Sx (m-ps.length) none
def az(m:Nat)(g:af->M Out)(ps:List PV):M PV:=(g (mZ m ps)).bind JL
theorem SR.start{Hs H:Hp}{N:List Str}{ps:List PV}{vs:List V}(s:aQ Hs H)(r:aB Hs ps vs):SR Hs H Hs H (start N vs) (mZ N.length ps):=by
 have key:∀(i:Nat)(x:SV),(mZ N.length ps)[i]?=some (some x)->∃p v,x=.sh p/\(L2.start N vs)[i]?=some (some v)/\Rep Hs p v:=λi x e=>by
  unfold mZ at e;unfold L2.start
  by_cases hi:i<ps.length
  .rw[TX (by simpa using hi),Te,Sy hi] at e;cases e;obtain⟨v,h1,h2⟩:=r.get (Sy hi);exact⟨_,v,rfl,by rw[TX (by simpa using (r.length▸hi)),Te,h1];rfl,h2⟩
  .rw[To (by simpa using hi),WU] at e
   split at e<;>cases e
 exact⟨.refl s,by unfold L2.start mZ;simp[r.length],λi x e=>by obtain⟨p,v,rfl,h⟩:=key i x e;exact⟨v,h⟩,λi j x y a _ e _ o=>by obtain⟨p,v,rfl,h⟩:=key i x e;cases o⟩
def Jf{K:SD}{dV kV doc pm Ov ct oc:Value}{od:Option Addr}{g:af->M Out}(lk:K.lookup f=some ⟨oc,od,.func (UR name qual params body scope dV kV doc pm an Ov ct),Q4⟩)(O7:VG K Ov qual=true)(S:dM N ps scope)(hb:∀(A:Around)(outer:List Env)(s:Shared)(H:Hp)(E:XK),bU k (A.deeper (envOfC qual scope s.heap.objs.size f Ov))->mW ((lJ (cu P w) P w K mg base N qual scope f Ov A outer s H E).out λ_=>E) body (tS E g)):aT P w K mg base (cu P w) (k+1) f (UR name qual params body scope dV kV doc pm an Ov ct) ps (dY ps.length (az N.length g)):=by
 refine Co lk O7 S (λvs H Q E h=>h.1) λA outer s H vs Q E hr hs=>⟨_,hb A outer s H E hr,?_⟩
 obtain⟨_,Hs,P7,sm,r,h⟩:=hs;refine⟨Hs,H,Hs,_,SR.start sm r,(aq.bind h).imp (λo ho=>?_) λe he=>he⟩;cases o with
 | rt p=>exact λv Oe H' gr rv=>ho v Oe H' gr rv
 | nx env=>exact fun σ Oe H' sr=>ho .dq Oe H' sr.gr .dq
 | bk env=>exact ho.elim
 |ct env=>exact ho.elim
section
variable{E:XK}{pos p:Pos}{fs:af->M (List PV)}
end
structure i6 (J:It) (Oj:Hp) (xs:List PV):Prop where
 stop:∀(i:Nat)(Hs H:Hp),aQ Oj Hs->aQ Hs H->xs.length<=i->J.stop i H
 go:∀(i:Nat)(Hs H:Hp),aQ Oj Hs->aQ Hs H->i<xs.length->J.go i H
 uv:∀(i:Nat)(Hs H:Hp)(x:V)(H2:Hp),aQ Oj Hs->aQ Hs H->i<xs.length->J.uv i H x H2->∃p Ol,xs[i]?=some p/\aW Hs H Ol H2/\Rep Ol p x
def KI(R:It->Hp->Prop):Hp->Hp->List PV->Prop:=λHs H xs=>∀J Oe H',aW Hs H Oe H'->i6 J Oe xs->R J H'
def x_(E:St->XK)(wi:TI)(it:af->M (List PV)):Prop:=∀(σ:St)(H:Hp)(R:It->Hp->Prop),tG E it (KI R) σ H->wi σ H R
theorem KI.g{R:It->Hp->Prop}:KG (KI R):=λHs H Oe H' b k g J Ol H2 g2 o=>k J Ol H2 (g.trans g2) o
section
variable{K:SD}{f:af->M PV}{fs:af->M (List PV)}
def A9{a:Addr}(hq:∀Oe H',aQ Oj Oe->aQ Oe H'->jC K H' b a vs)(hr:aB Oj xs vs):i6 (MD K b a) Oj xs where
 stop:=λi Hs H s1 s2 hi=>by
  have q:=hq Hs H s1 s2;cases b with
  | true=>exact⟨vs,q,by rwa[<- hr.length]⟩
  | false=>exact⟨vs,q,by rwa[<- hr.length]⟩
 go:=λi Hs H s1 s2 hi=>by
  have q:=hq Hs H s1 s2;obtain⟨v,e,_⟩:=hr.get (Sy hi);cases b with
  | true=>exact⟨vs,v,q,e⟩
  | false=>exact⟨vs,v,q,e⟩
 uv:=λi Hs H x H2 s1 s2 hi y=>by
  have q:=hq Hs H s1 s2;obtain⟨v,e,r⟩:=hr.get (Sy hi);have z:H2=H/\vs[i]?=some x:=by
   cases b with
   | true=>exact⟨y.1,y.2 vs q⟩
   | false=>exact⟨y.1,y.2 vs q⟩
  obtain⟨rfl,z⟩:=z;rw[e] at z;cases z;exact⟨xs[i],Hs,Sy hi,.refl s2,r.mono s1⟩
def cJ:x_ E (Kx K (tE E f)) (itemsOf f):=by
 intro σ H R q;refine b_ (K:=KI R) KI.g q λB H₀ Hs H1 env p v sr rp hp=>?_;cases e:bX p with
 | none=>rw[e] at hp;exact hp.elim
 | some xs =>
  rw[e] at hp;obtain⟨b,a,vs,rfl,hq,hr⟩:=jd (K:=K) sr.gr.sub rp e;exact⟨b,a,rfl,⟨vs,hq Hs H1 (λ_ _ z=>z) sr.gr.sub⟩,hp (MD K b a) Hs H1 (.refl sr.gr.sub) (A9 hq hr)⟩
def kL(o:List PV->M (List PV))(fs:af->M (List PV)):af->M (List PV):=λenv=>(fs env).bind o
def uC{lo:Int}:i6 (J8 lo n) Oj ((S1 n).map λ(i:Nat)=>PV.int (lo+(i:Int))) where
 stop:=λi Hs H s1 s2 hi=>show n<=i by simpa using hi
 go:=λi Hs H s1 s2 hi=>show i<n by simpa using hi
 uv:=λi Hs H x H2 s1 s2 hi y=>by
  obtain⟨rfl,rfl⟩:=y;exact⟨_,Hs,yU (by simpa using hi),.refl s2,.int _⟩
def aH(x:M α):x.bind M.ok=x:=by
 cases x with
 | none=>rfl
 |some x=>cases x<;>rfl
def fF:x_ E (F9 (tL E fs)) (kL nU fs):=by
 intro σ H R q;refine cZ (K:=KI R) KI.g q λB H₀ Hs H1 env ps v sr rp hp=>?_;rw[<- aH (nU ps)] at hp;obtain⟨n,rfl,h1,h2,hp⟩:=zx hp;obtain⟨w,rfl,P1⟩:=rp.one;cases P1;exact⟨n,rfl,h1,h2,hp _ Hs H1 (.refl sr.gr.sub) uC⟩
def Al:x_ E (Gq (tL E fs)) (kL yP fs):=by
 intro σ H R q;refine cZ (K:=KI R) KI.g q λB H₀ Hs H1 env ps v sr rp hp=>?_;rw[<- aH (yP ps)] at hp;obtain⟨n,m,rfl,h1,hp⟩:=zD hp;obtain⟨w,u,rfl,P1,ru⟩:=rp.two;cases P1;cases ru;exact⟨n,m,rfl,h1,hp _ Hs H1 (.refl sr.gr.sub) uC⟩
def Dm{ys:List PV}(h1:i<xs.length)(h2:i<ys.length):(Y3 (λa b=>PV.tup [a,b]) xs ys)[i]?=some (.tup [xs[i],ys[i]]):=by
 rw[List.getElem?_zipWith,Sy h1,Sy h2]
theorem CU{b1 b2:Bool}{a1 a2:Addr}{ys:List PV}{us:List V}(OS:∀Oe H',aQ Oj Oe->aQ Oe H'->jC K H' b1 a1 vs)(QN:aB Oj xs vs)(ON:∀Oe H',aQ Oj Oe->aQ Oe H'->jC K H' b2 a2 us)(QO:aB Oj ys us):i6 (Mr K b1 b2 a1 a2) Oj (Y3 (λa b=>PV.tup [a,b]) xs ys) where
 stop:=λi Hs H s1 s2 hi=>by
  rw[XO,QN.length,QO.length] at hi;exact⟨vs,us,OS Hs H s1 s2,ON Hs H s1 s2,by lia⟩
 go:=λi Hs H s1 s2 hi=>by
  rw[XO] at hi;obtain⟨v,e,_⟩:=QN.get (Sy (show i<xs.length by lia));obtain⟨u,e',_⟩:=QO.get (Sy (show i<ys.length by lia));exact⟨vs,us,v,u,OS Hs H s1 s2,ON Hs H s1 s2,e,e'⟩
 uv:=λi Hs H x H2 s1 s2 hi y=>by
  rw[XO] at hi;have l1:i<xs.length:=by lia
  have l2:i<ys.length:=by lia
  obtain⟨v,e,r⟩:=QN.get (Sy l1);obtain⟨u,e',r'⟩:=QO.get (Sy l2);obtain⟨pa,v',u',hn,rfl,rfl,y1,y2⟩:=y;have z1:=y1 vs (OS Hs H s1 s2);have z2:=y2 us (ON Hs H s1 s2);rw[e] at z1;cases z1;rw[e'] at z2;cases z2;have gr:=aW.new (o:=.tup [v,u]) s2 hn;exact⟨_,_,Dm l1 l2,gr,.tup ay (.cons ((r.mono s1).mono gr.st) (.cons ((r'.mono s1).mono gr.st) .nil))⟩
def oo:x_ E (LP K (tL E fs)) (kL zip2 fs):=by
 intro σ H R q;refine cZ (K:=KI R) KI.g q λB H₀ Hs H1 env ps v sr rp hp=>?_;rw[<- aH (zip2 ps)] at hp;obtain⟨p,q,xs,ys,rfl,e1,e2,hp⟩:=zG hp;obtain⟨w,u,rfl,P1,ru⟩:=rp.two;obtain⟨b1,a1,vs,rfl,OS,QN⟩:=jd (K:=K) sr.gr.sub P1 e1;obtain⟨b2,a2,us,rfl,ON,QO⟩:=jd (K:=K) sr.gr.sub ru e2;exact⟨b1,b2,a1,a2,rfl,⟨vs,OS Hs H1 (λ_ _ z=>z) sr.gr.sub⟩,⟨us,ON Hs H1 (λ_ _ z=>z) sr.gr.sub⟩,hp _ Hs H1 (.refl sr.gr.sub) (CU OS QN ON QO)⟩
end
theorem bO{E:XK}{pos:Pos}{g:TG}{set:PV->af->M af}{body:af->M Out}{bd:List Stmt}{wi:TI}{it:af->M (List PV)}(O:gB X λ_=>E)(hc:X.calm=true)(hi:PI X tg iter wi)(hv:x_ (λ_=>E) wi it)(hg:PG X tg g)(QY:DL E g set)(hb:mW X bd (tS E body))(hs:autoParam ↑5 aI._auto_1):PS X (.For tg iter bd [] pos) (tS E (iz it set body)):=by
 refine(Hq O.own hc hi hg hb hs).imp λD σ H q=>hv σ H _ ?_;obtain⟨B,H₀,Hs,env,sr,q⟩:=q;refine⟨B,H₀,Hs,env,sr,(aq.bind q).imp (λxs hp J Oe H' gr ok=>?_) λe he=>he.grow sr.gr⟩;have Qf:=sr.grow gr;refine⟨λi m σ H=>m=xs.length-i/\i<=xs.length/\Jv E set body D B H₀ Oe xs i σ H,⟨xs.length,by simp,SX _,Oe,env,Qf,λ_ _ z=>z,hp⟩,?_⟩;rintro i m σ' H2 ⟨rfl,hi,Ol,env2,OL,s2,h2⟩
 by_cases OC:i<xs.length
 .refine .inr ⟨ok.go i Ol H2 s2 OL.gr.sub OC,Jv E set body D B H₀ Oe xs (i+1),fun σ3 H3 j=>⟨xs.length-(i+1),by lia,rfl,OC,j⟩,λx H3 y=>?_⟩;obtain⟨p,PQ,ep,g3,r3⟩:=ok.uv i Ol H2 x H3 s2 OL.gr.sub OC y;exact Jv.turn (Hx:=H2) (H1:=H2) QY ep OL s2 h2 g3 r3
 .have e:i=xs.length:=by lia
  refine .inl ⟨ok.stop i Ol H2 s2 OL.gr.sub ⋯,?_⟩;exact Jv.done (E:=E) (set:=set) (body:=body) (xs:=xs) (B:=B) (H₀:=H₀) (Oj:=Oe) (n:=i) ⟨Ol,env2,OL,s2,h2⟩ ⋯
abbrev EF:St->XK:=λ_ _ _ _=>False
def qT(env:af):Prop:=∀(i:Nat)(x:SV),env[i]?=some (some x)->∃p,x=.sh p
def qT.no{env:af}(n:qT env){x:SV}(e:env[i]?=some (some x))(o:gD x=true):False:=by obtain⟨p,rfl⟩:=n i _ e;cases o
def JX:M α->M α
 | some (.ok a)=>some (.ok a)
 |_=>none
theorem aq.JX{α:Type}{x:M α}{Q:α->Prop}{E:EX->Prop}(h:aq (L2.JX x) Q E):aq x Q (λ_=>False):=by
 cases x with
 | none=>exact h
 | some x=>cases x with
  | ok a=>exact h
  |error e=>exact h
def kU(n:Nat)(js:List Nat)(env:af):af:=Sx n none++js.map λj=>match env[j]? with
 | some (some (.sh p))=>some (.sh p)
 |_=>none
theorem qW{env:af}{x:SV}(h:(kU n js env)[i]?=some (some x)):∃j p,n<=i/\js[i-n]?=some j/\env[j]?=some (some (.sh p))/\x=.sh p:=by
 unfold kU at h
 by_cases hi:i<n
 .rw[TX (by simpa using hi),WU] at h
  split at h<;>cases h
 .rw[To (by simpa using hi),Te,Zz] at h;cases hj:js[i-n]? with
  | none=>rw[hj] at h;cases h
  | some j =>
   rw[hj] at h;have h':(match env[j]? with|some (some (.sh p))=>some (SV.sh p)|_=>none)=some x:=Th h
   split at h'
   .rename_i p e;cases h';exact⟨j,p,by lia,rfl,e,rfl⟩
   .cases h'
def lp{env:af}:qT (kU n js env):=λi xs e=>by
 obtain⟨_,p,_,_,_,z⟩:=qW e;exact⟨p,z⟩
variable{D:Addr}
def SR.block{B:Hp}{env:af}(r:SR B H₀ Hs H σ env)(hD:H D=none):SR Hs H Hs (upd H D (.lst [])) (ff ts js σ) (kU ts.length js env) where
 gr:=(aW.refl r.gr.sub).jP (r.free hD).1 hD
 len:=by unfold ff kU;simp
 at_:=λi x e=>by
  obtain⟨j,q,hn,hj,he,rfl⟩:=qW e;obtain⟨v,h1,h2⟩:=r.sh j q he;refine⟨v,?_,h2⟩;unfold ff;rw[To (by simpa using hn),Te,SG,hj];show some (σ[j]?).join=_;rw[h1];rfl
 ap:=λi j x y a _ e _ o=>(lp.no e o).elim
def SR.Jr{B:Hp}{env:af}{o:HO}(r:SR B H₀ Hs H σ env)(n:qT env)(h1:Hs D=none)(h2:H₀ D=none):SR B H₀ Hs (upd H D o) σ env :=
 r.mv (r.gr.jP h1 h2) r.len (λ_ _ q=>q) λ_ _ e=>⟨e,rfl,λ_ _ o=>(n.no e o).elim⟩
def bI(set:PV->af->M af)(t:Option (af->M Bool))(f:af->M PV):List PV->af->M (List PV)
 | [],_=>M.ok []
 | x::xs,env=>(set x env).bind λe=>match t with
  | none=>(f e).bind λy=>(bI set t f xs e).bind λys=>M.ok (y::ys)
  |some t'=>(t' e).bind λb=>if b=true then (f e).bind λy=>(bI set t f xs e).bind λys=>M.ok (y::ys) else bI set t f xs e
def cq(it:af->M (List PV))(set:PV->af->M af)(t:Option (af->M Bool))(f:af->M PV)(n:Nat)(js:List Nat):af->M (List PV):=λenv=>(it env).bind λxs=>cM (xs.length<=sizeLine) (JX (bI set t f xs (kU n js env)))
def nB(set:PV->af->M af):Prop:=∀p env e,set p env=some (.ok e)->qT env->qT e
def j8{env:af}(n:qT env):qT (env.set i (some (.sh p))):=λj xs e=>by
 rw[VZ] at e
 by_cases z:i=j
 .rw[if_pos z] at e
  split at e
  .cases e;exact⟨p,rfl⟩
  .cases e
 .rw[if_neg z] at e;exact n j xs e
def ba:nB (bL i):=λp env e h n=>by
 cases h;exact j8 n
def gJ:nB (bT i j):=λp env e h n=>by
 unfold bT at h
 split at h
 .cases h;exact j8 (j8 n)
 .cases h
section
variable{set:PV->af->M af}{t:Option (af->M Bool)}{f:af->M PV}{Q:VK}{H1:Hp}
def Jc(set:PV->af->M af)(t:Option (af->M Bool))(f:af->M PV)(Q:VK)(Oj H1:Hp)(D:Addr)(xs:List PV)(i:Nat)(σ:St)(H:Hp):Prop:=∃Hs env ys vs,SR Oj H1 Hs H σ env/\qT env/\H D=some (.lst vs)/\Hs D=none/\aB Hs ys vs/\ys.length<=i ∧
 aq (bI set t f (xs.drop i) env) (λzs=>KO Q Oj H1 (ys++zs)) (λ_=>False)
def rem(H:Hp)(D:Addr):Hp:=λa=>if a=D then none else H a
def BM:rem H D D=none:=by unfold rem;rw[if_pos rfl]
def h_{a:Addr}(n:a≠D):rem H D a=H a:=by unfold rem;rw[if_neg n]
def F7{o:HO}(h:H D=some o):upd (rem H D) D o=H:=by
 funext a
 by_cases z:a=D
 .subst z;rw[ay,h]
 .rw[au z,h_ z]
def Jc.done(hD:H1 D=none)(j:Jc set t f Q Oj H1 D xs i σ H)(hi:xs.length<=i):Q (.ref D) H:=by
 obtain⟨Hs,env,ys,vs,sr,n,h1,h2,r,_,h⟩:=j;rw[Wj hi] at h;have h':KO Q Oj H1 (ys++[]):=h;rw[UC] at h';have gr:aW Oj H1 Hs (rem H D):=by
  refine⟨sr.gr.st,λc u q=>?_,λc u q=>?_,sr.gr.nw⟩
  .rw[h_ (λz=>by rw[z,hD] at q;cases q)];exact sr.gr.al c u q
  .rw[h_ (λz=>by rw[z,h2] at q;cases q)];exact sr.gr.sub c u q
 have:=h' vs D Hs (rem H D) gr r BM;rwa[F7 h1] at this
theorem Jc.put{env:af}{ys:List PV}{y:PV}(hD:H1 D=none)(sr:SR Oj H1 Hs H σ env)(n:qT env)(h1:H D=some (.lst vs))(h2:Hs D=none)(r:aB Hs ys vs)(hy:ys.length<=i)(hi:i<sizeLine)(rv:Rep Hs y v)(h:aq ((bI set t f (xs.drop (i+1)) env).bind λzs=>M.ok (y::zs)) (λzs=>KO Q Oj H1 (ys++zs)) (λ_=>False)):∃us,H D=some (.lst us)/\us.length<sizeLine/\Jc set t f Q Oj H1 D xs (i+1) σ (upd H D (.lst (us++[v]))):=by
 refine⟨vs,h1,by rw[<- r.length];lia,Hs,env,ys++[y],vs++[v],sr.Jr n h2 hD,n,ay,h2,r.snoc rv,by rw[S6];show ys.length+1<=i+1;lia,(aq.bind h).imp (λzs hz=>?_) λ_ z=>z⟩;have Q2:KO Q Oj H1 (ys++(y::zs)):=hz;rwa[Ux]
end
section
variable{cl:List (Str×Addr)}{pos:Pos}{wi:TI}{it:af->M (List PV)}{g:TG}{set:PV->af->M af}{f:af->M PV}{u:af->M Bool}{fs:List Str}
def xU{s₀:Shared}{ex:List Addr}:gB (qq X scope cl N C s₀ H₀ ex N9) EF where
 pass:=λ_ _ _ _ _ _ _ h=>by
  obtain⟨_,_,_,_,_,_,_,_,_,_,_,_,_,z⟩:=h;exact z.elim
 new:=λ_ _ _ _ _ _ _ _ _ z=>z.elim
 own:=PassesOwn.never
theorem uw{Q:VK}(hv:x_ E wi it)(QY:∀E,DL E g set)(so:nB set)(q:tO E (cq it set none f ts.length js) σ H Q):w_ wi g (tE EF f) ts js σ H Q:=by
 refine hv σ H _ ?_;obtain⟨B,H₀,Hs,env,sr,q⟩:=q;refine⟨B,H₀,Hs,env,sr,(aq.bind q).imp (λxs hp J Oj H1 gr ok D hD=>?_) λe he=>he⟩;obtain⟨hz,hp⟩:=aq.cM hp;have hp:=aq.JX hp;have QA:=sr.grow gr;refine⟨λi m σ H=>m=xs.length-i/\i<=xs.length/\Jc set none f Q Oj H1 D xs i σ H,⟨xs.length,by simp,SX _,Oj,_,[],[],QA.block hD,lp,ay,?_,.nil,SE _,hp.imp (λzs hz vs p Ol H2 g2 r n=>hz vs p Ol H2 (gr.trans g2) r n) λ_ z=>z⟩,?_⟩
 .cases z:Oj D with
  | none=>rfl
  | some o=>have:=gr.sub _ _ z;rw[hD] at this;cases this
 rintro i m σ' H2 ⟨rfl,hi,Ol,env2,ys,vs,OL,n2,d1,d2,r2,l2,h2⟩
 by_cases OC:i<xs.length
 .refine .inr ⟨ok.go i Ol H2 OL.gr.st OL.gr.sub OC,Jc set none f Q Oj H1 D xs (i+1),fun σ3 H3 j=>⟨xs.length-(i+1),by lia,rfl,OC,j⟩,λx H3 y=>?_⟩;obtain⟨p,PQ,ep,g3,r3⟩:=ok.uv i Ol H2 x H3 OL.gr.st OL.gr.sub OC y;have hd:xs.drop i=p::xs.drop (i+1):=by
   rw[Va OC];rw[Sy OC] at ep;rw[Th ep]
  rw[hd] at h2;have h3:=aq.bind h2;have Qo:=OL.grow g3;refine QY (λ_ _ _=>False) Oj H1 PQ H3 σ' env2 p x _ (λ_=>False) Qo r3 ?_;cases hset:set p env2 with
  | none=>rwa[hset] at h3
  | some z=>cases z with
   | error e=>rwa[hset] at h3
   | ok e3 =>
    rw[hset] at h3;intro σ4 sr4;have n4:=so p env2 e3 hset n2;refine⟨Oj,H1,PQ,e3,sr4,(aq.bind h3).imp (λy hy v RP H5 g5 r5=>?_) λ_ z=>z.elim⟩;exact Jc.put (set:=set) (t:=none) (f:=f) hD (sr4.grow g5) n4 (g5.al _ _ (g3.al _ _ d1)) (g5.nw _ _ (g3.nw _ _ d2 d1 (λ_=>nofun)) (g3.al _ _ d1) (λ_=>nofun)) ((r2.mono g3.st).mono g5.st) l2 ⋯ r5 hy
 .refine .inl ⟨ok.stop i Ol H2 OL.gr.st OL.gr.sub ⋯,?_⟩;exact Jc.done (set:=set) (t:=none) (f:=f) (xs:=xs) (Oj:=Oj) (H1:=H1) (i:=i) hD ⟨Ol,env2,ys,vs,OL,n2,d1,d2,r2,l2,h2⟩ ⋯
theorem BK{Q:VK}(hv:x_ E wi it)(QY:∀E,DL E g set)(so:nB set)(q:tO E (cq it set (some u) f ts.length js) σ H Q):Dz wi g (tT EF u) (tE EF f) ts js σ H Q:=by
 refine hv σ H _ ?_;obtain⟨B,H₀,Hs,env,sr,q⟩:=q;refine⟨B,H₀,Hs,env,sr,(aq.bind q).imp (λxs hp J Oj H1 gr ok D hD=>?_) λe he=>he⟩;obtain⟨hz,hp⟩:=aq.cM hp;have hp:=aq.JX hp;have QA:=sr.grow gr;refine⟨λi m σ H=>m=xs.length-i/\i<=xs.length/\Jc set (some u) f Q Oj H1 D xs i σ H,⟨xs.length,by simp,SX _,Oj,_,[],[],QA.block hD,lp,ay,?_,.nil,SE _,hp.imp (λzs hz vs p Ol H2 g2 r n=>hz vs p Ol H2 (gr.trans g2) r n) λ_ z=>z⟩,?_⟩
 .cases z:Oj D with
  | none=>rfl
  | some o=>have:=gr.sub _ _ z;rw[hD] at this;cases this
 rintro i m σ' H2 ⟨rfl,hi,Ol,env2,ys,vs,OL,n2,d1,d2,r2,l2,h2⟩
 by_cases OC:i<xs.length
 .refine .inr ⟨ok.go i Ol H2 OL.gr.st OL.gr.sub OC,Jc set (some u) f Q Oj H1 D xs (i+1),fun σ3 H3 j=>⟨xs.length-(i+1),by lia,rfl,OC,j⟩,λx H3 y=>?_⟩;obtain⟨p,PQ,ep,g3,r3⟩:=ok.uv i Ol H2 x H3 OL.gr.st OL.gr.sub OC y;have hd:xs.drop i=p::xs.drop (i+1):=by
   rw[Va OC];rw[Sy OC] at ep;rw[Th ep]
  rw[hd] at h2;have h3:=aq.bind h2;have Qo:=OL.grow g3;refine QY (λ_ _ _=>False) Oj H1 PQ H3 σ' env2 p x _ (λ_=>False) Qo r3 ?_;cases hset:set p env2 with
  | none=>rwa[hset] at h3
  | some z=>cases z with
   | error e=>rwa[hset] at h3
   | ok e3 =>
    rw[hset] at h3;intro σ4 sr4;have n4:=so p env2 e3 hset n2;refine⟨Oj,H1,PQ,e3,sr4,(aq.bind h3).imp (λb hb RP H5 g5=>?_) λ_ z=>z.elim⟩;have d5:=g5.al _ _ (g3.al _ _ d1);have e5:=g5.nw _ _ (g3.nw _ _ d2 d1 (λ_=>nofun)) (g3.al _ _ d1) (λ_=>nofun);cases b with
    | true =>
     refine⟨Oj,H1,RP,e3,sr4.grow g5,(aq.bind hb).imp (λy hy v Hs6 H6 g6 r6=>?_) λ_ z=>z.elim⟩;exact Jc.put (set:=set) (t:=some u) (f:=f) hD ((sr4.grow g5).grow g6) n4 (g6.al _ _ d5) (g6.nw _ _ e5 d5 (λ_=>nofun)) (((r2.mono g3.st).mono g5.st).mono g6.st) l2 ⋯ r6 hy
    | false=>exact⟨RP,e3,ys,vs,sr4.grow g5,n4,d5,e5,(r2.mono g3.st).mono g5.st,by lia,hb⟩
 .refine .inl ⟨ok.stop i Ol H2 OL.gr.st OL.gr.sub ⋯,?_⟩;exact Jc.done (set:=set) (t:=some u) (f:=f) (xs:=xs) (Oj:=Oj) (H1:=H1) (i:=i) hD ⟨Ol,env2,ys,vs,OL,n2,d1,d2,r2,l2,h2⟩ ⋯
def bo(Ow:X.calm=true)(OB:closureFor scope X.env=pure cl)(hk:scope.kind=.function)(nc:fL scope.names=true)(lo:g_ scope.names=true)(fh:gS cl scope.names=true)(ag:eI X cl)(fr:iR X scope cl fs js)(hi:PI X tg iter wi)(hv:x_ E wi it)(hg:∀C s₀ H₀ ex N9,PG (qq X scope cl (ts++fs) C s₀ H₀ ex N9) tg g)(QY:∀E,DL E g set)(so:nB set)(he:∀C s₀ H₀ ex N9,PE (qq X scope cl (ts++fs) C s₀ H₀ ex N9) elt (tE EF f))(hs:autoParam ↑5 aI._auto_1):PE X (.ListComp elt [⟨tg,iter,[],0⟩] scope pos) (tO E (cq it set none f ts.length js)):=by
 exact(Bb Ow OB hk nc lo fh ag fr hi hg he hs).imp fun σ H Q q=>uw hv QY so q
def cH(fo:af->M (List PV)):af->M PV:=λenv=>(fo env).bind λps=>M.ok (.lst ps)
def cC{fo:af->M (List PV)}(he:PE X e (tO E fo)):PE X e (tE E (cH fo)):=he.imp fun σ H Q q=>by
 obtain⟨B,H₀,Hs,env,sr,q⟩:=q;refine⟨B,H₀,Hs,env,sr,(aq.bind q).imp (λps hp vs p Oe H' g r n=>?_) λe he=>he⟩;have gn:=aW.new (o:=.lst vs) g.sub n;exact hp _ _ _ (g.trans gn) (.lst ay (r.mono gn.st))
end
def ug(f:Str)(v:PV):List (Str×PV)->List (Str×PV)
 | []=>[(f,v)]
 |(g,x)::r=>if g=f then (g,v)::r else (g,x)::ug f v r
theorem gi.put{H:Hp}{f:Str}{p:PV}{v:V}(h:Rep H p v):∀{fs:List (Str×PV)}{vs:List (Str×V)},gi H fs vs->gi H (ug f p fs) (jy f v vs)
 | _,_,.nil=>.cons h .nil
 | (g,x)::r,_,.cons hx hr=>by
  unfold ug jy
  by_cases z:g=f
  .rw[if_pos z,if_pos z];exact .cons h hr
  .rw[if_neg z,if_neg z];exact .cons hx (hr.put h)
theorem gi.length{H:Hp}:∀{fs:List (Str×PV)}{vs:List (Str×V)},gi H fs vs->fs.length=vs.length
 | _,_,.nil=>rfl
 |_,_,.cons _ r=>by simp[r.length]
def SR.Me{B:Hp}{env:af}{a dx:Addr}{fs gs:List (Str×PV)}{us:List (Str×V)}(r:SR B H₀ Hs H σ env)(e:env[i]?=some (some (.bd a C fs)))(h:gi Hs gs us):SR B H₀ Hs (upd H a (.ins C dx us)) σ (env.set i (some (.bd a C gs))):=by
 obtain⟨dx0,vs,h1,h2,h3,h4,h5⟩:=r.bd i a C fs e;exact r.Cs h1 (r.gr.jP h3 h4) (λ_ _ q=>q) (λ_ q=>by cases q;exact⟨_,rfl,dx,us,rfl,ay,h3,h4,h⟩) (λj y b u n ej o z q1 q2 _=>⟨by rwa[au (λw=>by subst w;exact r.ap i j _ y b n e ej rfl o h1 z)],q2⟩) λ_ _ _ k z n ek o=>r.ap i k _ z a n e ek rfl o h1
def BP(i:Nat)(C:Addr)(f:Str)(p:PV)(env:af):M Out:=match env[i]? with
 | some (some (.bd a C' fs))=>cM (C'=C/\fs.length<1000) (M.ok (.nx (env.set i (some (.bd a C (ug f p fs))))))
 |_=>none
def kW(i:Nat)(C:Addr)(fl:Str)(f:af->M PV):af->M Out:=λenv=>(f env).bind λp=>BP i C fl p env
section
variable{E:XK}{pos:Pos}{f:af->M PV}{fl:Str}
def k8(hi:X.N[i]?=some x)(hv:AN X.env.scope x)(c:mn X.K C)(na:bW X.K C fl)(he:PE X e (tE (λ_=>E) f))(hd:autoParam ↑7 aD._auto_1)(O7:autoParam ↑6 aD._auto_1)(hs:autoParam (swapsWith e (some (.Attribute (.Name x px) fl pos')) pos.line X.env=pure false) aR._auto_1):PS X (.Assign [.Attribute (.Name x px) fl pos'] e pos) (tS E (kW i C fl f)):=by
 refine(Ih (iE hi hv hd O7) he hs).imp λD σ H q=>iK q λB H₀ Hs H1 env p v sr rp hp=>?_;unfold BP at hp
 split at hp
 .rename_i a C' fs ex;obtain⟨⟨rfl,hz⟩,hp⟩:=aq.cM hp;obtain⟨dx,vs,h1,h2,h3,h4,h5⟩:=sr.bd i a _ fs ex;exact⟨.ref a,h1,a,_,dx,vs,rfl,h2,c,na,by rwa[<- h5.length],hp σ Hs _ (sr.Me ex (h5.put rp))⟩
 .exact hp.elim
end
def yv(m:Nat)(a C:Addr)(ps:List PV):af:=some (.bd a C [])::mZ (m-1) ps
def Bo(a C:Addr)(env:af):M (List (Str×PV)):=match (env[0]?:Option (Option SV)) with
 | some (some (.bd b D fs))=>cM (b=a/\D=C) (M.ok fs)
 |_=>none
def outI(a C:Addr):Out->M (List (Str×PV))
 | .nx env=>Bo a C env
 |_=>none
def za(m:Nat)(g:af->M Out)(C a:Addr)(ps:List PV):M (List (Str×PV)):=(g (yv m a C ps)).bind (outI a C)
def IH(s:Addr->M α):M α:=open Classical in if h:∃r,∀a,s a=r then h.choose else none
def Bx{s:Addr->M α}{r:M α}(h:∀a,s a=r):IH s=r:=by
 have hx:∃r,∀a,s a=r:=⟨r,h⟩
 unfold IH;rw[dif_pos hx,<- hx.choose_spec 0,h 0]
theorem aq.IH{α:Type}{s:Addr->M α}{Q:α->Prop}{E:EX->Prop}(h:aq (L2.IH s) Q E)(a:Addr):aq (s a) Q E:=by
 unfold L2.IH at h
 split at h
 .rename_i hx;rwa[hx.choose_spec a]
 .exact h.elim
def Gb(n:Nat)(C:Addr)(sem:Addr->List PV->M (List (Str×PV))):Sp:=λvs H Q E=>vs.length=n/\∃a dx us Hs H1 ps,vs=.ref a::us/\H1 a=none/\H1 dx=none/\dx≠a/\H=upd (upd H1 dx (.own a)) a (.ins C dx [])/\aQ Hs H1/\aB Hs ps us ∧
 aq (sem a ps) (λfs=>∀RF ws Oe H',aW Hs H1 Oe H'->H' a=some (.ins C RF ws)->Oe a=none->gi Oe fs ws->Q .dq H') (XW E Hs H1)
def SR.JT{a dx:Addr}{ps:List PV}(s:aQ Hs H₀)(hN:0<N.length)(ha:H₀ a=none)(r:aB Hs ps vs)(hH:H=upd H₀ a (.ins C dx [])):SR Hs H₀ Hs H (L2.start N (.ref a::vs)) (yv N.length a C ps):=by
 have hs:Hs a=none:=by
  cases q:Hs a with
  | none=>rfl
  | some o=>have:=s _ _ q;rw[ha] at this;cases this
 have ne:∀c u,H₀ c=some u->c≠a:=λc u e z=>by rw[z,ha] at e;cases e
 have s0:=SR.start (N:=N.tail) s r;have e1:L2.start N (.ref a::vs)=some (.ref a)::L2.start N.tail vs:=by
  unfold L2.start;simp only[S0,List.cons_append,Tj,aaM];rw[Nat.sub_sub,YY]
 have e2:yv N.length a C ps=some (.bd a C [])::mZ N.tail.length ps:=by unfold yv;rw[aaM]
 have al:aQ H₀ H:=λc u q=>by rwa[hH,au (ne c u q)]
 rw[e1,e2];have no:∀(j:Nat)(x:SV),(mZ N.tail.length ps)[j]?=some (some x)->gD x=true->False:=λj x e o=>by
  obtain⟨v,h1,h2⟩:=s0.at_ j x e;obtain⟨b,u,_,q1,_,q2,_⟩:=h2.jP o;rw[q2] at q1;cases q1
 refine⟨⟨λ_ _ e=>e,al,λc u q=>al c u (s c u q),λc u q _ _=>q⟩,by simp[s0.len],λj x ej=>?_,λj k x y b nj e1 e2 o1 o2=>?_⟩
 .cases j with
  | zero=>cases ej;exact⟨_,rfl,dx,[],rfl,by rw[hH];exact ay,hs,ha,.nil⟩
  | succ j =>
   have ej:(mZ N.tail.length ps)[j]?=some (some x):=by simpa using ej
   obtain⟨v,h1,h2⟩:=s0.at_ j x ej;exact⟨v,by simpa using h1,h2.mono (λ_ _ q=>q) λ_ _ o=>(no j x ej o).elim⟩
 .cases j with
  | zero=>cases k with
   | zero=>exact absurd rfl nj
   | succ k=>exact(no k y (by simpa using e2) o2).elim
  |succ j=>exact(no j x (by simpa using e1) o1).elim
def F5{K:SD}{dV kV doc pm Ov ct oc:Value}{od:Option Addr}{g:af->M Out}(lk:K.lookup f=some ⟨oc,od,.func (UR name qual params body scope dV kV doc pm an Ov ct),Q4⟩)(O7:VG K Ov qual=true)(S:dM N ps scope)(hN:0<N.length)(hb:∀(A:Around)(outer:List Env)(s:Shared)(H:Hp)(E:XK),bU k (A.deeper (envOfC qual scope s.heap.objs.size f Ov))->mW ((lJ (cu P w) P w K mg base N qual scope f Ov A outer s H E).out λ_=>E) body (tS E g)):aT P w K mg base (cu P w) (k+1) f (UR name qual params body scope dV kV doc pm an Ov ct) ps (Gb ps.length C (za N.length g C)):=by
 refine Co lk O7 S (λvs H Q E h=>h.1) λA outer s H vs Q E hr hs=>⟨_,hb A outer s H E hr,?_⟩
 obtain⟨_,a,dx,us,Hs,H1,P7,rfl,ha,hdx,Qi,hH,sm,r,h⟩:=hs;have ne:∀c u,H1 c=some u->c≠dx:=λc u e z=>by rw[z,hdx] at e;cases e
 have s0:aQ H1 (upd H1 dx (.own a)):=λc u q=>by rwa[au (ne c u q)]
 have g0:aW Hs H1 Hs (upd H1 dx (.own a)):=⟨λ_ _ e=>e,s0,λc u q=>s0 c u (sm c u q),λ_ _ e _ _=>e⟩
 refine⟨Hs,_,Hs,_,SR.JT (dx:=dx) g0.sub hN (by rwa[au (UN Qi)]) r hH,(aq.bind h).imp (λo ho=>?_) λe he=>he.grow g0⟩;cases o with
 | rt p=>exact ho.elim
 | bk env=>exact ho.elim
 | ct env=>exact ho.elim
 | nx env =>
  intro σ Oe H' sr;have PU:aq (Bo a C env) _ _:=ho;unfold Bo at PU
  split at PU
  .rename_i b D fs ex;obtain⟨⟨rfl,rfl⟩,hp⟩:=aq.cM PU;obtain⟨RF,ws,h1,h2,h3,h4,h5⟩:=sr.bd 0 _ _ fs ex;exact hp RF ws Oe H' (g0.trans sr.gr) h2 h3 h5
  .exact PU.elim
def jD(C:Addr)(sem:Addr->List PV->M (List (Str×PV)))(PJ:List PV)(ps:List PV):M PV:=(IH λa=>sem a (ps++PJ)).bind λfs=>M.ok (.obj C fs)
section
variable{ns:List Str}{sem:Addr->List PV->M (List (Str×PV))}{p pos:Pos}{fs:af->M (List PV)}
def EI(Mk:Mk X.K C f)(F:aT X.prog X.w X.K X.mg X.base (cu X.prog X.w) k f fd ns (Gb n C sem))(hr:bU (k+1) X.A)(hg:Gl X x)(hm:X.mg x=some (.ref C))(hb:Binds X.K fd ns ds)(hd:Vals OX ds)(hdp:∀H,aB H PJ OX)(O:gB X E)(hl:∀a ps,sem a (ps++PJ)≠none->ps.length+PJ.length+1=n)(ha:PA X (e::es) (tL E fs))(PL:autoParam ↑7 aD._auto_1)(he:autoParam ↑0 aR._auto_1)(OM:autoParam ↑2 aR._auto_1):PE X (.Call (.Name x p) (e::es) [] pos) (tE E (ah (jD C sem PJ) fs)):=by
 refine(A6 Mk F hr hg hm hb hd O ha PL he OM).imp fun σ H Q q=>cZ (K:=kC Q) kC.g q λB H₀ Hs H1 env P7 v sr rp hp=>?_;intro a dx ha hdx Qi;have r2:aB Hs (P7++PJ) (v++OX):=rp.append (hdp Hs);have Qj:=(aq.bind hp).IH a;have hn:sem a (P7++PJ)≠none:=λz=>by
  rwa[z] at Qj
 refine⟨?_,a,dx,v++OX,Hs,H1,P7++PJ,rfl,ha,hdx,Qi,rfl,sr.gr.sub,r2,Qj.imp (λfl hfl RF ws Oe H' g hw Rf P1=>⟨rfl,?_⟩) λe he=>he⟩
 .show (v++OX).length+1=n;rw[<- r2.length,S6];exact hl a P7 hn
 .have ne:∀c u,Oe c=some u->c≠a:=λc u q z=>by rw[z,Rf] at q;cases q
  have OV:aQ Oe (upd Oe a (.ins C RF ws)):=λc u q=>by rwa[au (ne c u q)]
  refine hfl (.ref a) (upd Oe a (.ins C RF ws)) H' ⟨λc u q=>OV c u (g.st c u q),g.al,λc u q=>?_,λc u q1 q2 q3=>?_⟩ (.obj ay (P1.mono OV))
  .by_cases z:c=a
   .subst z;rw[ay] at q;cases q;exact hw
   .rw[au z] at q;exact g.sub c u q
  .have z:c≠a:=λz=>by rw[z,ha] at q2;cases q2
   rw[au z];exact g.nw c u q1 q2 q3
end
section
variable{a b:Expr}{pos:Pos}{f g h:af->M PV}
def gX{E:XK}{st:Stmt}:PS X st (tS E λ_=>none):=λN9 s σ H Q I q=>by obtain⟨_,_,_,_,_,q⟩:=q;exact q.elim
def nE{m:Nat}(h:n.log2<m):n<2^m:=by
 by_cases z:n=0
 .subst z;exact Vw m
 .exact(aaU z).mp h
theorem aB.rep{H:Hp}{xs:List PV}{vs:List V}(r:aB H xs vs):∀k:Nat,aB H (Sx k xs).flatten (Sx k vs).flatten
 | 0=>.nil
 |k+1=>by rw[Uh,Uh,U8,U8];exact r.append (r.rep k)
def eU:PV->PV->M PV
 | .int i,.int j=>cM (i.natAbs.log2<67108864/\j.natAbs.log2<67108864) (M.ok (.int (i*j)))
 | .tup xs,.int k=>cM (xs.isEmpty=false/\-(2^63)<=k/\k<2^63/\xs.length*k.toNat<=sizeLine) (M.ok (.tup (Sx k.toNat xs).flatten))
 | .lst xs,.int k=>cM (-(2^63)<=k/\k<2^63/\xs.length*k.toNat<=sizeLine) (M.ok (.lst (Sx k.toNat xs).flatten))
 |_,_=>none
def GF(K:SD):R2:=λx y H Q=>(rI (λi j=>IntMulOk i j) λi j=>.int (i*j)) x y H Q\/Gv K x y H Q\/Lo x y H Q
def FJ:gf X (binaryOp .Mult) (GF X.K):=gf.or D9 (gf.or F2 Hz)
def Jx{K:SD}:mi E (GF K) eU:=by
 intro σ Hs H p q v u Q s rp rq h;cases rp with
 | int i=>cases rq with
  | int j =>
   obtain⟨hz,h⟩:=aq.cM h;exact .inl ⟨i,j,rfl,rfl,Bu (nE hz.1) (nE hz.2) (SE _),du.flat h s (.int _)⟩
  | _=>exact h.elim
 | @tup a xs vs ha hx=>cases rq with
  | int k =>
   obtain⟨⟨h0,h1,h2,h3⟩,h⟩:=aq.cM h;have n1:vs≠[]:=λz=>by
    have:=hx.length;rw[z] at this;cases xs with
    | nil=>cases h0
    | cons _ _=>cases this
   refine .inr (.inl ⟨a,k,vs,rfl,rfl,fJ.of (s _ _ ha),n1,h1,h2,by rwa[<- hx.length],λz=>?_,λz=>du.tup h s (hx.rep _)⟩);subst z;rw[show (1:Int).toNat=1 from rfl,Uh,List.replicate_zero,U8,List.flatten_nil,UC] at h;exact du.flat h s (.tup ha hx)
  | _=>exact h.elim
 | @lst a xs vs ha hx=>cases rq with
  | int k =>
   obtain⟨⟨h1,h2,h3⟩,h⟩:=aq.cM h;exact .inr (.inr ⟨a,k,vs,rfl,rfl,s _ _ ha,h1,h2,by rwa[<- hx.length],du.lst h s (hx.rep _)⟩)
  | _=>exact h.elim
 |_=>exact h.elim
def FP:mi E (rI AX λi j=>.int (i.fdiv j)) (CD (λ_ j=>decide (j≠0/\j.natAbs.log2<9000)) λi j=>i.fdiv j):=Cn λi j z=>(of_decide_eq_true z:j≠0/\j.natAbs.log2<9000)
def G9:mi E (rI (λ_ j=>j≠0) λi j=>.int (i.fmod j)) (CD (λ_ j=>decide (j≠0)) λi j=>i.fmod j):=Cn λi j z=>of_decide_eq_true z
def Lr:PV->M PV
 | .int i=>M.ok (.int (-i))
 |_=>none
def kA(f:af->M PV):af->M PV:=λenv=>(f env).bind Lr
def He(ha:PE X a (tE E f)):PE X (.UnaryOp .USub a pos) (tE E (kA f)) :=
 (K7 JW ha).imp fun σ H Q q=>Lf q λHs H1 p v s rp h=>by
  cases rp with
  | int i=>exact⟨i,rfl,du.flat h s (.int _)⟩
  |_=>exact h.elim
def xO:PV->Bool
 | .dq=>true
 |_=>false
def BI(r:Rep H p v):decide (v=.dq)=xO p:=by
 cases r<;>rfl
def zO:PV->PV->M PV
 | p,.dq=>M.ok (.bl (xO p))
 |_,_=>none
def DF:mi E (λx y H Q=>y=.dq/\Q (.bl (decide (x=.dq))) H) zO:=by
 intro σ Hs H p q v u Q s rp rq h;cases rq with
 | dq =>
  have h':aq (M.ok (PV.bl (xO p))) (du Hs H Q) (XW (E σ) Hs H):=by cases p<;>exact h
  exact⟨rfl,by rw[BI rp];exact du.flat h' s (.bl _)⟩
 |_=>cases p<;>exact h.elim
def fN(o o':PV->PV->M PV)(f g h:af->M PV):af->M PV:=λenv=>(f env).bind λp=>(g env).bind λq=>(o p q).bind λz=>(wa z).bind λk=>if k=true then (h env).bind λr=>o' q r else M.ok (.bl false)
def uL{r r':R2}{o o':PV->PV->M PV}(hv:mi E r o)(QP:mi E r' o'){Q:VK}(q:tE E (fN o o' f g h) σ H Q):wt r r' (tE E f) (tE E g) (tE E h) σ H Q:=by
 refine b_ (K:=kC Q) kC.g q λB H₀ Hs H1 env p v sr rp hp=>?_;refine⟨B,H₀,Hs,env,sr,(aq.bind hp).imp (λq hq u Ol H2 g2 ru=>?_) λe he=>he⟩;have OL:=sr.grow g2;refine hv σ Ol H2 p q v u _ OL.gr.sub (rp.mono g2.st) ru ((aq.bind hq).imp (λz hz w PQ H3 g3 P1=>?_) λe he=>he.grow g2);obtain⟨k,ek,hk⟩:=aq.L7 (aq.bind hz);subst ek;cases P1;refine⟨k,rfl,?_⟩;have Qo:=OL.grow g3;cases k with
 | false=>exact hk _ _ _ (g2.trans g3) (.bl _)
 | true =>
  have PM:aq ((h env).bind λr=>o' q r) (kC Q Hs H1) (XW (E σ) Hs H1):=hk;refine⟨B,H₀,PQ,env,Qo,(aq.bind PM).imp (λr hr w Hs4 H4 g4 rw4=>?_) λe he=>he.grow (g2.trans g3)⟩;exact QP σ Hs4 H4 q r u w Q (Qo.grow g4).gr.sub ((ru.mono g3.st).mono g4.st) rw4 (hr.imp (λz hz w' RP H5 g5 r5=>hz w' RP H5 ((g2.trans g3).trans (g4.trans g5)) r5) λe he=>he.grow ((g2.trans g3).trans g4))
def vV{Qn:CmpOp}{r r':R2}{o o':PV->PV->M PV}(ho:gf X (compareOp op) r)(hv:mi E r o)(PU:gf X (compareOp Qn) r')(QP:mi E r' o')(ha:PE X a (tE E f))(hb:PE X b (tE E g))(hc:PE X c (tE E h))(hm:autoParam (lastMarks [op,Qn] [b,c]=false) aU._auto_1):PE X (.Compare a [op,Qn] [b,c] pos) (tE E (fN o o' f g h)) :=
 (B7 ho PU ha hb hc hm).imp fun σ H Q q=>uL hv QP q
def vC{Qn:CmpOp}{r r':R2}{o o':PV->PV->M PV}(ho:gf X (compareOp op) r)(hv:mi E r o)(PU:gf X (compareOp Qn) r')(QP:mi E r' o')(ha:PE X a (tE E f))(hb:PE X b (tE E g))(hc:PE X c (tE E h))(hm:autoParam (lastMarks [op,Qn] [b,c]=false) aU._auto_1):PT X (.Compare a [op,Qn] [b,c] pos) (tT E (cR (fN o o' f g h))) :=
 (DI ho PU ha hb hc hm).imp fun σ H Q q=>uL hv QP (lU q)
def cB(u:af->M Bool)(b:af->M Out):Nat->af->M Out
 | 0,_=>none
 | n+1,env=>(u env).bind λt=>if t=true then (b env).bind λo=>match o with
   | .nx Od=>cB u b n Od
   | .ct Od=>cB u b n Od
   | .bk Od=>M.ok (.nx Od)
   | .rt p=>M.ok (.rt p)
  else M.ok (.nx env)
def zH{E:XK}{u:af->M Bool}{g:af->M Out}(n:af->Nat)(O:gB X λ_=>E)(hc:PT X c (tT (λ_=>E) u))(hb:mW X body (tS E g)):PS X (.While c body [] pos) (tS E λenv=>cB u g (n env) env):=by
 refine(As O.own hc hb).imp λD σ H q=>?_;obtain⟨B,H₀,Hs,env,sr,q⟩:=q;refine⟨λm σ H=>∃Hs env,SR B H₀ Hs H σ env/\aq (cB u g m env) (KS D B H₀) (XW E B H₀),⟨n env,Hs,env,sr,q⟩,?_⟩;rintro m σ1 H1 ⟨Oj,env1,QA,q1⟩;cases m with
 | zero=>exact q1.elim
 | succ m =>
  refine⟨B,H₀,Oj,env1,QA,(aq.bind q1).imp (λt ht Ol H2 g2=>?_) λe he=>he.grow QA.gr⟩;have OL:=QA.grow g2;cases t with
  | false=>exact ht σ1 Ol H2 OL
  | true =>
   refine⟨fun σ' H'=>∃Oe Od,SR B H₀ Oe H' σ' Od/\aq (cB u g m Od) (KS D B H₀) (XW E B H₀),fun σ' H' z=>⟨m,UG m,z⟩,B,H₀,Ol,env1,OL,(aq.bind ht).imp (λo ho=>?_) λe he=>he⟩;cases o with
   | nx Od=>exact fun σ' Oe H' Qf=>⟨Oe,Od,Qf,ho⟩
   | ct Od=>exact fun σ' Oe H' Qf=>⟨Oe,Od,Qf,ho⟩
   | bk Od=>exact ho
   |rt p=>exact ho
theorem ja{u:af->M Bool}{g:af->M Out}:∀(n k:Nat)(env:af),cB u g n env≠none->cB u g (n+k) env=cB u g n env
 | 0,_,_,h=>(h rfl).elim
 | n+1,k,env,h=>by
  rw[show n+1+k=(n+k)+1 by lia];unfold cB at h ⊢;cases hu:u env with
  | none=>rfl
  | some z =>
   cases z with
   | error e=>rfl
   | ok t =>
    rw[hu] at h;cases t with
    | false=>rfl
    | true =>
     show M.bind (g env) _=M.bind (g env) _;have h':M.bind (g env) (λo=>match o with
      | .nx Od=>cB u g n Od
      | .ct Od=>cB u g n Od
      | .bk Od=>M.ok (.nx Od)
      | .rt p=>M.ok (.rt p))≠none:=h
     cases hg:g env with
     | none=>rfl
     | some z =>
      cases z with
      | error e=>rfl
      | ok o =>
       rw[hg] at h';cases o with
       | nx Od=>exact ja n k Od h'
       | ct Od=>exact ja n k Od h'
       | bk Od=>rfl
       |rt p=>rfl
def jK(u:af->M Bool)(b:af->M Out)(env:af):M Out:=open Classical in cB u b (if h:∃n,cB u b n env≠none then h.choose else 0) env
def yZ{u:af->M Bool}{b:af->M Out}{env:af}(h:cB u b n env≠none):jK u b env=cB u b n env:=by
 have hx:∃n,cB u b n env≠none:=⟨n,h⟩
 unfold jK;rw[dif_pos hx];have h1:=hx.choose_spec;rw[<- ja _ n env h1,<- ja n hx.choose env h,YY]
def pM{E:XK}{u:af->M Bool}{g:af->M Out}(O:gB X λ_=>E)(hc:PT X c (tT (λ_=>E) u))(hb:mW X body (tS E g)):PS X (.While c body [] pos) (tS E (jK u g)) :=
 zH (λenv=>open Classical in if h:∃n,cB u g n env≠none then h.choose else 0) O hc hb
end
def K4:PV->Option String
 | .dq=>some "NoneType"
 | .bl _=>some "bool"
 | .int _=>some "int"
 | .str _=>some "str"
 | .lst _=>some "list"
 | .jz _=>some "list"
 | .tup _=>some "tuple"
 | .emp=>some "dict"
 |_=>none
def jU(a t:String):Bool:=a==t||(a == "bool" && t == "int")
def n9(K:SD):Vo K (.type "NoneType") (.type "int")=some false:=by with_unfolding_all kernel_rfl
def vI(K:SD):Vo K (.type "bool") (.type "int")=some true:=by with_unfolding_all kernel_rfl
def tys:List String:=["int","bool","str","list","tuple"]
def Kb(K:SD){a t:String}(ha:K4 p=some a)(ht:t∈tys):Vo K (.type a) (.type t)=some (jU a t):=by
 have ht2:t="int" \/ t="bool" \/ t="str" \/ t="list" \/ t="tuple" := by simpa [tys] using ht
 cases p<;>cases ha<;>rcases ht2 with rfl|rfl|rfl|rfl|rfl<;>first
  | exact n9 K
  | exact kt_NoneType_bool K
  | exact kt_NoneType_str K
  | exact kt_NoneType_list K
  | exact kt_NoneType_tuple K
  | exact vI K
  | exact kt_bool_bool K
  | exact kt_bool_str K
  | exact kt_bool_list K
  | exact kt_bool_tuple K
  | exact kt_int_int K
  | exact kt_int_bool K
  | exact kt_int_str K
  | exact kt_int_list K
  | exact kt_int_tuple K
  | exact kt_str_int K
  | exact kt_str_bool K
  | exact kt_str_str K
  | exact kt_str_list K
  | exact kt_str_tuple K
  | exact kt_list_int K
  | exact kt_list_bool K
  | exact kt_list_str K
  | exact kt_list_list K
  | exact kt_list_tuple K
  | exact kt_tuple_int K
  | exact kt_tuple_bool K
  | exact kt_tuple_str K
  | exact kt_tuple_list K
  | exact kt_tuple_tuple K
  | exact kt_dict_int K
  | exact kt_dict_bool K
  | exact kt_dict_str K
  | exact kt_dict_list K
  |exact kt_dict_tuple K
def BV{K:SD}{a:String}(s:aQ Hs H)(r:Rep Hs p v)(ha:K4 p=some a):jJ K H v (.type a):=by
 cases r with
 | dq=>cases ha;exact .dq
 | bl b=>cases ha;exact .bl b
 | int i=>cases ha;exact .int i
 | str x=>cases ha;exact .str x
 | tup h _=>cases ha;exact .tup (s _ _ h)
 | lst h _=>cases ha;exact .lst (s _ _ h)
 | jz h _=>cases ha;exact .jx (s _ _ h)
 | emp h=>cases ha;exact .dK (s _ _ h)
 |_=>cases ha
theorem xE(K:SD){p:PV}{a:String}(ha:K4 p=some a):∀{Ts:List String},(∀t∈Ts,t∈tys)->Yb K (.type a) (Ts.map Uy)=some (Ts.any λt=>jU a t)
 | [],_=>rfl
 | t::r,h=>by
  have h1:=Kb K ha (h t SS);have h2:=xE K ha (Ts:=r) λt q=>h t (SO _ q);simp only[S0,Yb,h1,Xr];cases jU a t with
  | true=>rfl
  |false=>exact h2
structure Hu (K:SD) (C:Addr):Prop where
 cls:mn K C
 ha:T_ K (.ref C) "__class__"=some (some (.builtin "object.__class__"))
 hn:W2 K (.builtin "object.__class__") "__get__"=some (some (.builtin "getset_descriptor.__get__"))
 J1:XC K (.builtin "object.__class__")=some true
 hm:Yv K C (.type "object")=some true
def BO(b:String->Bool)(ob oe:Addr->Option Bool):PV->M PV
 | .obj C _=>eB ((ob C).map .bl)
 | .exc C _=>eB ((oe C).map .bl)
 |p=>eB ((K4 p).map λa=>.bl (b a))
section
variable{pos p pt:Pos}{f:af->M PV}{T:String}{ob oe:Addr->Option Bool}
def Js{fo:Option (List (Str×PV))}(s:aQ Hs H)(r:Rep Hs (.exc C fo) v):∃a fo',v=.ref a/\ExcAt H a C fo':=by
 cases r with
 | @wq a _ h=>exact⟨a,none,rfl,s _ _ h⟩
 |@wW a _ d _ vs h h2 _=>exact⟨a,some vs,rfl,d,s _ _ h,s _ _ h2⟩
def wY(b:String->Bool)(ob oe:Addr->Option Bool)(f:af->M PV):af->M PV:=λenv=>(f env).bind (BO b ob oe)
def vO{b:String->Bool}{p:PV}{Q:PV->Prop}{F:EX->Prop}(h:aq (BO b ob oe p) Q F):(∃a,K4 p=some a/\Q (.bl (b a)))\/(∃C fs k,p=.obj C fs/\ob C=some k/\Q (.bl k))\/∃C fo k,p=.exc C fo/\oe C=some k/\Q (.bl k):=by
 cases p with
 | obj C fs =>
  obtain⟨z,e,q⟩:=aq.opt h;obtain⟨k,e2,rfl⟩:=Td.mp e;exact .inr (.inl ⟨C,fs,k,rfl,e2,q⟩)
 | exc C fo =>
  obtain⟨z,e,q⟩:=aq.opt h;obtain⟨k,e2,rfl⟩:=Td.mp e;exact .inr (.inr ⟨C,fo,k,rfl,e2,q⟩)
 | dq=>exact .inl ⟨_,rfl,h⟩
 | bl _=>exact .inl ⟨_,rfl,h⟩
 | int _=>exact .inl ⟨_,rfl,h⟩
 | str _=>exact .inl ⟨_,rfl,h⟩
 | tup _=>exact .inl ⟨_,rfl,h⟩
 | lst _=>exact .inl ⟨_,rfl,h⟩
 | jz _=>exact .inl ⟨_,rfl,h⟩
 | emp=>exact .inl ⟨_,rfl,h⟩
 | dR _=>exact h.elim
 |fn _=>exact h.elim
def BG{K:SD}{fs:List (Str×PV)}(s:aQ Hs H)(r:Rep Hs (.obj C fs) v)(c:Hu K C):jJ K H v (.ref C):=by
 cases r with
 |obj h _=>exact .ins (s _ _ h) c.cls c.ha c.hn c.J1 c.hm
def hZ(hg:Gl X "isinstance")(hm:X.mg "isinstance"=none)(hT:PE X (.Name x pt) (tC (.ty T)))(ht:T∈tys)(R8:∀C b,ob C=some b->Hu X.K C/\Vo X.K (.ref C) (.type T)=some b)(PF:∀C b,oe C=some b->Cc X.K C/\Vo X.K (.ref C) (.type T)=some b)(he:PE X e (tE E f))(h1:autoParam (starEach [e,.Name x pt] X.env=(false,eval e X.env)::starEach [.Name x pt] X.env) aR._auto_1)(h2:autoParam (starEach [.Name x pt] X.env=(false,eval (.Name x pt) X.env)::starEach [] X.env) aR._auto_1)(OM:autoParam ((backTo pos (starEach [.Name x pt] X.env)).any (·.1)=false) aR._auto_1):PE X (.Call (.Name "isinstance" p) [e,.Name x pt] [] pos) (tE E (wY (λa=>jU a T) ob oe f)):=by
 refine(qe (cv.or CP Dj) hg hm CK (cL he (cL hT i5 h2) h1) ↑12 ↑12 h1 OM).imp fun σ H Q q=>b_ (K:=kC Q) kC.g q λB H₀ Hs H1 env p v sr rp hp=>?_;rcases vO hp with ⟨a,ha,q⟩|⟨C,fs,k,rfl,e,q⟩|⟨C,fo,k,rfl,e,q⟩
 .exact .inl ⟨v,T,_,_,rfl,BV sr.gr.sub rp ha,Kb X.K ha ht,du.flat q sr.gr.sub (.bl _)⟩
 .exact .inl ⟨v,T,_,_,rfl,BG sr.gr.sub rp (R8 C k e).1,(R8 C k e).2,du.flat q sr.gr.sub (.bl _)⟩
 .obtain⟨a,fo',rfl,hx⟩:=Js sr.gr.sub rp;exact .inr ⟨a,C,fo',k,(PF C k e).1,hx,.inl ⟨T,rfl,(PF C k e).2⟩,du.flat q sr.gr.sub (.bl _)⟩
def FW{e2:Expr}{t2:TE}{Ts:List String}(hg:Gl X "isinstance")(hm:X.mg "isinstance"=none)(hT:PE X e2 t2)(ht2:∀σ H R,(∀p,H p=none->R (.ref p) (upd H p (.tup (Ts.map V.ty))))->t2 σ H R)(ht:∀t∈Ts,t∈tys)(R8:∀C b,ob C=some b->Hu X.K C/\Yb X.K (.ref C) (Ts.map Uy)=some b)(he:PE X e (tE E f))(h1:autoParam (starEach [e,e2] X.env=(false,eval e X.env)::starEach [e2] X.env) aR._auto_1)(h2:autoParam (starEach [e2] X.env=(false,eval e2 X.env)::starEach [] X.env) aR._auto_1)(OM:autoParam ((backTo pos (starEach [e2] X.env)).any (·.1)=false) aR._auto_1):PE X (.Call (.Name "isinstance" p) [e,e2] [] pos) (tE E (wY (λa=>Ts.any λt=>jU a t) ob (λ_=>none) f)):=by
 refine(qe zN hg hm CK (cL he (cL hT i5 h2) h1) ↑12 ↑12 h1 OM).imp fun σ H Q q=>b_ (K:=kC Q) kC.g q λB H₀ Hs H1 env p v sr rp hp=>?_;refine ht2 σ H1 _ λtp hn=>?_;have g:=aW.new (o:=.tup (Ts.map V.ty)) sr.gr.sub hn;rcases vO hp with ⟨a,ha,q⟩|⟨C,fs,k,rfl,e,q⟩|⟨C,fo,k,rfl,e,q⟩
 .exact⟨v,tp,Ts,_,_,rfl,ay,BV g.sub (rp.mono g.st) ha,xE X.K ha ht,q _ _ _ g (.bl _)⟩
 .exact⟨v,tp,Ts,_,_,rfl,ay,BG g.sub (rp.mono g.st) (R8 C k e).1,(R8 C k e).2,q _ _ _ g (.bl _)⟩
 .cases e
end
section
open PySem.SeqAt (shaped noMix noMixAll)
mutual
def dat:PV->Option PyData
 | .dq=>some .none
 | .bl b=>some (.bool b)
 | .int i=>some (.int i)
 | .str x=>some (.str x)
 | .tup xs=>(mP xs).map .tuple
 | .lst xs=>(mP xs).map .list
 | .jz xs=>(mP xs).map .list
 | .obj _ _=>none
 | .exc _ _=>none
 | .emp=>none
 | .dR _=>none
 |.fn _=>none
def mP:List PV->Option (List PyData)
 | []=>some []
 |p::r=>(dat p).bind λd=>(mP r).map (d::·)
end
mutual
theorem Rep.reads{Hs:Hp}(I:Inv X N9 σ H s)(sm:aQ Hs H):∀{p:PV}{v:V}{u:Value}{d:PyData},Rep Hs p v->RelV v u->dat p=some d->∃as,Reads s.heap u d as
 | _,_,u,d,.dq,r,e=>by
  cases e;cases (show u=TY from r);exact⟨_,.none⟩
 | _,_,u,d,.bl b,r,e=>by
  cases e;cases (show u=Vt b from r);exact⟨_,.bool b⟩
 | _,_,u,d,.int i,r,e=>by
  cases e;obtain⟨t,rfl⟩:=(show ∃t,u=WT i t from r);exact⟨_,.int i t⟩
 | _,_,u,d,.str i,r,e=>by
  cases e;obtain⟨t,rfl⟩:=(show ∃t,u=XZ i t from r);exact⟨_,.str i t⟩
 | _,_,u,d,.tup (a:=a) ha hx,r,e=>by
  obtain⟨ds,e2,rfl⟩:=Td.mp (show (mP _).map PyData.tuple=some d from e);cases (show u=SN a from r);obtain⟨Ob,r1,⟨o,ho,hc,n,hd⟩,_⟩:=I.tuple (fJ.of (sm _ _ ha));obtain⟨as,ra⟩:=aB.reads I sm hx r1 e2;exact⟨_,.tuple ho hc hd (by simpa using ra)⟩
 | _,_,u,d,.lst (a:=a) ha hx,r,e=>by
  obtain⟨ds,e2,rfl⟩:=Td.mp (show (mP _).map PyData.list=some d from e);cases (show u=SN a from r);obtain⟨Ob,r1,⟨o,n,ho,hc,_,hd⟩,_⟩:=I.list (h9.of (sm _ _ ha));obtain⟨as,ra⟩:=aB.reads I sm hx r1 e2;exact⟨_,.list ho hc hd (by simpa using ra)⟩
 | _,_,u,d,.jz (a:=a) (o:=ob) ha hx,r,e=>by
  obtain⟨ds,e2,rfl⟩:=Td.mp (show (mP _).map PyData.list=some d from e);cases (show u=SN a from r);obtain⟨Ob,r1,⟨o,n,ho,hc,_,hd⟩,_⟩:=I.list (.inl (.inr ⟨ob,sm _ _ ha⟩));obtain⟨as,ra⟩:=aB.reads I sm hx r1 e2;exact⟨_,.list ho hc hd (by simpa using ra)⟩
 | _,_,u,d,.obj _ _,r,e=>by cases e
 | _,_,u,d,.wq _,r,e=>by cases e
 | _,_,u,d,.wW _ _ _,r,e=>by cases e
 | _,_,u,d,.emp _,r,e=>by cases e
 | _,_,u,d,.dR _ _,r,e=>by cases e
 |_,_,u,d,.fn _,r,e=>by cases e
theorem aB.reads{Hs:Hp}(I:Inv X N9 σ H s)(sm:aQ Hs H):∀{p:List PV}{v:List V}{u:List Value}{d:List PyData},aB Hs p v->Vals v u->mP p=some d->∃as,ReadsAll s.heap u d as
 | _,_,_,_,.nil,.nil,e=>by cases e;exact⟨_,.nil⟩
 | _,_,_,d,.cons (p:=p) (ps:=ps) h hr,.cons r rr,e=>by
  obtain⟨d1,e1,e2⟩:=WW.mp (show (dat p).bind (λd=>(mP ps).map (d::·))=some d from e);obtain⟨ds,e3,rfl⟩:=Td.mp e2;obtain⟨as,ra⟩:=Rep.reads I sm h r e1;obtain⟨bs,rb⟩:=aB.reads I sm hr rr e3;exact⟨_,.cons ra rb⟩
end
def Ft(d e:PyData):M Bool:=cM (shaped d=true/\shaped e=true/\noMix d e=true) (M.ok (same d e))
def n5(o:Bool->PV)(p q:PV):M PV:=match dat p,dat q with
 | some d,some e=>(Ft d e).bind λb=>M.ok (o b)
 |_,_=>none
def nH:PV->PV->M PV:=n5 λb=>.bl b
def nv:PV->PV->M PV:=n5 λb=>.bl (!b)
def A7(o:Bool->Bool):R2:=λx y H Q=>∃Hs p q d e,aQ Hs H/\Rep Hs p x/\Rep Hs q y/\dat p=some d/\dat q=some e/\shaped d=true/\shaped e=true/\noMix d e=true/\Q (.bl (o (same d e))) H
def An(hu:X.A.units+64<cLine):gf X (compareOp .Eq) (A7 id):=by
 intro N9 s σ H x y v u Q I rx ry h;obtain⟨Hs,p,q,d,e,sm,rp,rq,hd,he,h1,h2,h3,hq⟩:=h;obtain⟨as,ra⟩:=Rep.reads I sm rp rx hd;obtain⟨bs,rb⟩:=Rep.reads I sm rq ry he;exact eq_dataH_same ra rb h1 h2 hu h3 (xr I hq rfl)
def CW(hu:X.A.units+64<cLine):gf X (compareOp .NotEq) (A7 not):=by
 intro N9 s σ H x y v u Q I rx ry h;obtain⟨Hs,p,q,d,e,sm,rp,rq,hd,he,h1,h2,h3,hq⟩:=h;obtain⟨as,ra⟩:=Rep.reads I sm rp rx hd;obtain⟨bs,rb⟩:=Rep.reads I sm rq ry he;exact ne_dataH_same ra rb h1 h2 hu h3 (xr I hq rfl)
def C6{o:Bool->Bool}:mi E (A7 o) (n5 λb=>.bl (o b)):=by
 intro σ Hs H p q v u Q s rp rq h;unfold n5 at h
 split at h
 .rename_i d e hd he;have h':=aq.bind h;obtain⟨⟨h1,h2,h3⟩,h⟩:=aq.cM h';exact⟨Hs,p,q,d,e,s,rp,rq,hd,he,h1,h2,h3,du.flat h s (.bl _)⟩
 .exact h.elim
def Gm:mi E (A7 id) nH:=C6
def Gg:mi E (A7 not) nv:=C6
def nR(xs:List PV)(lo hi:Option Int):List PV:=(xs.drop (HT.cW xs.length 0 lo)).take (HT.cW xs.length xs.length hi-HT.cW xs.length 0 lo)
def aB.cut(r:aB H xs vs)(lo hi:Option Int):aB H (nR xs lo hi) (uO vs lo hi):=by
 unfold nR uO;rw[r.length];exact(r.drop _).take _
abbrev Lg(Q:Option Int->Hp->Prop):Hp->Hp->Option Int->Prop:=λHs H k=>∀Oe H',aW Hs H Oe H'->Q k H'
def Mc(E:St->XK)(g:af->M (Option Int)):TO:=fun σ H Q=>tG E g (Lg Q) σ H
def PO.imp{e:Option Expr}{t t':TO}(h:PO X e t)(i:∀σ H Q,t' σ H Q->t σ H Q):PO X e t':=λN9 s σ H Q I q=>h N9 s σ H Q I (i σ H Q q)
def EU:PV->M (Option Int)
 | .int i=>M.ok (some i)
 |_=>none
def BY:af->M (Option Int):=λ_=>M.ok none
def jE(f:af->M PV):af->M (Option Int):=λenv=>(f env).bind EU
section
variable{lo hi:Option Expr}{pos p2:Pos}{f:af->M PV}{gl gh:af->M (Option Int)}
theorem Lg.g{Q:Option Int->Hp->Prop}:KG (Lg Q):=λHs H Oe H' b k g Ol H2 g2=>k Ol H2 (g.trans g2)
def FU:PO X none (Mc E BY):=Fx.imp fun σ H Q q=>by
 obtain⟨B,H₀,Hs,env,sr,q⟩:=q;exact q Hs H (.refl sr.gr.sub)
def uk(he:PE X e (tE E f)):PO X (some e) (Mc E (jE f)):=(E9 he).imp fun σ H Q q=>b_ (K:=Lg Q) Lg.g q λB H₀ Hs H1 env p v sr rp hp=>by
 cases rp with
 | int i=>exact⟨i,rfl,hp Hs H1 (.refl sr.gr.sub)⟩
 |_=>exact hp.elim
end
def gW(xs:List PV):List PV:=xs.mapIdx λi x=>.tup [.int (i:Nat),x]
section
variable{K:SD}{fs:af->M (List PV)}
def ro{a:Addr}(hq:∀Oe H',aQ Oj Oe->aQ Oe H'->h9 K H' a vs)(hr:aB Oj xs vs):i6 (HG K a) Oj (gW xs) where
 stop:=λi Hs H s1 s2 hi=>by
  unfold gW at hi;rw[VI,hr.length] at hi;exact⟨vs,hq Hs H s1 s2,hi⟩
 go:=λi Hs H s1 s2 hi=>by
  unfold gW at hi;rw[VI] at hi;obtain⟨v,e,_⟩:=hr.get (Sy hi);exact⟨vs,v,hq Hs H s1 s2,e⟩
 uv:=λi Hs H x H2 s1 s2 hi y=>by
  unfold gW at hi;rw[VI] at hi;obtain⟨v,e,r⟩:=hr.get (Sy hi);obtain⟨pa,v',hn,rfl,rfl,y1⟩:=y;have z1:=y1 vs (hq Hs H s1 s2);rw[e] at z1;cases z1;have gr:=aW.new (o:=.tup [.int (i:Nat),v]) s2 hn;refine⟨.tup [.int (i:Nat),xs[i]],_,?_,gr,.tup ay (.cons (.int _) (.cons ((r.mono s1).mono gr.st) .nil))⟩;unfold gW;rw[ZT,Sy hi];rfl
end
end
def Ea(lo st:Int)(n:Nat):It:=⟨λi _=>i<n,λi H x H'=>H'=H/\x=.int (lo+(i:Nat)*st),λi _=>n<=i⟩
theorem vS{K:SD}(it:Addr)(lo st:Int)(n:Nat):Turn P w K tg (Ea lo st n) [it] it (λi h=>IsRangeIter h it (lo+(i:Nat)*st) ((n:Int)-(i:Nat)) st) where
 mem:=by simp
 obj:=λi h st b hb=>by
  have e:b=it:=by simpa using hb
  subst e;exact⟨_,st,λv z=>by
   have z':Data.fields _=Data.cell v:=z;cases z'⟩
 keep:=λi h h' st k=>k it ↑13 _ st
 item:=by
  intro X hP hw hK hc i N9 s σ H E I hf Oc hg;subst hP hw hK;obtain⟨f0,f1,f2,f3,f4,f5⟩:=hf it ↑13;have W:=Walks.range (prog:=X.prog) (w:=X.w) (I.ok.hd hc) it lo st n;refine W.item i s _ _ hg Oc λv h' tk hv P4 kk=>?_;obtain⟨t,rfl⟩:=hv;have I1:Inv X N9 σ H { s with heap:=h',toks:=tk }:=I.turned (λb o hb e=>kk b o (by simpa using hb) e) f0 f1 f3 f4 f5;exact⟨_,rfl,uW (s:={ s with heap:=h',toks:=tk }) (n := "range_iterator") P4 rfl rfl ↑12 ⟨.int (lo+(i:Nat)*st),H,I1,⟨t,rfl⟩,⟨rfl,rfl⟩,P4,λb hb=>(hf b hb).1⟩⟩
 done:=by
  intro X hP hw hK hc i N9 s σ H E I hf Oc hg;subst hP hw hK;obtain⟨f0,f1,f2,f3,f4,f5⟩:=hf it ↑13;exact YQ (I.ok.hd hc) Oc (by have:n<=i:=hg;lia) λh' eb=>⟨rfl,I.turned (t':=s.toks) (λb o hb e=>eb b o hb e) f0 f1 f3 f4 f5⟩
 self:=λ_ _ _ _ _ st h=>YR st h
theorem tP(a b c:Int):0<=Tz a b c:=by
 unfold Tz
 split
 .split
  .have:=VT (a:=b-a-1) (b:=c) ⋯ ⋯;lia
  .lia
 .split
  .have:=VT (a:=a-b-1) (b:=-c) ⋯ ⋯;lia
  .lia
theorem zF{R:It->Hp->Prop}{E:Value->Shared->Prop}{lo hi st:Int}{t u v:Tok}{tk:Nat}(I:Inv X N9 σ H s)(hsm:XQ lo hi st=true)(q:R (Ea lo st (Tz lo hi st).toNat) H):wpAny ↑8 X.A (pyIter (.ref s.heap.objs.size)) (Mp X N9 σ tg R) E { s with heap:=s.heap.push { cls:=.type "range",data:=.fields #[.int lo t,.int hi u,.int st v] },toks:=tk }:=by
 refine wpAny_pyIter_range (IsRange.new ..) hsm ?_;have I1:Inv X N9 σ H { s with heap:=s.heap.push { cls:=.type "range",data:=.fields #[.int lo t,.int hi u,.int st v] },toks:=tk }:=I.kept λb o e=>Sw _ e;refine⟨(s.heap.push { cls:=.type "range",data:=.fields #[.int lo t,.int hi u,.int st v] }).objs.size,[(s.heap.push { cls:=.type "range",data:=.fields #[.int lo t,.int hi u,.int st v] }).objs.size],_,_,H,rfl,
  I1.kept (t':=tk) λb o e=>Sw _ e,vS _ lo st (Tz lo hi st).toNat,?_,λb hb=>?_,q⟩
 .have e1:lo+((0:Nat):Int)*st=lo:=by simp
  have e2:(((Tz lo hi st).toNat:Nat):Int)-((0:Nat):Int)=Tz lo hi st:=by have:=tP lo hi st;lia
  show IsRangeIter _ _ (lo+((0:Nat):Int)*st) ((((Tz lo hi st).toNat:Nat):Int)-((0:Nat):Int)) st;rw[e1,e2];exact SH _ rfl
 .have e:b=(s.heap.push { cls:=.type "range",data:=.fields #[.int lo t,.int hi u,.int st v] }).objs.size:=by simpa using hb
  subst e;exact I1.qL (SE _) (I1.br.fresh (SE _))
def C3(i j k:Int):Bool:=decide (k≠0)&&decide (k.natAbs<1073741824)&&XQ i j k
def Gp(ta:TA):TI:=fun σ H R=>ta σ H λvs H1=>∃i j k:Int,vs=[.int i,.int j,.int k]/\C3 i j k=true/\R (Ea i k (Tz i j k).toNat) H1
def zR{a b:Expr}{ta:TA}{p pos:Pos}(hg:Gl X "range")(hm:X.mg "range"=none)(ha:PA X [a,b,c] ta)(hs:autoParam (starEach [a,b,c] X.env=[(false,eval a X.env),(false,eval b X.env),(false,eval c X.env)]) aR._auto_1)(Py:autoParam (starEach [b,c] X.env=[(false,eval b X.env),(false,eval c X.env)]) aR._auto_1):PI X tg (.Call (.Name "range" p) [a,b,c] [] pos) (Gp ta):=by
 intro N9 s σ H R I h;refine Call_ (iy I hg hm boot_range (Uk (ck (ha pos N9 s σ H _ I h) λus s1 ⟨vs,H1,I1,r1,q1⟩=>?_) (by rw[hs,Py]) (by rw[Py];rfl)));obtain⟨i,j,k,e,hc,q⟩:=q1;subst e;cases r1 with
 | cons r rr =>
  cases rr with
  | cons r' rr =>
   cases rr with
   | cons Sr rr =>
    cases rr;obtain⟨t,rfl⟩:=r;obtain⟨t',rfl⟩:=r';obtain⟨t'',rfl⟩:=Sr;unfold C3 at hc;rw[Ui,Ui] at hc;exact call_range_3 (of_decide_eq_true hc.1.1) (zF I1 hc.2 q) (.inl (PyProof.noPylong_small (of_decide_eq_true hc.1.2)))
def Af:List PV->M (List PV)
 | [.int i,.int j,.int k]=>cM (C3 i j k=true) (M.ok ((S1 (Tz i j k).toNat).map λ(n:Nat)=>.int (i+n*k)))
 |_=>none
section
variable{K:SD}{fs:af->M (List PV)}
def yN{lo st:Int}:i6 (Ea lo st n) Oj ((S1 n).map λ(i:Nat)=>PV.int (lo+(i:Int)*st)) where
 stop:=λi Hs H s1 s2 hi=>show n<=i by simpa using hi
 go:=λi Hs H s1 s2 hi=>show i<n by simpa using hi
 uv:=λi Hs H x H2 s1 s2 hi y=>by
  obtain⟨rfl,rfl⟩:=y;have Qc:i<n:=by simpa using hi
  exact⟨.int (lo+(i:Int)*st),Hs,by simp[Qc],.refl s2,.int _⟩
def yJ{ps:List PV}{Q:List PV->Prop}{F:EX->Prop}(h:aq (Af ps) Q F):∃i j k,ps=[.int i,.int j,.int k]/\C3 i j k=true/\Q ((S1 (Tz i j k).toNat).map λ(n:Nat)=>.int (i+n*k)):=by
 unfold Af at h
 split at h
 .obtain⟨hc,h⟩:=aq.cM h;exact⟨_,_,_,rfl,hc,h⟩
 .exact h.elim
def aB.three{q r:PV}(h:aB H [p,q,r] vs):∃v u w,vs=[v,u,w]/\Rep H p v/\Rep H q u/\Rep H r w:=by
 cases h with
 |cons h r=>obtain⟨u,w,rfl,h2,h3⟩:=r.two;exact⟨_,_,_,rfl,h,h2,h3⟩
def Cy:x_ E (Gp (tL E fs)) (kL Af fs):=by
 intro σ H R q;refine cZ (K:=KI R) KI.g q λB H₀ Hs H1 env ps v sr rp hp=>?_;obtain⟨i,j,k,rfl,hc,hp⟩:=yJ hp;obtain⟨w,u,z,rfl,P1,ru,rz⟩:=rp.three;cases P1;cases ru;cases rz;exact⟨i,j,k,rfl,hc,hp _ Hs H1 (.refl sr.gr.sub) yN⟩
end
def ju:List PV->List PV->List PV->List PV
 | x::xs,y::ys,z::zs=>.tup [x,y,z]::ju xs ys zs
 |_,_,_=>[]
theorem rG:∀{xs ys zs:List PV}{i:Nat}(h1:i<xs.length)(h2:i<ys.length)(h3:i<zs.length),(ju xs ys zs)[i]?=some (.tup [xs[i],ys[i],zs[i]])
 | x::xs,y::ys,z::zs,0,_,_,_=>rfl
 | x::xs,y::ys,z::zs,i+1,h1,h2,h3=>by
  show (ju xs ys zs)[i]?=_;exact rG (xs:=xs) (ys:=ys) (zs:=zs) (i:=i) (by simpa using h1) (by simpa using h2) (by simpa using h3)
 | [],_,_,_,h1,_,_=>by simp at h1
 | _::_,[],_,_,_,h2,_=>by simp at h2
 |_::_,_::_,[],_,_,_,h3=>by simp at h3
theorem kc:∀{xs ys zs:List PV},(ju xs ys zs).length=min xs.length (min ys.length zs.length)
 | x::xs,y::ys,z::zs=>by
  show (ju xs ys zs).length+1=_;rw[kc];simp only[Tj];lia
 | [],_,_=>by simp[ju]
 | _::_,[],_=>by simp[ju]
 |_::_,_::_,[]=>by simp[ju]
def w5:List PV->M (List PV)
 | [p,q,r]=>match bX p,bX q,bX r with
  | some xs,some ys,some zs=>M.ok (ju xs ys zs)
  | _,_,_=>none
 |_=>none
section
variable{K:SD}{fs:af->M (List PV)}
theorem yR{b1 b2 b3:Bool}{a1 a2 a3:Addr}{ys zs:List PV}{us ws:List V}(OS:∀Oe H',aQ Oj Oe->aQ Oe H'->jC K H' b1 a1 vs)(QN:aB Oj xs vs)(ON:∀Oe H',aQ Oj Oe->aQ Oe H'->jC K H' b2 a2 us)(QO:aB Oj ys us)(Ql:∀Oe H',aQ Oj Oe->aQ Oe H'->jC K H' b3 a3 ws)(Sa:aB Oj zs ws):i6 (Mn K b1 b2 b3 a1 a2 a3) Oj (ju xs ys zs) where
 stop:=λi Hs H s1 s2 hi=>by
  rw[kc,QN.length,QO.length,Sa.length] at hi;exact⟨vs,us,ws,OS Hs H s1 s2,ON Hs H s1 s2,Ql Hs H s1 s2,by lia⟩
 go:=λi Hs H s1 s2 hi=>by
  rw[kc] at hi;obtain⟨v,e,_⟩:=QN.get (Sy (show i<xs.length by lia));obtain⟨u,e',_⟩:=QO.get (Sy (show i<ys.length by lia));obtain⟨w,e'',_⟩:=Sa.get (Sy (show i<zs.length by lia));exact⟨vs,us,ws,v,u,w,OS Hs H s1 s2,ON Hs H s1 s2,Ql Hs H s1 s2,e,e',e''⟩
 uv:=λi Hs H x H2 s1 s2 hi y=>by
  rw[kc] at hi;have l1:i<xs.length:=by lia
  have l2:i<ys.length:=by lia
  have l3:i<zs.length:=by lia
  obtain⟨v,e,r⟩:=QN.get (Sy l1);obtain⟨u,e',r'⟩:=QO.get (Sy l2);obtain⟨w,e'',Sr⟩:=Sa.get (Sy l3);obtain⟨pa,v',u',w',hn,rfl,rfl,y1,y2,y3⟩:=y;have z1:=y1 vs (OS Hs H s1 s2);have z2:=y2 us (ON Hs H s1 s2);have z3:=y3 ws (Ql Hs H s1 s2);rw[e] at z1;cases z1;rw[e'] at z2;cases z2;rw[e''] at z3;cases z3;have gr:=aW.new (o:=.tup [v,u,w]) s2 hn;exact⟨_,_,rG l1 l2 l3,gr,.tup ay (.cons ((r.mono s1).mono gr.st) (.cons ((r'.mono s1).mono gr.st) (.cons ((Sr.mono s1).mono gr.st) .nil)))⟩
def zy{ps:List PV}{Q:List PV->Prop}{F:EX->Prop}(h:aq (w5 ps) Q F):∃p q r xs ys zs,ps=[p,q,r]/\bX p=some xs/\bX q=some ys/\bX r=some zs/\Q (ju xs ys zs):=by
 unfold w5 at h
 split at h
 .split at h
  .exact⟨_,_,_,_,_,_,rfl,by assumption,by assumption,by assumption,h⟩
  .exact h.elim
 .exact h.elim
def vM:x_ E (GK K (tL E fs)) (kL w5 fs):=by
 intro σ H R q;refine cZ (K:=KI R) KI.g q λB H₀ Hs H1 env ps v sr rp hp=>?_;obtain⟨p,q,r,xs,ys,zs,rfl,e1,e2,e3,hp⟩:=zy hp;obtain⟨w,u,z,rfl,P1,ru,rz⟩:=rp.three;obtain⟨b1,a1,vs,rfl,OS,QN⟩:=jd (K:=K) sr.gr.sub P1 e1;obtain⟨b2,a2,us,rfl,ON,QO⟩:=jd (K:=K) sr.gr.sub ru e2;obtain⟨b3,a3,ws,rfl,Ql,Sa⟩:=jd (K:=K) sr.gr.sub rz e3;exact⟨b1,b2,b3,a1,a2,a3,rfl,⟨vs,OS Hs H1 (λ_ _ z=>z) sr.gr.sub⟩,⟨us,ON Hs H1 (λ_ _ z=>z) sr.gr.sub⟩,⟨ws,Ql Hs H1 (λ_ _ z=>z) sr.gr.sub⟩,hp _ Hs H1 (.refl sr.gr.sub) (yR OS QN ON QO Ql Sa)⟩
end
def lN(i j k:Nat):PV->af->M af
 | .tup [p,q,r],env=>M.ok (((env.set i (some (.sh p))).set j (some (.sh q))).set k (some (.sh r)))
 |_,_=>none
def x9{E:XK}{K:SD}:DL E (jB K 3 (bA (aE i) (bA (aE j) (bA (aE k) jw)))) (lN i j k):=by
 intro B H₀ Hs H σ env p v Q Z sr r h;cases r with
 | @tup a xs vs ha hx =>
  match xs,hx with
  | [p,q,r],hx =>
   obtain⟨v,u,w,rfl,rp,rq,rr⟩:=hx.three;exact⟨a,[v,u,w],rfl,fJ.of (sr.gr.sub _ _ ha),rfl,v,[u,w],rfl,u,[w],rfl,w,[],rfl,rfl,h _ (((sr.set rp).set rq).set rr)⟩
  | [],_=>exact h.elim
  | [_],_=>exact h.elim
  | [_,_],_=>exact h.elim
  | _::_::_::_::_,_=>exact h.elim
 |_=>exact h.elim
def wK:nB (lN i j k):=λp env e h n=>by
 unfold lN at h
 split at h
 .cases h;exact j8 (j8 (j8 n))
 .cases h
section
variable{E:XK}{pos:Pos}{fs:af->M (List PV)}{f h:af->M PV}
def ownAt(i:Nat)(env:af):M (List PV):=match env[i]? with
 | some (some (.ow xs))=>M.ok xs
 |_=>none
def aq.own{env:af}{Q:List PV->Prop}{F:EX->Prop}(h:aq (ownAt i env) Q F):∃xs,env[i]?=some (some (.ow xs))/\Q xs:=by
 unfold ownAt at h
 split at h
 .exact⟨_,by assumption,h⟩
 .exact h.elim
end
section
variable{sem:List PV->M (List PV)}{p pos:Pos}{fs:af->M (List PV)}{g:af->M PV}
end
mutual
def oH:PV->Bool
 | .dq=>true
 | .bl _=>true
 | .int _=>true
 | .str _=>true
 | .tup xs=>my xs
 |_=>false
def my:List PV->Bool
 | []=>true
 |p::r=>oH p&&my r
end
mutual
theorem Rep.away{Hs:Hp}{a:Addr}{ws:List V}(ha:Hs a=some (.lst ws)):∀{p:PV}{v:V},Rep Hs p v->oH p=true->Rep (rem Hs a) p v
 | _,_,.dq,_=>.dq
 | _,_,.bl b,_=>.bl b
 | _,_,.int b,_=>.int b
 | _,_,.str b,_=>.str b
 | _,_,.tup (a:=c) h r,n=>by
  have nc:c≠a:=λz=>by subst z;rw[ha] at h;cases h
  exact .tup (by unfold rem;rwa[if_neg nc]) (r.away ha n)
 | _,_,.lst _ _,n=>by cases n
 | _,_,.jz _ _,n=>by cases n
 | _,_,.obj _ _,n=>by cases n
 | _,_,.wq _,n=>by cases n
 | _,_,.wW _ _ _,n=>by cases n
 | _,_,.emp _,n=>by cases n
 | _,_,.dR _ _,n=>by cases n
 |_,_,.fn _,n=>by cases n
theorem aB.away{Hs:Hp}{a:Addr}{ws:List V}(ha:Hs a=some (.lst ws)):∀{p:List PV}{v:List V},aB Hs p v->my p=true->aB (rem Hs a) p v
 | _,_,.nil,_=>.nil
 | _,_,.cons h r,n=>by
  have n':=V0.mp (show (oH _&&my _)=true from n);exact .cons (h.away ha n'.1) (r.away ha n'.2)
end
def Cw:M PV->M PV
 | some (.ok p)=>cM (oH p=true) (M.ok p)
 |_=>none
def C8:M Bool->M Bool
 | some (.ok p)=>M.ok p
 |_=>none
theorem aq.Cw{r:M PV}{Q:PV->Prop}{E:EX->Prop}(h:aq (L2.Cw r) Q E):aq r (λp=>oH p=true/\Q p) (λ_=>False):=by
 cases r with
 | none=>exact h
 | some r=>cases r with
  | error e=>exact h
  | ok p =>
   obtain⟨n,h⟩:=aq.cM h;exact⟨n,h⟩
theorem aq.C8{r:M Bool}{Q:Bool->Prop}{E:EX->Prop}(h:aq (L2.C8 r) Q E):aq r Q (λ_=>False):=by
 cases r with
 | none=>exact h
 | some r=>cases r with
  | error e=>exact h
  |ok p=>exact h
def aW.back{Oe H':Hp}{a:Addr}{ws:List V}(h1:Hs a=none)(hH:H a=some (.lst ws))(s:aQ Hs H)(g:aW (upd Hs a (.lst ws)) H Oe H'):aW Hs H (rem Oe a) H'/\Oe a=some (.lst ws):=by
 have e:Oe a=some (.lst ws):=g.st _ _ ay;refine⟨⟨λc u q=>?_,g.al,λc u q=>?_,λc u q1 q2 q3=>?_⟩,e⟩
 .have nc:c≠a:=λz=>by subst z;rw[h1] at q;cases q
  unfold rem;rw[if_neg nc];exact g.st c u (by rwa[au nc])
 .unfold rem at q
  split at q
  .cases q
  .exact g.sub c u q
 .unfold rem
  by_cases nc:c=a
  .rw[if_pos nc]
  .rw[if_neg nc];exact g.nw c u (by rwa[au nc]) q2 q3
def SR.lend{B:Hp}{env:af}(r:SR B H₀ Hs H σ env)(e:env[i]?=some (some (.ow xs))):∃a vs,Hs a=none/\H a=some (.lst vs)/\SR B H₀ (upd Hs a (.lst vs)) H σ (mI i env):=by
 obtain⟨a,vs,h1,h2,h3,_⟩:=r.Ka e;unfold mI;rw[e];exact⟨a,vs,h1,h2,h3⟩
def uF(i:Nat)(f:af->M PV):af->M PV:=λenv=>(ownAt i env).bind λ_=>Cw (f (mI i env))
def vo(i:Nat)(f:af->M Bool):af->M Bool:=λenv=>(ownAt i env).bind λ_=>C8 (f (mI i env))
section
variable{f:af->M PV}{u:af->M Bool}
def xF(i:Nat)(he:PE X e (tE E f)):PE X e (tE E (uF i f)):=he.imp fun σ H Q q=>by
 obtain⟨B,H₀,Hs,env,sr,q⟩:=q;obtain⟨xs,ex,q⟩:=aq.own (aq.bind q);obtain⟨a,vs,h3,h2,OL⟩:=sr.lend ex;refine⟨B,H₀,_,_,OL,(aq.Cw q).imp (λp hp v Oe H' g r=>?_) λ_ z=>z.elim⟩;obtain⟨g2,ea⟩:=aW.back h3 h2 sr.gr.sub g;exact hp.2 v _ _ g2 (r.away ea hp.1)
def Fu(i:Nat)(he:PT X e (tT E u)):PT X e (tT E (vo i u)):=he.imp fun σ H Q q=>by
 obtain⟨B,H₀,Hs,env,sr,q⟩:=q;obtain⟨xs,ex,q⟩:=aq.own (aq.bind q);obtain⟨a,vs,h3,h2,OL⟩:=sr.lend ex;refine⟨B,H₀,_,_,OL,(aq.C8 q).imp (λp hp Oe H' g=>?_) λ_ z=>z.elim⟩;obtain⟨g2,ea⟩:=aW.back h3 h2 sr.gr.sub g;exact hp _ _ g2
def M6(i:Nat)(f:af->M PV):af->M PV:=λenv=>(ownAt i env).bind λxs=>(f env).bind λk=>aA (.lst xs) k
def HP{ie:Expr}{pos:Pos}(hi:X.N[i]?=some x)(hv:AN X.env.scope x)(hk:PE X ie (tE E f))(hs:oh ie)(hd:autoParam ↑7 aD._auto_1)(O7:autoParam ↑6 aD._auto_1):PE X (.Subscript (.Name x px) ie pos) (tE E (M6 i f)):=(GH Ck (iE hi hv hd O7) hk hs).imp fun σ H Q q=>by
 obtain⟨B,H₀,Hs,env,sr,q⟩:=q;obtain⟨xs,ex,q⟩:=aq.own (aq.bind q);obtain⟨a,vs,h1,h2,h3,h4,h5⟩:=sr.ow i xs ex;refine⟨.ref a,h1,B,H₀,Hs,env,sr,(aq.bind q).imp (λk hk w Ol H2 g2 rk=>?_) λe he=>he⟩;cases rk with
 | int n =>
  obtain⟨y,ey,h⟩:=aq.opt (show aq (eB (qr xs n)) _ _ from hk);obtain⟨v,e1,e2⟩:=(h5.mono g2.st).qr ey;exact .inl ⟨a,vs,n,v,rfl,rfl,h9.of (g2.al _ _ h2),e1,h v _ _ g2 e2⟩
 |_=>exact hk.elim
end
def cG:PV->PV->M PV:=CD (λ_ j=>decide (j≠0/\j.natAbs.log2<9000)) λi j=>i.fdiv j
def gy:PV->PV->M PV:=CD (λ_ j=>decide (j≠0)) λi j=>i.fmod j
def z_:PV->PV->M PV:=Dh λi j=>decide (i<j)
def AI:PV->PV->M PV:=Dh λi j=>decide (i<=j)
def DK:PV->PV->M PV:=Dh λi j=>decide (j<i)
def J0:PV->PV->M PV:=Dh λi j=>decide (j<=i)
def Cb:mi E (rI AX λi j=>.int (i.fdiv j)) cG:=FP
def Ek:mi E (rI (λ_ j=>j≠0) λi j=>.int (i.fmod j)) gy:=G9
def o8:mi E (xG λi j=>.bl (decide (i<j))) z_:=ur
def kZ:mi E (xG λi j=>.bl (decide (i<=j))) AI:=ur
def Dc:mi E (xG λi j=>.bl (decide (j<i))) DK:=ur
def B_:mi E (xG λi j=>.bl (decide (j<=i))) J0:=ur
def bq(n:Nat)(s:List PV->M PV):List PV->M PV:=λps=>cM (ps.length=n) (s ps)
def pV{s:List PV->M PV}{ps:List PV}(h:bq n s ps≠none):ps.length=n:=by
 unfold bq cM at h
 split at h
 .assumption
 .exact(h rfl).elim
variable{dv:Value}
section
variable{K:SD}
def Ao{s:List PV->M PV}(F:aT P w K mg base (cu P w) k f fd ps (dY n s)):aT P w K mg base (cu P w) k f fd ps (dY n (bq n s)) where
 len:=λvs H Q E h=>by
  obtain⟨h0,Hs,qs,sm,r,h⟩:=h;exact F.len vs H Q E ⟨h0,Hs,qs,sm,r,(aq.cM h).2⟩
 run:=λA outer s H args us vs Q E hr e hb rv h=>by
  obtain⟨h0,Hs,qs,sm,r,h⟩:=h;exact F.run A outer s H args us vs Q E hr e hb rv ⟨h0,Hs,qs,sm,r,(aq.cM h).2⟩
structure d_ (P:Program) (w:World) (K:SD) (mg:Str->Option Value) (base:Heap) (n:Nat) (x:Str) (m:Nat) (sem:List PV->M PV):Prop where
 ex:∃(f:Addr)(fd:FuncData)(ps:List Str),mg x=some (.ref f)/\Vn K (.ref f)=true/\ps.length=m/\Binds K fd ps []/\aT P w K mg base (cu P w) n f fd ps (dY m (bq m sem))
def bh.NY{st:Stmt}{g:af->M Out}(F:bh K x qual st dv f fd)(S:dM N ps (aZ st))(hb:∀(Ov:Value)(A:Around)(outer:List Env)(s:Shared)(H:Hp)(E:XK),bU k (A.deeper (envOfC qual (aZ st) s.heap.objs.size f Ov))->gB ((lJ (cu P w) P w K mg base N qual (aZ st) f Ov A outer s H E).out λ_=>E) (λ_=>E)->mW ((lJ (cu P w) P w K mg base N qual (aZ st) f Ov A outer s H E).out λ_=>E) (eM st) (tS E g)):aT P w K mg base (cu P w) (k+1) f fd ps (dY ps.length (bq ps.length (az N.length g))):=by
 obtain⟨oc,od,kV,doc,pm,an,Ov,ct,Q4,rfl,lk,O7⟩:=F.ex;exact Ao (Jf lk O7 S λA outer s H E hr=>hb Ov A outer s H E hr (Gw rfl rfl))
end
section
variable{m:Nat}{sem:List PV->M PV}{fs:af->M (List PV)}{p pos:Pos}
def d_.call(F:d_ X.prog X.w X.K X.mg X.base n x m sem)(hr:bU k X.A)(hn:n<=k)(hg:Gl X x)(O:gB X E)(ha:PA X (e::es) (tL E fs))(PL:autoParam ↑7 aD._auto_1)(he:autoParam ↑0 aR._auto_1)(OM:autoParam ↑2 aR._auto_1):PE X (.Call (.Name x p) (e::es) [] pos) (tE E (ah (bq m sem) fs)):=by
 obtain⟨f,fd,ps,h1,h2,h3,h4,h5⟩:=F.ex;have:=FQ (p:=p) (PJ:=[]) h5 (hr.mono hn) hg h1 h2 h4 .nil (λ_=>.nil) O (λP7 hp=>by rw[UC] at hp;exact pV hp) ha PL he OM;refine this.imp fun σ H Q q=>?_;have e:(λps=>bq m sem (ps++[]))=bq m sem:=by funext ps;rw[UC]
 rwa[e]
structure oB (P:Program) (w:World) (K:SD) (mg:Str->Option Value) (base:Heap) (C:Addr) (n:Nat) (x:Str) (m:Nat) (sem:List PV->M PV):Prop where
 ex:∃(f:Addr)(fd:FuncData)(ps:List Str),mn K C/\Meth K C x f/\Binds K fd ps []/\aT P w K mg base (cu P w) n f fd ps (dY m (bq m sem))
def oB.call{g:af->M PV}(F:oB X.prog X.w X.K X.mg X.base C n x m sem)(hr:bU k X.A)(hn:n<=k)(O:gB X E)(ho:PE X o (tE E g))(ha:PA X (e::es) (tL E fs))
  (OV:autoParam ↑0 aR._auto_1) (OM:autoParam ↑2 aR._auto_1)
  (ht:autoParam (eval (.Call (.Attribute o x apos) (e::es) [] pos) X.env=(do
   let ov <- eval o X.env
   standAt apos.atName
   let (f,first) <- holding [ov] (getMethod ov x pl)
   callWith pos f first (backTo pos (starEach (e::es) X.env)) (backToKw pos (keywordEach [] X.env)))) aR._auto_1) :
  PE X (.Call (.Attribute o x apos) (e::es) [] pos) (tE E (bV C x (bq m sem) g fs)):=by
 obtain⟨f,fd,ps,h1,h2,h3,h4⟩:=F.ex;exact Ff ho h1 h2 h4 (hr.mono hn) h3 O (λP7 hp=>pV hp) ha OV OM ht
def oB.J6{g:af->M PV}(F:oB X.prog X.w X.K X.mg X.base C n x m sem)(hr:bU k X.A)(hn:n<=k)(O:gB X E)(ho:PE X o (tE E g))
  (ht:autoParam (eval (.Call (.Attribute o x apos) [] [] pos) X.env=(do
   let ov <- eval o X.env
   standAt apos.atName
   let (f,first) <- holding [ov] (getMethod ov x pl)
   callWith pos f first (backTo pos (starEach [] X.env)) (backToKw pos (keywordEach [] X.env)))) aR._auto_1) :
  PE X (.Call (.Attribute o x apos) [] [] pos) (tE E (bV C x (bq m sem) g ak)):=by
 obtain⟨f,fd,ps,h1,h2,h3,h4⟩:=F.ex;exact C5 ho h1 h2 h4 (hr.mono hn) h3 O (λP7 hp=>pV hp) ht
end
structure Hf (P:Program) (w:World) (K:SD) (mg:Str->Option Value) (base:Heap) (C:Addr) (n:Nat) (x:Str) (m:Nat) (PJ:List PV) (sem:Addr->List PV->M (List (Str×PV))):Prop where
 ex:∃(f:Addr)(fd:FuncData)(ps:List Str)(ds:List Value)(OX:List V),mg x=some (.ref C)/\Mk K C f/\Binds K fd ps ds/\Vals OX ds/\(∀H,aB H PJ OX)/\aT P w K mg base (cu P w) n f fd ps (Gb m C sem)
def uc(m:Nat)(sem:Addr->List PV->M (List (Str×PV))):Addr->List PV->M (List (Str×PV)):=λa ps=>cM (ps.length+1=m) (sem a ps)
def zU{K:SD}{s:Addr->List PV->M (List (Str×PV))}(F:aT P w K mg base (cu P w) k f fd ps (Gb n C s)):aT P w K mg base (cu P w) k f fd ps (Gb n C (uc n s)) where
 len:=λvs H Q E h=>by
  obtain⟨h0,a,dx,us,Hs,H1,qs,e1,e2,e3,e4,e5,sm,r,h⟩:=h;exact F.len vs H Q E ⟨h0,a,dx,us,Hs,H1,qs,e1,e2,e3,e4,e5,sm,r,(aq.cM h).2⟩
 run:=λA outer s H args us vs Q E hr e hb rv h=>by
  obtain⟨h0,a,dx,us',Hs,H1,qs,e1,e2,e3,e4,e5,sm,r,h⟩:=h;exact F.run A outer s H args us vs Q E hr e hb rv ⟨h0,a,dx,us',Hs,H1,qs,e1,e2,e3,e4,e5,sm,r,(aq.cM h).2⟩
def bh.Nj{K:SD}{st:Stmt}{g:af->M Out}(F:bh K x qual st dv f fd)(S:dM N ps (aZ st))(hN:0<N.length)(hb:∀(Ov:Value)(A:Around)(outer:List Env)(s:Shared)(H:Hp)(E:XK),bU k (A.deeper (envOfC qual (aZ st) s.heap.objs.size f Ov))->gB ((lJ (cu P w) P w K mg base N qual (aZ st) f Ov A outer s H E).out λ_=>E) (λ_=>E)->mW ((lJ (cu P w) P w K mg base N qual (aZ st) f Ov A outer s H E).out λ_=>E) (eM st) (tS E g)):aT P w K mg base (cu P w) (k+1) f fd ps (Gb ps.length C (uc ps.length (za N.length g C))):=by
 obtain⟨oc,od,kV,doc,pm,an,Ov,ct,Q4,rfl,lk,O7⟩:=F.ex;exact zU <| F5 lk O7 S hN λA outer s H E hr=>hb Ov A outer s H E hr (Gw rfl rfl)
section
variable{m:Nat}{fs:af->M (List PV)}{p pos:Pos}
def Hf.make{sem:Addr->List PV->M (List (Str×PV))}(F:Hf X.prog X.w X.K X.mg X.base C n x m PJ (uc m sem))(hr:bU k X.A)(hn:n+1<=k)(hg:Gl X x)(O:gB X E)(ha:PA X (e::es) (tL E fs))(PL:autoParam ↑7 aD._auto_1)(he:autoParam ↑0 aR._auto_1)(OM:autoParam ↑2 aR._auto_1):PE X (.Call (.Name x p) (e::es) [] pos) (tE E (ah (jD C (uc m sem) PJ) fs)):=by
 obtain⟨f,fd,ps,ds,OX,h1,h2,h4,h5,h6,h7⟩:=F.ex;refine EI (p:=p) h2 h7 (hr.mono hn) hg h1 h4 h5 h6 O (λa P7 hp=>?_) ha PL he OM;unfold uc cM at hp
 split at hp
 .rename_i h;rwa [S6] at h
 .exact(hp rfl).elim
end
def lR:Addr->Option Bool:=λ_=>none
def iF{P:Addr->Bool->Prop}:∀C b,lR C=some b->P C b:=λ_ _ h=>by cases h
def vr{pos:Pos}(i:Nat)(hN:autoParam (X.N[i]?=some x) aR._auto_1)(hv:AN X.env.scope x:=by first|exact .inl rfl|exact .inr (.inl rfl)|exact .inr (.inr rfl))(hd:autoParam ↑7 aD._auto_1)(O7:autoParam ↑6 aD._auto_1):PE X (.Name x pos) (tE E (aa i)):=GS hN hv hd O7
def Le{env:Env}(h:(match e with|.Starred ..=>true|_=>false)=false):starEach (e::es) env=(false,eval e env)::starEach es env:=by
 cases e<;>first|rfl|cases h
section
variable{pos:Pos}
end
section
variable{a b:Expr}{pos:Pos}{f g:af->M PV}
end
section
variable{E:XK}{pos p:Pos}{fl:Str}{fs:af->M (List PV)}
end
def dy(bt:Int->Int->Bool):List Int->Int->Int
 | [],m=>m
 |n::r,m=>dy bt r (if bt n m=true then n else m)
theorem rh(bt:Int->Int->Bool)(n:Int):∀(r:List Int)(j:Nat),j<r.length+1->(n::r).getD (argBest (λi k=>bt ((n::r).getD i 0) ((n::r).getD k 0)) j) 0=dy bt (r.take j) n
 | r,0,_=>by simp[argBest,dy]
 | r,j+1,h=>by
  have ih:=rh bt n r j ⋯;have hj:j<r.length:=by lia
  have e1:dy bt (r.take (j+1)) n=(if bt r[j] (dy bt (r.take j) n)=true then r[j] else dy bt (r.take j) n):=by
   have:∀(l:List Int)(x m:Int),dy bt (l++[x]) m=(if bt x (dy bt l m)=true then x else dy bt l m):=by
    intro l x
    induction l with
    | nil=>intro m;rfl
    | cons a l ih=>intro m;exact ih _
   rw[List.take_succ,Sy hj];exact this _ _ _
  have e2:(n::r).getD (j+1) 0=r[j]:=by simp[X3,hj]
  rw[e1,<- ih];have e3:argBest (λi k=>bt ((n::r).getD i 0) ((n::r).getD k 0)) (j+1)=if bt ((n::r).getD (j+1) 0) ((n::r).getD (argBest (λi k=>bt ((n::r).getD i 0) ((n::r).getD k 0)) j) 0)=true then j+1 else argBest (λi k=>bt ((n::r).getD i 0) ((n::r).getD k 0)) j:=rfl;rw[e3]
  by_cases z:bt ((n::r).getD (j+1) 0) ((n::r).getD (argBest (λi k=>bt ((n::r).getD i 0) ((n::r).getD k 0)) j) 0)=true
  .rw[if_pos z,e2,if_pos (by rwa[<- e2])]
  .rw[if_neg z,if_neg (by rwa[<- e2])]
theorem vW(bt:Int->Int->Bool)(n:Int)(r:List Int):(n::r).getD (argBest (λi k=>bt ((n::r).getD i 0) ((n::r).getD k 0)) r.length) 0=dy bt r n:=by
 rw[rh bt n r r.length ⋯,WE]
def qj{ns:List Int}{Ob:List Value}(rv:Vals (ns.map V.int) Ob):∀(i:Nat)(v:Value),Ob.toArray[i]?=some v->∃t,v=WT (ns.getD i 0) t:=by
 intro i v h;have h':Ob[i]?=some v:=by simpa using h
 have hl:=rv.length;have hi:i<ns.length:=by
  have:=(Tw.mp h').1;rwa[<- hl,SG] at this
 obtain⟨u,hu,ru⟩:=rv.get (show (ns.map V.int)[i]?=some (.int ns[i]) by rw[Te,Sy hi];rfl);rw[h'] at hu;cases hu;obtain⟨t,e⟩:=ru;exact⟨t,by rw[e];simp[X3,hi]⟩
def Gu(K:SD)(bt:Int->Int->Bool):List V->Hp->VK->Prop:=λxs H Q=>∃(b:Bool)(a:Addr)(n:Int)(r:List Int),xs=[.ref a]/\jC K H b a ((n::r).map V.int)/\Q (.int (dy bt r n)) H
def zw(hc:X.calm=true):cv X (.builtin "max") (Gu X.K λi j=>decide (i>j)):=by
 intro N9 s σ H xs us Q I r h;obtain⟨b,a,n,rr,rfl,hq,q⟩:=h;cases r with
 | cons r1 r2 =>
  cases r2;cases (show _=SN a from r1);obtain⟨Ob,rv,p,hz⟩:=I.row hq;have RL:Ob.length=rr.length+1:=by have:=rv.length;simpa using this.symm
  obtain⟨oa,na,ea,_⟩:=p.obj;have OC:a<s.heap.objs.size:=SK ea;have fin:∀(v:Value)(h':Heap)(tk:Nat),Ob.toArray[argBest (λi j=>decide ((n::rr).getD i 0>(n::rr).getD j 0)) (Ob.toArray.size-1)]?=some v->(∀c o,c≠s.heap.objs.size->(s.heap.push (DN b a)).get? c=some o->h'.get? c=some o)->EP X N9 σ Q v { s with heap:=h',toks:=tk }:=by
   intro v h' tk hv hk;obtain⟨t,e⟩:=qj rv _ _ hv;have e2:=vW (λi j=>decide (i>j)) n rr;rw[show Ob.toArray.size-1=rr.length by simp[RL]] at e;rw[e2] at e;refine⟨.int _,H,I.kept (t':=tk) (λc x e'=>?_),⟨t,e⟩,q⟩;exact hk c x (λz=>by rw[z] at e';exact U6 _ (SK e')) (Sw _ e')
  have hsz:0<Ob.toArray.size:=by simp[RL]
  cases b with
  | true =>
   refine call_max_walk (Ww p ⟨s.heap.objs.size,[s.heap.objs.size,a],[s.heap.objs.size],Ob.toArray.size,_,_,_,rfl,Y0 (A:=X.A.in1) (I.ok.hd hc) _ a (SW OC) Ob.toArray,⟨⟨_,SH _ rfl,rfl,rfl⟩,Heap.IsList.push p _⟩,λc Qz=>?_,hsz,Z9 (λi=>(n::rr).getD i 0) (λi v hv=>qj rv i v hv),λv h' tk hP hk=>fin v h' tk hP λc o nc e=>hk c o (by simpa using nc) e⟩);rw[TM];rcases SQ.mp Qz with z|z
   .rw[z];exact UG _
   .rw[S7.mp z];exact Vq OC
  | false =>
   refine call_max_walk (Ve p ⟨s.heap.objs.size,[s.heap.objs.size,a],[s.heap.objs.size],Ob.toArray.size,_,_,_,rfl,Walks.tuple (A:=X.A.in1) (I.ok.hd hc) _ a (SW OC) Ob.toArray,⟨⟨_,SH _ rfl,rfl,rfl⟩,eO.push (b:=false) p _⟩,λc Qz=>?_,hsz,Z9 (λi=>(n::rr).getD i 0) (λi v hv=>qj rv i v hv),λv h' tk hP hk=>fin v h' tk hP λc o nc e=>hk c o (by simpa using nc) e⟩);rw[TM];rcases SQ.mp Qz with z|z
   .rw[z];exact UG _
   .rw[S7.mp z];exact Vq OC
def uE(bt:Int->Int->Bool)(p:PV):M PV:=match (bX p).bind l7 with
 | some (n::r)=>M.ok (.int (dy bt r n))
 |_=>none
def xv(bt:Int->Int->Bool):List PV->M PV
 | [p]=>uE bt p
 |_=>none
def Ex{K:SD}{bt:Int->Int->Bool}:jq E (Gu K bt) (xv bt):=by
 intro σ Hs H ps vs Q s r h
 match ps,r with
 | [],_=>exact h.elim
 | _::_::_,_=>exact h.elim
 | [p],r =>
  obtain⟨v,rfl,rp⟩:=r.one;have h':aq (uE bt p) (du Hs H Q) (XW (E σ) Hs H):=h;unfold uE at h'
  split at h'
  .rename_i n rr e;obtain⟨xs,e1,e2⟩:=WW.mp e;obtain⟨b,a,us,rfl,hq,hx⟩:=jd (K:=K) s rp e1;rw[ye e2] at hx;exact⟨b,a,n,rr,rfl,hx.ints▸hq Hs H (λ_ _ z=>z) s,du.flat h' s (.int _)⟩
  .exact h'.elim
section
variable{pos:Pos}
end
section
variable{cl:List (Str×Addr)}{pos:Pos}{wi:TI}{it:af->M (List PV)}{g:TG}{set:PV->af->M af}{f:af->M PV}{fs:List Str}
variable{E:XK}{py Px:Pos}
def DR(Ow:X.calm=true)(OB:closureFor scope X.env=pure cl)(hk:scope.kind=.function)(nc:fL scope.names=true)(lo:g_ scope.names=true)(fh:gS cl scope.names=true)(ag:eI X cl)(fr:iR X scope cl fs js)(hi:PI X tg iter wi)(hv:x_ (λ_=>E) wi it)(hg:∀C s₀ H₀ ex N9,PG (qq X scope cl (ts++fs) C s₀ H₀ ex N9) tg g)(QY:∀E,DL E g set)(so:nB set)(he:∀C s₀ H₀ ex N9,PE (qq X scope cl (ts++fs) C s₀ H₀ ex N9) elt (tE EF f))(hN:X.N.Nodup)(Rw:X.N[i]?=some y)(hy:Loc X.env.scope y)(hs:autoParam ↑5 aI._auto_1)(Rf:autoParam (swapsWith (.ListComp elt [⟨tg,iter,[],0⟩] scope pos) (some (.Name y py)) Px.line X.env=pure true) aR._auto_1)(hf:autoParam (X.fn y=true\/X.env.scope.names.lookup y=some .local) aF._auto_1):PS X (.Assign [.Name y py] (.ListComp elt [⟨tg,iter,[],0⟩] scope pos) Px) (tS E (a_ i (cH (cq it set none f ts.length js)))):=by
 refine(DT hN Rw hy Ow OB hk nc lo fh ag fr hi hg he hs Rf hf).imp λD σ H q=>?_;refine uw hv QY so ?_;obtain⟨B,H₀,Hs,env,sr,q⟩:=q;refine⟨B,H₀,Hs,env,sr,(aq.bind (aq.bind q)).imp (λps hp vs p Oe H' g r n=>?_) λe he=>he.grow sr.gr⟩;have gn:=aW.new (o:=.lst vs) g.sub n;exact hp _ _ _ ((sr.grow (g.trans gn)).set (.lst ay (r.mono gn.st)))
end
section
variable{a:Expr}{ta:TA}{p pos:Pos}
end
section
variable{fs:af->M (List PV)}{a:Expr}{p p2 pos pos2:Pos}
end
section
open AutoSeq1 (wpAny_loadPart')
def yB(l:Addr)(items:Array Value)(n:Nat)(dR:Option Addr)(sl:Array (Option Value)):Meets (Builtin.«enumerate.__new__» ⟨[.type "enumerate",.ref l],[]⟩) (λ_ R s=>s.heap.get? l=some { cls:=.type "tuple",dict:=dR,data:=.seq items n,slots:=sl } ∧R (.ok (.ret (.ref (s.heap.push { cls:=.type "tuple_iterator",data:=.fields #[.ref l,.int 0 0] }).objs.size))) { s with heap:=(s.heap.push { cls:=.type "tuple_iterator",data:=.fields #[.ref l,.int 0 0] }).push { cls:=.type "enumerate",data:=.fields #[.none,.bool false,.ref s.heap.objs.size,rawInt 0,.none,.none] } }) :=
 .of_wp λprog w A R s h=>by
  obtain⟨hp,g,d,tk,os⟩:=s;obtain⟨hl,h⟩:=h;have Sd:=sub_enumerate;have hL:Heap.IsTuple (Xz ⟨hp,g,d,tk,os⟩) l items:=⟨_,hl,rfl,n,rfl⟩
  wp_walk using Wn hl
  refine wpAny_stack_any λst=>SA ?_
  split
  .rename_i c _ _ _ _ _;cases (c==Uy "enumerate")
   .wp_walk using Wn hl,Ve hL
    exact⟨_,rfl,h⟩
   .wp_walk using Wn hl,Ve hL
    exact⟨_,rfl,h⟩
  .wp_walk using Wn hl,Ve hL
   exact⟨_,rfl,h⟩
section
variable{E:Value->Shared->Prop}
def xo(hL:s.heap.IsTuple l items)(h:∀h',IsEnum h' (s.heap.objs.size+1) s.heap.objs.size 0 .none->h'.IsTupleIter s.heap.objs.size l 0->h'.objs.size=s.heap.objs.size+2 ->(∀b o,s.heap.get? b=some o->h'.get? b=some o)->Q (.ref (s.heap.objs.size+1)) { s with heap:=h' }):wpAny ↑11 A (call (.type "enumerate") [.ref l]) Q E s:=by
 obtain⟨⟨c,dR,dt,sl⟩,hl,hc,n,hd⟩:=hL
 replace hc:c=.type "tuple" := hc
 replace hd:dt=.seq items n:=hd
 subst hc hd;refine aax F.called_enumerate ↑12 (F.typeCall_enumerate_1 _) (F.newCall_enumerate_1 _) (λobj=>F.args_object_init_2 obj _) F.entry_enumerate_new
  (yB l items n dR sl) ⟨hl,?_⟩
 have hz:(s.heap.push { cls:=.type "tuple_iterator",data:=.fields #[.ref l,.int 0 0] }).objs.size=s.heap.objs.size+1:=TM ..;show _/\_;rw[hz];have he:IsEnum ((s.heap.push { cls:=.type "tuple_iterator",data:=.fields #[.ref l,.int 0 0] }).push
   { cls:=.type "enumerate",data:=.fields #[.none,.bool false,.ref s.heap.objs.size,rawInt 0,.none,.none] }) (s.heap.objs.size+1) s.heap.objs.size 0 .none:=by
  have:=SH (s.heap.push { cls:=.type "tuple_iterator",data:=.fields #[.ref l,.int 0 0] })
   (o:={ cls:=.type "enumerate",data:=.fields #[.none,.bool false,.ref s.heap.objs.size,rawInt 0,.none,.none] }) rfl
  rwa[hz] at this
 refine⟨⟨_,he,rfl⟩,h _ he ⟨_,Sw _ (SH _ rfl),rfl,rfl⟩ (by rw[TM,hz]) λb o x=>Sw _ (Sw _ x)⟩
end
def IL(hh:A.handled=none)(it t:Addr)(items:Array Value):Draws prog w A it [it,t] items.size (λi v=>items[i]?=some v) (λi h=>h.IsTupleIter it t i/\h.IsTuple t items) where
 live:=λ_ _ st=>let ⟨⟨o,ho,_⟩,_⟩:=st;⟨o,ho⟩
 frame:=λ_ _ _ st hk=>by
  obtain⟨⟨o,ho,r⟩,⟨o2,Qe,r2⟩⟩:=st;exact⟨⟨o,hk it ↑13 o ho,r⟩,⟨o2,hk t ↑13 o2 Qe,r2⟩⟩
 item:=λi s Q E hi st hQ=>by
  obtain⟨st,tt⟩:=st;refine hV st tt (x:=items[i]) (by simp[hi]) λh' Rv Qa=>?_;refine hQ _ h' s.toks (by simp[hi]) ⟨Rv,?_⟩ Qa;obtain⟨o,ho,c1,_⟩:=st;obtain⟨o2,Qe,c2,r2⟩:=tt;refine⟨o2,(Qa.2 t λz=>?_).trans Qe,c2,r2⟩;rw[z,ho] at Qe;cases Qe;rw[c1] at c2;exact absurd c2 ↑12
 done:=λs Q E st hE=>eT hh st.1 st.2 ↑13 hE
def Ic (K : SD)(a : Addr) : It :=
  ⟨λi H => ∃xs x,fJ K H a xs /\ xs[i]? = some x,
   λi H y H' => ∃p x,H p=none /\ y=.ref p /\ H'=upd H p (.tup [.int i,x]) /\ ∀xs,fJ K H a xs -> xs[i]? = some x,
   λi H => ∃xs,fJ K H a xs /\ xs.length <= i⟩
theorem wD{K:SD}{tp:Pos}(a e it:Addr)(Qi:e≠it):Turn P w K (.Tuple elts x1 tp) (Ic K a) [e,it] e (λi h=>(∃old,IsEnum h e it i old)/\h.IsTupleIter it a i) where
 mem:=by simp
 obj:=λi h st b hb=>by
  obtain⟨⟨old,he⟩,⟨o,e1,c,d⟩⟩:=st;rcases SQ.mp hb with z|z
  .subst z;exact⟨_,he,λv z=>by cases z⟩
  .have z':b=it:=by simpa using z
   subst z';exact⟨o,e1,λv z=>by rw[d] at z;cases z⟩
 keep:=λi h h' st k=>by
  obtain⟨⟨old,he⟩,⟨o,ho,r⟩⟩:=st;exact⟨⟨old,k e ↑13 _ he⟩,⟨o,k it ↑13 o ho,r⟩⟩
 item:=by
  intro X hP hw hK hc i N9 s σ H E I hf st hg;subst hP hw hK;obtain⟨xs,x,hq,hx⟩:=hg;obtain⟨Ob,rv,p,hz⟩:=I.tuple hq;obtain⟨u,hu,ru⟩:=rv.get hx;obtain⟨⟨old,he⟩,hit⟩:=st;have QK:e<s.heap.objs.size:=SK he;have Ru:it<s.heap.objs.size:=by obtain⟨_,z,_⟩:=hit;exact SK z
  have hea:e ∉ [it,a]:=λz=>by
   rcases SQ.mp z with z|z
   .exact Qi z
   .obtain⟨o,ho,c,_⟩:=p;rw[<- S7.mp z,he] at ho;cases ho;exact absurd (show Uy "enumerate"=Uy "tuple" from c) ↑12
  have Qc:i<Ob.toArray.size:=by
   have:=(Tw.mp hu).1;simpa using this
  refine wpAny_pyNext_enum_itemD (IL (A:=X.A.in1) (I.ok.hd hc) it a Ob.toArray) he ⟨hit,p⟩ Qc Qi hea λu' h' tk hu' ho OV hT hsz hk=>⟨_,rfl,?_⟩
  have eu:u'=u:=by
   rw[ZE,hu] at hu';exact(Th hu').symm
  subst eu;refine X9 (s:={ s with heap:=h',toks:=tk+1 }) ho λh2 he2 Py=>?_;have QS:∀b o,b ∉ [e,it]->s.heap.get? b=some o->h2.get? b=some o:=λb o hb q=>by
   have n1:b≠e:=λz=>hb (by simp[z]);have n2:b≠it:=λz=>hb (by simp[z]);exact(Py.2 b n1).trans (hk b o n1 n2 q)
  have Q7:h2.get? s.heap.objs.size=some { cls:=.type "tuple",data:=.seq #[.int i tk,u'] }:=(Py.2 _ (Uu QK)).trans hT;have I2:Inv X N9 σ (upd H s.heap.objs.size (.tup [.int i,x])) { s with heap:=h2,toks:=tk+1 } :=
   I.kj (ch:=[e,it]) QS hf (SE _) (λb hb=>by
    rcases SQ.mp hb with z|z
    .subst z;exact⟨_,he⟩
    .have z':b=it:=by simpa using z
     subst z';obtain⟨o,z,_⟩:=hit;exact⟨o,z⟩)
    ⟨by show 2<=sizeLine;decide,[.int i tk,u'],.cons ⟨_,rfl⟩ (.cons ru .nil),⟨_,Q7,rfl,_,rfl⟩⟩
  have Pu:H s.heap.objs.size=none:=I.br.fresh (SE _);obtain⟨oi,hoi,ri⟩:=OV.1;refine⟨.ref s.heap.objs.size,_,I2,rfl,⟨_,x,Pu,rfl,rfl,λys hy=>by rwa[I.mU hy hq]⟩,⟨⟨u',by simpa using he2⟩,⟨oi,(Py.2 it (UN Qi)).trans hoi,ri⟩⟩,λb hb=>?_⟩;have nb:b≠s.heap.objs.size:=by
   rcases SQ.mp hb with z|z
   .rw[z];exact SW QK
   .have z':b=it:=by simpa using z
    rw[z'];exact SW Ru
  rw[au nb];exact(hf b hb).1
 done:=by
  intro X hP hw hK hc i N9 s σ H E I hf st hg;subst hP hw hK;obtain⟨xs,hq,hx⟩:=hg;obtain⟨Ob,rv,p,hz⟩:=I.tuple hq;have hl:=rv.length;obtain⟨⟨old,he⟩,hit⟩:=st;obtain⟨f0,f1,f2,f3,f4,f5⟩:=hf it ↑13;have hT:s.TypeIs (.ref e) "enumerate" := ⟨_,he,rfl⟩
  unfold pyNext;refine Rz (Vj (T4 (name:=Tp "__next__") hT F.slot_enumerate_next
   (Uc F.slot_enumerate_next hT F.entry_enumerate_next ?_ (F.args_enumerate_next_1 _))))
  show wpAny _ _ (field (.ref e) 2 >>= _) _ _ _;refine Rz (Tv he rfl (x:=.ref it) rfl ?_);refine Rz (eT (I.ok.hd hc) hit p (by simp;lia) λh' x he' hx'=>?_);obtain⟨o,ho,Qz⟩:=hx';refine Rz (Wb (T := "StopIteration") (b:=true) ⟨o,ho,Qz⟩ X_ ?_);exact SA ⟨rfl,I.turned (t':=s.toks) (λb o hb e=>he' b o hb e) f0 f1 f3 f4 f5⟩
 self:=λ_ _ _ _ _ st h=>by
  obtain⟨⟨old,he⟩,_⟩:=st;exact W8 he h
def Kh(K:SD)(tl:TA):TI:=fun σ H R=>tl σ H λvs H1=>∃a,vs=[.ref a]/\(((∃xs,h9 K H1 a xs)/\R (HG K a) H1)\/((∃xs,fJ K H1 a xs)/\R (Ic K a) H1))
def jn{tp:Pos}{l:Expr}{p pos:Pos}(hg:Gl X "enumerate")(hm:X.mg "enumerate"=none)(hl:PA X [l] tl)(hs:autoParam (starEach [l] X.env=[(false,eval l X.env)]) aR._auto_1):PI X (.Tuple elts x1 tp) (.Call (.Name "enumerate" p) [l] [] pos) (Kh X.K tl):=by
 intro N9 s σ H R I h;refine Call_ (iy I hg hm PyProof.Rows.boot_enumerate (Uk (ck (hl pos N9 s σ H _ I h) λus s1 ⟨vs,H1,I1,r1,q1⟩=>?_) hs rfl));obtain⟨a,e,q⟩:=q1;subst e;cases r1 with
 | cons r rr =>
  cases rr;cases (show _=SN a from r);have fp:∀b∈[s1.heap.objs.size+1,s1.heap.objs.size],lj X N9 H1 b:=λb hb=>by
   rcases SQ.mp hb with z|z
   .subst z;exact I1.qL (ZR _) (I1.br.fresh (ZR _))
   .have z':b=s1.heap.objs.size:=by simpa using z
    subst z';exact I1.qL (SE _) (I1.br.fresh (SE _))
  rcases q with ⟨⟨xs,hq⟩,q⟩|⟨⟨xs,hq⟩,q⟩
  .obtain⟨Ob,rv,pl,hz⟩:=I1.list hq;refine call_enumerate_list pl.isList λh' he hit hsz hk=>?_;refine W8 (s:={ s1 with heap:=h' }) he ?_;exact⟨s1.heap.objs.size+1,[s1.heap.objs.size+1,s1.heap.objs.size],_,_,H1,rfl,I1.kept (t':=s1.toks) hk,yT a _ _ (Xo _),⟨⟨_,he⟩,hit⟩,fp,q⟩
  .obtain⟨Ob,rv,pl,hz⟩:=I1.tuple hq;refine xo pl λh' he hit hsz hk=>?_;refine W8 (s:={ s1 with heap:=h' }) he ?_;exact⟨s1.heap.objs.size+1,[s1.heap.objs.size+1,s1.heap.objs.size],_,_,H1,rfl,I1.kept (t':=s1.toks) hk,wD a _ _ (Xo _),⟨⟨_,he⟩,hit⟩,fp,q⟩
def MX(p:PV):M (List PV):=match bX p with
 | some xs=>M.ok (gW xs)
 |none=>none
def yy:List PV->M (List PV)
 | [p]=>MX p
 |_=>none
section
variable{K:SD}{fs:af->M (List PV)}
def A5{a:Addr}(hq:∀Oe H',aQ Oj Oe->aQ Oe H'->fJ K H' a vs)(hr:aB Oj xs vs):i6 (Ic K a) Oj (gW xs) where
 stop:=λi Hs H s1 s2 hi=>by
  unfold gW at hi;rw[VI,hr.length] at hi;exact⟨vs,hq Hs H s1 s2,hi⟩
 go:=λi Hs H s1 s2 hi=>by
  unfold gW at hi;rw[VI] at hi;obtain⟨v,e,_⟩:=hr.get (Sy hi);exact⟨vs,v,hq Hs H s1 s2,e⟩
 uv:=λi Hs H x H2 s1 s2 hi y=>by
  unfold gW at hi;rw[VI] at hi;obtain⟨v,e,r⟩:=hr.get (Sy hi);obtain⟨pa,v',hn,rfl,rfl,y1⟩:=y;have z1:=y1 vs (hq Hs H s1 s2);rw[e] at z1;cases z1;have gr:=aW.new (o:=.tup [.int (i:Nat),v]) s2 hn;refine⟨.tup [.int (i:Nat),xs[i]],_,?_,gr,.tup ay (.cons (.int _) (.cons ((r.mono s1).mono gr.st) .nil))⟩;unfold gW;rw[ZT,Sy hi];rfl
def f_:x_ E (Kh K (tL E fs)) (kL yy fs):=by
 intro σ H R q;refine cZ (K:=KI R) KI.g q λB H₀ Hs H1 env ps v sr rp hp=>?_
 match ps,rp,hp with
 | [],_,hp=>exact hp.elim
 | _::_::_,_,hp=>exact hp.elim
 | [p],rp,hp =>
  obtain⟨w,rfl,P1⟩:=rp.one;cases P1 with
  | lst ha hx=>exact⟨_,rfl,.inl ⟨⟨_,h9.of (sr.gr.sub _ _ ha)⟩,hp _ Hs H1 (.refl sr.gr.sub) (ro (λOe H' s1 s2=>h9.of (s2 _ _ (s1 _ _ ha))) hx)⟩⟩
  | jz ha hx=>exact⟨_,rfl,.inl ⟨⟨_,.inl (.inr ⟨_,sr.gr.sub _ _ ha⟩)⟩,hp _ Hs H1 (.refl sr.gr.sub) (ro (λOe H' s1 s2=>.inl (.inr ⟨_,s2 _ _ (s1 _ _ ha)⟩)) hx)⟩⟩
  | tup ha hx=>exact⟨_,rfl,.inr ⟨⟨_,fJ.of (sr.gr.sub _ _ ha)⟩,hp _ Hs H1 (.refl sr.gr.sub) (A5 (λOe H' s1 s2=>fJ.of (s2 _ _ (s1 _ _ ha))) hx)⟩⟩
  |_=>exact hp.elim
end
end
section
variable{pos:Pos}{f:af->M PV}
end
section
variable{pos:Pos}{f:af->M PV}
end
section
variable{QX:List (Addr×Obj)}{ea:Addr}
end
section
variable{B:Hp}{ea:Addr}{E:XK}{env:af}{fo:Option (List (Str×PV))}{D:Ends}{F:Value->Shared->Prop}
end
section
variable{pos p pt:Pos}{f:af->M PV}{ys ns yo no:List Addr}
end
section
variable{pos:Pos}{f g:af->M PV}
end
section
open PySem PySem.Spec PyProof.Rows _root_.HT
section
variable{E:Value->Shared->Prop}
def lB{t sl:Addr}{vl vu:Value}{lo hi:Option Int}(ht:IsTup s.heap t items)(hs:s.heap.IsSliceOf sl vl vu .none)(pl:IsPart vl lo)(pu:IsPart vu hi)(hw:cW items.size 0 lo=0/\cW items.size items.size hi=items.size)(h:Q (.ref t) s):wpAny ↑11 A (getItem (.ref t) (.ref sl)) Q E s:=by
 obtain⟨os,RA,hcs,RZ⟩:=id hs;have hTs:s.TypeIs (.ref sl) "slice" := ⟨os,RA,hcs⟩
 unfold getItem
 try with_reducible refine UE ?_
 first|refine Rz (SA ?_)|skip
 refine Rz (wpAny_sequenceKey ht.typeIs ↑12 ?_);refine Rz (T4 (name:=Tp "__getitem__") ht.typeIs Ul
  (Uc Ul ht.typeIs Z1 ?_ (args_tuple_getitem _ _)))
 show wpAny _ _ (X7 (.ref t) >>= _) _ _ s;refine Rz (tupleItemsOf_ ht ?_);refine Rz (WD hTs ?_);rw[if_pos ↑12];refine Rz (iN hs pl pu ?_);have hyes:(((cW items.size 0 lo:Nat):Int)==0&&(1:Int)==1&&(cW items.size items.size hi-cW items.size 0 lo)==items.size)=true:=by
  rw[hw.1,hw.2];simp
 show wpAny _ _ (if (((cW items.size 0 lo:Nat):Int)==0&&(1:Int)==1&&(cW items.size items.size hi-cW items.size 0 lo)==items.size)=true then _ else _) _ _ s;rw[if_pos hyes];unfold Builtin.Tuple.tupleIsExact;refine Rz (Rz (WD ht.typeIs (SA ?_)));rw[if_pos (show ((Uy "tuple" == Uy "tuple")=true) from beq_self_eq_true _)];refine Rz (U9 ?_)
 first
  | exact Rz (SA (SA ⟨_,rfl,SA h⟩))
  | exact Rz (SA ⟨_,rfl,SA h⟩)
  |exact SA ⟨_,rfl,SA h⟩
end
section
variable{lo hi:Option Expr}{pos p2:Pos}{f:af->M PV}{gl gh:af->M (Option Int)}
def MA(K:SD):V->Option Int->Option Int->Hp->VK->Prop:=λx lo hi H Q=>∃a xs,x=.ref a/\fJ K H a xs/\(cW xs.length 0 lo=0/\cW xs.length xs.length hi=xs.length)/\Q (.ref a) H
def Fw:DJ X (MA X.K):=by
 intro N9 s σ H x v vl vu lo hi sl Q I rx hs pl pu h;obtain⟨a,xs,rfl,hx,hw,q⟩:=h;cases rx;obtain⟨Ob,r,ht,hz⟩:=I.tuple hx;have hlen:Ob.toArray.size=xs.length:=by rw[S2];exact r.length.symm
 refine⟨"tuple",_,Ul.lookup,ht.typeIs,?_⟩;exact lB ht hs pl pu (by rwa[hlen]) ⟨.ref a,H,I,rfl,q⟩
def L5(p:PV)(lo hi:Option Int):M PV:=match p with
 | .tup xs=>M.ok (.tup (nR xs lo hi))
 | .lst xs=>M.ok (.lst (nR xs lo hi))
 | .jz xs=>M.ok (.lst (nR xs lo hi))
 |_=>none
def lq(f:af->M PV)(lo hi:af->M (Option Int)):af->M PV:=λenv=>(f env).bind λp=>(lo env).bind λl=>(hi env).bind λh=>L5 p l h
def r0(he:PE X e (tE E f))(hl:PO X lo (Mc E gl))(hh:PO X hi (Mc E gh)):PE X (.Subscript e (.Slice lo hi none p2) pos) (tE E (lq f gl gh)):=by
 refine(CA (DJ.or Ha (DJ.or Fw DU)) he hl hh).imp fun σ H Q q=>b_ (K:=kC Q) kC.g q λB H₀ Hs H1 env p v sr rp hp=>?_;refine⟨B,H₀,Hs,env,sr,(aq.bind hp).imp (λl hl Ol H2 g2=>?_) λe he=>he⟩;have OL:=sr.grow g2;refine⟨B,H₀,Ol,env,OL,(aq.bind hl).imp (λh hh PQ H3 g3=>?_) λe he=>he.grow g2⟩;have Qo:=OL.grow g3;have hz:aq (L5 p l h) (du PQ H3 Q) (λ_=>True):=hh.imp (λz hz w Hs4 H4 g4 r=>hz w Hs4 H4 ((g2.trans g3).trans g4) r) λ_ _=>trivial;have rp3:=(rp.mono g2.st).mono g3.st;cases rp3 with
 | @tup a xs vs ha hx =>
  by_cases hn:cW xs.length 0 l=0/\cW xs.length xs.length h=xs.length
  .refine .inr (.inl ⟨_,_,rfl,fJ.of (Qo.gr.sub _ _ ha),by rwa[<- hx.length],?_⟩);have e:nR xs l h=xs:=by
    unfold nR;rw[hn.1,hn.2,List.drop_zero,Y4,WE]
   have Q2:du PQ H3 Q (.tup xs):=by
    have z:du PQ H3 Q (.tup (nR xs l h)):=hz;rwa[e] at z
   exact du.flat Q2 Qo.gr.sub (.tup ha hx)
  .exact .inl ⟨_,_,rfl,fJ.of (Qo.gr.sub _ _ ha),by rwa[<- hx.length],du.tup hz Qo.gr.sub (hx.cut l h)⟩
 | lst ha hx=>exact .inr (.inr ⟨_,_,rfl,h9.of (Qo.gr.sub _ _ ha),du.lst hz Qo.gr.sub (hx.cut l h)⟩)
 | jz ha hx=>exact .inr (.inr ⟨_,_,rfl,.inl (.inr ⟨_,Qo.gr.sub _ _ ha⟩),du.lst hz Qo.gr.sub (hx.cut l h)⟩)
 |_=>exact hz.elim
end
end
section
variable{pos:Pos}{g:af->M PV}{fs:af->M (List PV)}{L:List (Addr×(List PV->M PV))}{K:SD}
end
section
open PySem.SeqAt (shaped EqAt RcAt RcNeAt)
section
variable{a b:Addr}
end
end
end L2
namespace HT
open PySem PyProof.Rows
variable{E:Value->Shared->Prop}{A:Around}{w:World}{prog:Program}
section
variable{a b v:Value}{k:Bool}{I S ax:Addr}{t:Shared}{n:Nat}{R:Result->Shared->Prop}
end
def lexLe(xs ys:List Int):Bool:=!lexLt ys xs
section
open PySem.SeqAt
open PySem.AutoSeq1 (wpAny_loadPart')
open PySem.MeetsSeq PySem.MeetsSeq2 PySem.MeetsSeq3
end
section
variable{s:Shared}
end
end HT
namespace L2
open PySem PySem.Spec PyProof.Rows
def xk{xs:List PV}:∀{ns:List Int},l7 xs=some ns->xs=ns.map PV.int:=by
 induction xs with
 | nil=>intro ns h;cases h;rfl
 | cons p r ih =>
  intro ns h;cases p with
  | int i =>
   obtain⟨m,e,rfl⟩:=Td.mp (show (l7 r).map (i::·)=some ns from h);rw[ih e];rfl
  |_=>cases h
def Ce:PV->Option (List Int)
 | .tup xs=>l7 xs
 |_=>none
variable{E:St->XK}{X:Cx}
def zj{Hs:Hp}{p:PV}{v:V}{ns:List Int}(r:Rep Hs p v)(h:Ce p=some ns):∃a,v=.ref a/\Hs a=some (.tup (ns.map V.int)):=by
 cases r with
 | tup ht hx =>
  have e:=xk (show l7 _=some ns from h);subst e;rw[hx.ints] at ht;exact⟨_,rfl,ht⟩
 |_=>cases h
variable{js:List Nat}{ts:List Str}{f:af->M PV}{it:af->M (List PV)}{wi:TI}{scope:Scope}
variable{y:Str}{i:Nat}
section
variable{tg elt iter c:Expr}{cl:List (Str×Addr)}{pos:Pos}{g:TG}{set:PV->af->M af}{fs:List Str}
variable{E:XK}{py Px:Pos}
end
def AE{tg elt iter c:Expr}{cl:List (Str×Addr)}{pos Px py:Pos}{g:TG}{t:TT}{te:TE}{fs:List Str}(hN:X.N.Nodup)(Rw:X.N[i]?=some y)(hy:Loc X.env.scope y)(Ow:X.calm=true)(OB:closureFor scope X.env=pure cl)(hk:scope.kind=.function)(nc:fL scope.names=true)(lo:g_ scope.names=true)(fh:gS cl scope.names=true)(ag:eI X cl)(fr:iR X scope cl fs js)(hi:PI X tg iter wi)(hg:∀C s₀ H₀ ex N9,PG (qq X scope cl (ts++fs) C s₀ H₀ ex N9) tg g)(ht:∀C s₀ H₀ ex N9,PT (qq X scope cl (ts++fs) C s₀ H₀ ex N9) c t)(he:∀C s₀ H₀ ex N9,PE (qq X scope cl (ts++fs) C s₀ H₀ ex N9) elt te)(hs:autoParam ↑5 aI._auto_1)(Rf:autoParam (swapsWith (.ListComp elt [⟨tg,iter,[c],0⟩] scope pos) (some (.Name y py)) Px.line X.env=pure true) aR._auto_1)(hf:autoParam (X.fn y=true\/X.env.scope.names.lookup y=some .local) aF._auto_1):PS X (.Assign [.Name y py] (.ListComp elt [⟨tg,iter,[c],0⟩] scope pos) Px) (Iu (Dz wi g t te ts js) (aE i)):=by
 intro N9 s σ H D I h;rw[ZC _ _ _ _ Rf];refine Rz (Yw (Rz ?_));show wpAny _ X.A (do let _ <- comprehension (.ListComp elt [⟨tg,iter,[c],0⟩] scope pos) scope X.env _ (newList []) false (eval iter X.env) (some (assign (.Name y py) X.env))) _ _ s;refine Rz (Vc (pX (ifs:=[c]) (tt:=some t) Ow OB hk nc lo fh ag fr hi hg ht he hs I (show yh wi g (some t) te ts js σ H (λx H1=>D.nx (σ.set i (some x)) H1) from h) (some (assign (.Name y py) X.env)) (λ_ s'=>SP X N9 D .next s') λDd H' s' C Io q hm f=>?_) (λ_ s' hq=>SA (SA hq)) λ_ _ e=>e);show wpAny _ X.A (assign (.Name y py) X.env (.ref Dd)) _ _ s';refine Yo (mC Io hN Rw hy (v:=.ref Dd) rfl (λSs I'' ⟨a,sb,ha⟩=>?_) hf);obtain⟨m,hn⟩:=hm;obtain⟨f0,f1,f2,f3,f4,f5⟩:=f;have naC:a≠C:=by
  rcases ha with z|z
  .rw[z];exact λw=>f1 w.symm
  .exact f4 y a z
 refine⟨m,hn.sameBut sb (UN naC),λh' Qa=>?_⟩;exact⟨_,H',I''.other ⟨f0,f1,f2,f3,f4,f5⟩ Qa,q⟩
section
variable{tg elt iter c:Expr}{cl:List (Str×Addr)}{pos:Pos}{g:TG}{set:PV->af->M af}{u:af->M Bool}{fs:List Str}
variable{E:XK}{py Px:Pos}
def AB(Ow:X.calm=true)(OB:closureFor scope X.env=pure cl)(hk:scope.kind=.function)(nc:fL scope.names=true)(lo:g_ scope.names=true)(fh:gS cl scope.names=true)(ag:eI X cl)(fr:iR X scope cl fs js)(hi:PI X tg iter wi)(hv:x_ (λ_=>E) wi it)(hg:∀C s₀ H₀ ex N9,PG (qq X scope cl (ts++fs) C s₀ H₀ ex N9) tg g)(QY:∀E,DL E g set)(so:nB set)(ht:∀C s₀ H₀ ex N9,PT (qq X scope cl (ts++fs) C s₀ H₀ ex N9) c (tT EF u))(he:∀C s₀ H₀ ex N9,PE (qq X scope cl (ts++fs) C s₀ H₀ ex N9) elt (tE EF f))(hN:X.N.Nodup)(Rw:X.N[i]?=some y)(hy:Loc X.env.scope y)(hs:autoParam ↑5 aI._auto_1)(Rf:autoParam (swapsWith (.ListComp elt [⟨tg,iter,[c],0⟩] scope pos) (some (.Name y py)) Px.line X.env=pure true) aR._auto_1)(hf:autoParam (X.fn y=true\/X.env.scope.names.lookup y=some .local) aF._auto_1):PS X (.Assign [.Name y py] (.ListComp elt [⟨tg,iter,[c],0⟩] scope pos) Px) (tS E (a_ i (cH (cq it set (some u) f ts.length js)))):=by
 refine(AE hN Rw hy Ow OB hk nc lo fh ag fr hi hg ht he hs Rf hf).imp λD σ H q=>?_;refine BK hv QY so ?_;obtain⟨B,H₀,Hs,env,sr,q⟩:=q;refine⟨B,H₀,Hs,env,sr,(aq.bind (aq.bind q)).imp (λps hp vs p Oe H' g r n=>?_) λe he=>he.grow sr.gr⟩;have gn:=aW.new (o:=.lst vs) g.sub n;exact hp _ _ _ ((sr.grow (g.trans gn)).set (.lst ay (r.mono gn.st)))
end
section
variable{o:Expr}{apos Oy:Pos}
end
section
open PySem.SeqAt (shaped)
end
end L2
local macro_rules|`(tactic| walk_at "u1")=>`(tactic| unfold $(Lean.mkIdent (Lean.mkPrivateNameCore `PySem.Builtin.List.W1All `PySem.Builtin.gallop)):ident)
namespace Srt
open PySem PyProof.Rows
def ky(κ:KeyKind)(p:Keyed):κ.α:=(κ.keyOf p.1).getD κ.dflt
def kG(κ:KeyKind)(p:Keyed):Prop:=∃a,κ.keyOf p.1=some a
def le(κ:KeyKind)(p q:Keyed):Prop:=κ.kle (ky κ p) (ky κ q)
structure kS (prog:Program) (w:World) (A:Around) (s:Shared) (κ:KeyKind) (k:SortKind):Prop where
 lt:∀(E:Value->Shared->Prop)(x y:Value)(a b:κ.α){Q:Bool->Shared->Prop},κ.keyOf x=some a->κ.keyOf y=some b->Q (κ.blt a b) s->wpAny ↑11 A (keyLt' k x y) Q E s
def KP:Bool->Keyed->Array Keyed->Nat->Nat->Nat->StateT SortSt Sem (Option Nat):=sortPriv% PySem.Builtin.gallop
variable{Q:Option Bool->SortSt->Prop}
variable{arr:Array Keyed}
section
variable{prog:Program}{w:World}{A:Around}{E:Value->Shared->Prop}{s:Shared}{κ:KeyKind}{k:SortKind}
def u9(hA:kS prog w A s κ k){st:SortSt}{x y:Keyed}(hk:kindOf st=k)(hx:kG κ x)(hy:kG κ y)(h:Q (some (κ.blt (ky κ x) (ky κ y))) st):wpS ↑11 A E s (lt' x y) Q st:=by
 obtain⟨a,ha⟩:=hx;obtain⟨b,hb⟩:=hy;rw[lt'_eq];refine SM (XU ?_);rw[hk];refine SM (YG (Vj (hA.lt _ _ _ a b ha hb ⟨rfl,?_⟩)));simp only[ky,ha,hb,Xn] at h;exact SY h
def bw{st:SortSt}{i:Nat}{p:Keyed}{Q:Keyed->SortSt->Prop}(hi:arr[i]?=some p)(h:Q p st):wpS ↑11 A E s (elem' arr i) Q st:=by
 rw[elem'_eq,hi];exact SY h
def FR(hA:kS prog w A s κ k){st:SortSt}{i j:Nat}{x y:Keyed}(hk:kindOf st=k)(hi:(arrOf st)[i]?=some x)(hj:(arrOf st)[j]?=some y)(hx:kG κ x)(hy:kG κ y)(h:Q (some (κ.blt (ky κ x) (ky κ y))) st):wpS ↑11 A E s (ltAt' i j) Q st:=by
 rw[ltAt'_eq];refine SM (XU ?_);refine SM (bw hi (SM (bw hj ?_)));exact u9 hA hk hx hy h
theorem G7(hA:kS prog w A s κ k){left:Bool}{key:Keyed}{base n hint:Nat}{st:SortSt}{Q:Option Nat->SortSt->Prop}(hk:kindOf st=k)(PN:kG κ key)(hb:base+n<=arr.size)(PX:∀p∈arr.toList,kG κ p)(hh:hint<n)(Pk:Nat->Bool)(hbey:∀i p,i<n->arr[base+i]?=some p->Pk i=if left then κ.blt (ky κ p) (ky κ key) else !κ.blt (ky κ key) (ky κ p))(mono:∀i j,i<=j->j<n->Pk j=true->Pk i=true)(h:∀m,m<=n->(∀i,i<m->Pk i=true)->(∀i,m<=i->i<n->Pk i=false)->Q (some m) st):wpS ↑11 A E s (KP left key arr base n hint) Q st:=by
 have B:∀i,i<n->∀{Q':Option Bool->SortSt->Prop},Q' (some (Pk i)) st ->
   wpS ↑11 A E s (do let x <- elem' arr (base+i);if left=true then lt' x key else do let r <- lt' key x;pure (Option.map (λx=>!x) r)) Q' st:=by
  intro i hi Q' hq;have hs:base+i<arr.size:=by lia
  have e:arr[base+i]?=some arr[base+i]:=getElem?_pos arr _ hs;have hp:kG κ arr[base+i]:=PX _ ↑13;refine SM (bw e ?_);have hv:=hbey i _ hi e;cases left
  .simp only[T5,if_false] at hv ⊢;refine SM (u9 hA hk PN hp (SY ?_));rwa[hv] at hq
  .simp only[if_true] at hv ⊢;refine u9 hA hk hp PN ?_;rwa[hv] at hq
 have QU:∀i j,i<=j->j<n->Pk i=false->Pk j=false:=by
  intro i j hij hj hi;cases hbj:Pk j
  .rfl
  .rw[mono i j hij hj hbj] at hi;exact hi
 unfold KP;walk_at "u1";refine SM (B hint hh ?_);dsimp only;cases hbh:Pk hint
 case' false =>
  rw[if_neg ↑13];refine SM (VJ (Vk (I:=λx c Oc=>Oc=st/\∃l o,c=(none,l,o)/\l<o/\x+1<=o/\l<=hint/\Pk (hint-l)=false)
   (Q:=λc Oc=>Oc=st/\∃l o,c=(none,l,o)/\l<o/\l<=hint/\Pk (hint-l)=false/\(o<=hint->Pk (hint-o)=true)) ?s1 ?f1 ⟨rfl,0,1,rfl,by lia,by lia,by lia,hbh⟩) ?p1)
  case f1 =>
   rintro c Oc ⟨rfl,l,o,rfl,h1,h2,h3,h4⟩;exact⟨rfl,l,o,rfl,h1,h3,h4,λh=>absurd h ⋯⟩
  case s1 =>
   rintro x c Oc _ hx ⟨rfl,l,o,rfl,h1,h2,h3,h4⟩;dsimp only
   split
   .exact SY ⟨rfl,l,o,rfl,h1,h3,h4,λh=>absurd h ⋯⟩
   .refine SM (B (hint-o) ⋯ ?_);dsimp only;cases Q0:Pk (hint-o)
    .exact SY ⟨rfl,o,2*o+1,rfl,by lia,by lia,by lia,Q0⟩
    .exact SY ⟨rfl,l,o,rfl,h1,h3,h4,λ_=>Q0⟩
  rintro c Oc ⟨rfl,l,o,rfl,h1,h3,h4,h5⟩;dsimp only;have a1:hint+1-min o (hint+1)<=hint-l:=by lia
  have a2:hint-l<=n:=by lia
  have a3:∀i,i<hint+1-min o (hint+1)->Pk i=true:=λi hi=>mono i (hint-o) ⋯ ⋯ (h5 ⋯);have a4:∀i,hint-l<=i->i<n->Pk i=false:=λi hi hn=>QU _ _ hi hn h4;generalize hint+1-min o (hint+1)=lo at a1 a3 ⊢;generalize hint-l=hi at a1 a2 a4 ⊢;clear h1 h3 h4 h5
 case' true =>
  rw[if_pos rfl];refine SM (VJ (Vk (I:=λx c Oc=>Oc=st/\∃l o,c=(none,l,o)/\l<o/\x+1<=o/\hint+l<n/\Pk (hint+l)=true)
   (Q:=λc Oc=>Oc=st/\∃l o,c=(none,l,o)/\l<o/\hint+l<n/\Pk (hint+l)=true/\(hint+o<n->Pk (hint+o)=false)) ?s1 ?f1 ⟨rfl,0,1,rfl,by lia,by lia,by lia,hbh⟩) ?p1)
  case f1 =>
   rintro c Oc ⟨rfl,l,o,rfl,h1,h2,h3,h4⟩;exact⟨rfl,l,o,rfl,h1,h3,h4,λh=>absurd h ⋯⟩
  case s1 =>
   rintro x c Oc _ hx ⟨rfl,l,o,rfl,h1,h2,h3,h4⟩;dsimp only
   split
   .exact SY ⟨rfl,l,o,rfl,h1,h3,h4,λh=>absurd h ⋯⟩
   .refine SM (B (hint+o) ⋯ ?_);dsimp only;cases Q0:Pk (hint+o)
    .exact SY ⟨rfl,l,o,rfl,h1,h3,h4,λ_=>Q0⟩
    .exact SY ⟨rfl,o,2*o+1,rfl,by lia,by lia,by lia,Q0⟩
  rintro c Oc ⟨rfl,l,o,rfl,h1,h3,h4,h5⟩;dsimp only;have a1:hint+l+1<=hint+min o (n-hint):=by lia
  have a2:hint+min o (n-hint)<=n:=by lia
  have a3:∀i,i<hint+l+1->Pk i=true:=λi hi=>mono i (hint+l) ⋯ ⋯ h4;have a4:∀i,hint+min o (n-hint)<=i->i<n->Pk i=false:=λi hi hn=>QU (hint+o) _ ⋯ hn (h5 ⋯);generalize hint+l+1=lo at a1 a3 ⊢;generalize hint+min o (n-hint)=hi at a1 a2 a4 ⊢;clear h1 h3 h4 h5
 all_goals
  refine SM (VJ (Vk (I:=λx c P4=>P4=Oc/\∃a b,c=(none,a,b)/\a<=b/\b<=n/\b-a<=n-x/\(∀i,i<a->Pk i=true)/\(∀i,b<=i->i<n->Pk i=false))
   (Q:=λc P4=>P4=Oc/\∃b,c=(none,b,b)/\b<=n/\(∀i,i<b->Pk i=true)/\(∀i,b<=i->i<n->Pk i=false)) ?s2 ?f2 ⟨rfl,lo,hi,rfl,a1,a2,by lia,a3,a4⟩) ?p2)
  case f2 =>
   rintro c P4 ⟨rfl,a,b,rfl,h1,h2,h3,h4,h5⟩;have:a=b:=by lia
   subst this;exact⟨rfl,a,rfl,h2,h4,h5⟩
  case s2 =>
   rintro x c P4 _ hx ⟨rfl,a,b,rfl,h1,h2,h3,h4,h5⟩;dsimp only
   split
   .have:a=b:=by lia
    subst this;exact SY ⟨rfl,a,rfl,h2,h4,h5⟩
   .refine SM (B (a+(b-a)/2) ⋯ ?_);dsimp only;cases Q0:Pk (a+(b-a)/2)
    .exact SY ⟨rfl,a,a+(b-a)/2,rfl,by lia,by lia,by lia,h4,λi h1 h2=>QU _ _ h1 h2 Q0⟩
    .exact SY ⟨rfl,a+(b-a)/2+1,b,rfl,by lia,by lia,by lia,λi h1=>mono _ (a+(b-a)/2) ⋯ ⋯ Q0,h5⟩
  case p2 =>
   rintro c P4 ⟨rfl,b,rfl,h2,h4,h5⟩;exact SY (h b h2 h4 h5)
end
end Srt
namespace Srt
open PySem PyProof.Rows
def le_refl{κ:KeyKind}(x:Keyed):le κ x x:=UU _
def le_trans{κ:KeyKind}{x y z:Keyed}(h:le κ x y)(h':le κ y z):le κ x z:=WG h h'
def lt(κ:KeyKind)(p q:Keyed):Prop:=κ.blt (ky κ p) (ky κ q)=true
theorem lt.le{κ:KeyKind}{x y:Keyed}(h:lt κ x y):le κ x y:=Wx h
def SI(κ:KeyKind)(a:Array Keyed)(lo hi:Nat):Prop:=∀i j x y,lo<=i->i<=j->j<hi->a[i]?=some x->a[j]?=some y->le κ x y
variable{i:Nat}
def cz{a:Array Keyed}{j:Nat}{y:Keyed}:y∈(a.extract i j).toList ↔ ∃m,i<=m/\m<j/\a[m]?=some y:=by
 rw[ZF];constructor
 .rintro⟨m,hm⟩;rw[Tu,Uv] at hm
  split at hm
  .exact⟨i+m,by lia,by lia,hm⟩
  .exact absurd hm ↑13
 .rintro⟨m,h1,h2,h3⟩;have hs:m<a.size:=by
   rcases TU m a.size with h|h
   .exact h
   .rw[UI h] at h3;exact absurd h3 ↑13
  refine⟨m-i,?_⟩;rwa[Tu,Uv,if_pos ⋯,show i+(m-i)=m by lia]
def SI.pw{κ:KeyKind}{a:Array Keyed}{lo hi j:Nat}(h:SI κ a lo hi)(Qc:lo<=i)(hj:j<=hi):(a.extract i j).toList.Pairwise (le κ):=by
 rw[Yk];intro m n hm hn hmn;have e1:(a.extract i j).toList[m]?=some (a.extract i j).toList[m]:=getElem?_pos (a.extract i j).toList _ hm;have e2:(a.extract i j).toList[n]?=some (a.extract i j).toList[n]:=getElem?_pos (a.extract i j).toList _ hn;rw[Tu,Uv] at e1 e2
 split at e1
 .split at e2
  .exact h (i+m) (i+n) _ _ ⋯ ⋯ ⋯ e1 e2
  .exact absurd e2 ↑13
 .exact absurd e1 ↑13
def lu(a:Array Keyed){j k:Nat}(h1:i<=j)(h2:j<=k):(a.extract i k).toList=(a.extract i j).toList++(a.extract j k).toList:=by
 rw[<- T7,Array.extract_append_extract,Nat.min_eq_left h1,aaN h2]
def Cg{a:Array Keyed}{x:Keyed}(h:a[i]?=some x):(a.extract i (i+1)).toList=[x]:=by
 have hs:i<a.size:=by
  rcases TU i a.size with h'|h'
  .exact h'
  .rw[UI h'] at h;exact absurd h ↑13
 apply W9;intro m;rw[Tu,Uv];cases m with
 | zero=>rw[if_pos ⋯];simpa using h
 |succ m=>rw[if_neg ⋯];rfl
variable{b:Bool}
def nt(h:(!b)=true):b=false:=by simpa using h
def nf(h:(!b)=false):b=true:=by simpa using h
def tn(h:b=false):(!b)=true:=by simpa using h
structure MI (R:Keyed->Keyed->Prop) (QB A B out:List Keyed):Prop where
 perm:(out++(A++B)).Perm QB
 LQ:out.Pairwise R
 low:∀x∈out,∀y∈A++B,R x y
variable{R:Keyed->Keyed->Prop}{QB A B A1 A2 out:List Keyed}
def MI.sw(h:MI R QB A B out):MI R QB B A out :=
 ⟨(Ws _ VO).trans h.perm,h.LQ,λx hx y hy=>h.low x hx y (by rw[TR] at hy ⊢;exact hy.symm)⟩
def MI.tp{Su:List Keyed}(h:MI R QB A B out)(p:QB.Perm Su):MI R Su A B out:=⟨h.perm.trans p,h.LQ,h.low⟩
def MI.a(h:MI R QB A B out)(e:A.Perm (A1++A2))(h1:A1.Pairwise R)(h2:∀x∈A1,∀y∈A2,R x y)(h3:∀x∈A1,∀y∈B,R x y):MI R QB A2 B (out++A1):=by
 have hm:∀y,y∈A ↔ y∈A1\/y∈A2:=λy=>by rw[e.mem_iff,TR]
 refine⟨?_,?_,?_⟩
 .refine List.Perm.trans ?_ h.perm;rw[Ux];refine Ws _ ?_;rw[<- Ux];exact W_ _ e.symm
 .rw[U1];exact⟨h.LQ,h1,λx hx y hy=>h.low x hx y (TR.mpr (.inl ((hm y).mpr (.inl hy))))⟩
 .intro x hx y hy;rw[TR] at hx hy;rcases hx with hx|hx
  .refine h.low x hx y (TR.mpr ?_);rcases hy with hy|hy
   .exact .inl ((hm y).mpr (.inr hy))
   .exact .inr hy
  .rcases hy with hy|hy
   .exact h2 x hx y hy
   .exact h3 x hx y hy
def MI.fin(h:MI R QB A B out)(hs:(A++B).Pairwise R):(out++(A++B)).Pairwise R/\(out++(A++B)).Perm QB :=
 ⟨U1.mpr ⟨h.LQ,hs,h.low⟩,h.perm⟩
variable{arr:Array Keyed}
variable{Q:Option Nat->SortSt->Prop}
section
variable{prog:Program}{w:World}{A:Around}{E:Value->Shared->Prop}{s:Shared}{κ:KeyKind}{k:SortKind}
def LY(h:i<arr.size):arr[i]?=some arr[i]!:=by
 rw[getElem!_pos arr i h];exact getElem?_pos arr i h
theorem Dq(hA:kS prog w A s κ k){left:Bool}{key:Keyed}{base n hint:Nat}{st:SortSt}(hk:kindOf st=k)(PN:kG κ key)(hb:base+n<=arr.size)(PX:∀p∈arr.toList,kG κ p)(hh:hint<n)(f:Keyed->Bool)(hf:∀p,f p=if left then κ.blt (ky κ p) (ky κ key) else !κ.blt (ky κ key) (ky κ p))(mono:∀x y,le κ x y->f y=true->f x=true)(hs:SI κ arr base (base+n))(h:∀m,m<=n->(∀i y,base<=i->i<base+m->arr[i]?=some y->f y=true)->(∀i y,base+m<=i->i<base+n->arr[i]?=some y->f y=false)->Q (some m) st):wpS ↑11 A E s (KP left key arr base n hint) Q st:=by
 have g:∀i y,base<=i->i<base+n->arr[i]?=some y->f arr[base+(i-base)]! =f y:=λi y h1 h2 e=>by
  rw[show base+(i-base)=i by lia,LY ⋯] at *;cases e;rfl
 refine G7 hA hk PN hb PX hh (λi=>f arr[base+i]!) (λi p hi hp=>?_) (λi j hij hj=>mono _ _ (hs (base+i) (base+j) _ _ ⋯ ⋯ ⋯ (LY ⋯) (LY ⋯))) λm hm h1 h2=>h m hm (λi y i1 i2 e=>?_) λi y i1 i2 e=>?_
 .rw[LY ⋯] at hp;cases hp;exact hf _
 .rw[<- g i y i1 ⋯ e];exact h1 _ ⋯
 .rw[<- g i y ⋯ i2 e];exact h2 _ ⋯ ⋯
def sQ(hA:kS prog w A s κ k){key:Keyed}{base n hint:Nat}{st:SortSt}(hk:kindOf st=k)(PN:kG κ key)(hb:base+n<=arr.size)(PX:∀p∈arr.toList,kG κ p)(hh:hint<n)(hs:SI κ arr base (base+n))(h:∀m,m<=n->(∀i y,base<=i->i<base+m->arr[i]?=some y->le κ y key)->(∀i y,base+m<=i->i<base+n->arr[i]?=some y->lt κ key y)->Q (some m) st):wpS ↑11 A E s (KP false key arr base n hint) Q st :=
 Dq hA hk PN hb PX hh (λp=>!κ.blt (ky κ key) (ky κ p)) (λ_=>rfl) (λ_ _ h1 h2=>tn (le_trans h1 (nt h2))) hs λm hm h1 h2=>h m hm (λi y a b c=>nt (h1 i y a b c)) λi y a b c=>nf (h2 i y a b c)
def t9(hA:kS prog w A s κ k){key:Keyed}{base n hint:Nat}{st:SortSt}(hk:kindOf st=k)(PN:kG κ key)(hb:base+n<=arr.size)(PX:∀p∈arr.toList,kG κ p)(hh:hint<n)(hs:SI κ arr base (base+n))(h:∀m,m<=n->(∀i y,base<=i->i<base+m->arr[i]?=some y->lt κ y key)->(∀i y,base+m<=i->i<base+n->arr[i]?=some y->le κ key y)->Q (some m) st):wpS ↑11 A E s (KP true key arr base n hint) Q st :=
 Dq hA hk PN hb PX hh (λp=>κ.blt (ky κ p) (ky κ key)) (λ_=>rfl) (λ_ _ h1 h2=>KeyOrd.klt_of_kle_of_klt h1 h2) hs h
end
end Srt
local macro_rules|`(tactic| walk_at "u2")=>`(tactic| unfold $(Lean.mkIdent (Lean.mkPrivateNameCore `PySem.Builtin.List.W1All `PySem.Builtin.mergeLo)):ident)
namespace Srt
open PySem PyProof.Rows
def Np:Array Keyed->Array Keyed->StateT SortSt Sem (Array Keyed):=sortPriv% PySem.Builtin.mergeLo
def KJ:Nat->StateT SortSt Sem Unit:=sortPriv% PySem.Builtin.setMinGallop
structure lC (st Oc:SortSt):Prop where
 kind:kindOf Oc=kindOf st
 arr:arrOf Oc=arrOf st
 pend:pendingOf Oc=pendingOf st
 fail:failedOf Oc=failedOf st
def lC.rfl{st:SortSt}:lC st st:=⟨.refl _,.refl _,.refl _,.refl _⟩
def Good(κ:KeyKind)(a b r:Array Keyed):Prop:=r.toList.Pairwise (le κ)/\r.toList.Perm (a.toList++b.toList)
def LI(κ:KeyKind)(a b out:Array Keyed)(ia ib:Nat):Prop:=MI (le κ) (a.toList++b.toList) (a.extract ia a.size).toList (b.extract ib b.size).toList out.toList
variable{x:Keyed}{i:Nat}
section
variable{κ:KeyKind}{a b out:Array Keyed}{ia ib m:Nat}
theorem SI.mono{lo hi lo' Qc:Nat}(h:SI κ a lo hi)(h1:lo<=lo')(h2:Qc<=hi):SI κ a lo' Qc:=λi j x y a1 a2 a3=>h i j x y ⋯ a2 ⋯
def fH(h:a[i]?=some x):i<a.size:=by
 rcases TU i a.size with h'|h'
 .exact h'
 .rw[UI h'] at h;exact absurd h ↑13
theorem BN(o:Array Keyed)(i:Nat):o++a.extract i i=o:=by
 have:a.extract i i=#[]:=Xp (by rw[UB];lia);rw[this,aai]
def LI.nil:LI κ a b #[] 0 0:=⟨by simp,by simp,by simp⟩
theorem LI.ga(sa:SI κ a 0 a.size)(h:LI κ a b out ia ib)(hk:ia+m<=a.size)(h3:∀i x,ia<=i->i<ia+m->a[i]?=some x->∀j y,ib<=j->b[j]?=some y->le κ x y):LI κ a b (out++a.extract ia (ia+m)) (ia+m) ib:=by
 have:=MI.a h (A1:=(a.extract ia (ia+m)).toList) (A2:=(a.extract (ia+m) a.size).toList) (by rw[lu a (UH ia m) hk]) (sa.pw ⋯ hk)
  (λx hx y hy=>by
   obtain⟨i,i1,i2,i3⟩:=cz.mp hx;obtain⟨j,j1,j2,j3⟩:=cz.mp hy;exact sa i j x y ⋯ ⋯ j2 i3 j3)
  (λx hx y hy=>by
   obtain⟨i,i1,i2,i3⟩:=cz.mp hx;obtain⟨j,j1,j2,j3⟩:=cz.mp hy;exact h3 i x i1 i2 i3 j y j1 j3)
 unfold LI;rw[T7];exact this
theorem LI.sw(h:LI κ a b out ia ib):LI κ b a out ib ia:=(MI.sw h).tp VO
def LI.gb(sb:SI κ b 0 b.size)(h:LI κ a b out ia ib)(hk:ib+m<=b.size)(h3:∀i x,ib<=i->i<ib+m->b[i]?=some x->∀j y,ia<=j->a[j]?=some y->le κ x y):LI κ a b (out++b.extract ib (ib+m)) ia (ib+m):=(h.sw.ga sb hk h3).sw
def F0(e:a[i]?=some x):out.push x=out++a.extract i (i+1):=by
 apply aaO.mp;rw[Yr,T7,Cg e]
theorem LI.pa(sa:SI κ a 0 a.size)(h:LI κ a b out ia ib)(e:a[ia]?=some x)(h3:∀j y,ib<=j->b[j]?=some y->le κ x y):LI κ a b (out.push x) (ia+1) ib:=by
 rw[F0 e];exact h.ga sa (fH e) λi z h1 h2 h4=>by have:i=ia:=⋯;subst this;rw[e] at h4;cases h4;exact h3
def LI.pb(sb:SI κ b 0 b.size)(h:LI κ a b out ia ib)(e:b[ib]?=some x)(h3:∀j y,ia<=j->a[j]?=some y->le κ x y):LI κ a b (out.push x) ia (ib+1):=(h.sw.pa sb e h3).sw
theorem LI.dn(sa:SI κ a 0 a.size)(h:LI κ a b out ia ib)(e:ib=b.size):Good κ a b (out++a.extract ia a.size++b.extract ib b.size):=by
 have z:(b.extract ib b.size).toList=[]:=by
  rw[Wc];intro y hy;obtain⟨j,j1,j2,j3⟩:=cz.mp hy;lia
 have:=MI.fin h (by rw[z,UC];exact sa.pw (SX _) ⋯);unfold Good;rw[T7,T7,Ux];exact this
theorem LI.la(sa:SI κ a 0 a.size)(sb:SI κ b 0 b.size)(top:∀(i j:Nat)(x y:Keyed),i+1=a.size->a[i]?=some x->b[j]?=some y->lt κ y x)(h:LI κ a b out ia ib)(e:ia+1=a.size):Good κ a b (out++b.extract ib b.size++a.extract ia a.size):=by
 have:=MI.fin (MI.sw h) (U1.mpr ⟨sb.pw (SX _) ⋯,sa.pw (SX _) ⋯,λx hx y hy=>by
   obtain⟨i,i1,i2,i3⟩:=cz.mp hx;obtain⟨j,j1,j2,j3⟩:=cz.mp hy;have:j=ia:=by lia
   subst this;exact(top j i y x e j3 i3).le⟩)
 unfold Good;rw[T7,T7,Ux];exact this
end
variable{α:Type}{c:Prop}
variable{β:Type}
variable{γ:Type}
section
variable{prog:Program}{w:World}{A:Around}{E:Value->Shared->Prop}{s:Shared}{κ:KeyKind}{k:SortKind}
def uo{g:Nat}{st0 st:SortSt}{Q:Unit->SortSt->Prop}(hK:lC st0 st)(h:∀Oc,lC st0 Oc->Q () Oc):wpS ↑11 A E s (KJ g) Q st:=by
 unfold KJ;exact Xq (h _ ⟨hK.kind,hK.arr,hK.pend,hK.fail⟩)
def dm[Decidable c]{t e:StateT SortSt Sem α}{Q:α->SortSt->Prop}{st:SortSt}(h1:c->wpS ↑11 A E s t Q st)(h2:¬ c->wpS ↑11 A E s e Q st):wpS ↑11 A E s (if c then t else e) Q st:=by
 split
 .exact h1 ‹_›
 .exact h2 ‹_›
def eC{x y:Nat}{t e:StateT SortSt Sem α}{Q:α->SortSt->Prop}{st:SortSt}(h1:x=y->wpS ↑11 A E s t Q st)(h2:x≠y->wpS ↑11 A E s e Q st):wpS ↑11 A E s (if (x==y)=true then t else e) Q st :=
 dm (λh=>h1 (eq_of_beq h)) λh=>h2 λe=>h (beq_iff_eq.mpr e)
def Gh[Decidable c]{x y:Nat}{jp:Unit->Nat->StateT SortSt Sem α}{Q:α->SortSt->Prop}{st:SortSt}(h:∀g,wpS ↑11 A E s (jp () g) Q st):wpS ↑11 A E s (if c then jp () x else jp () y) Q st :=
 dm (λ_=>h _) λ_=>h _
def el{a:Array Keyed}(ha:∀p∈a.toList,kG κ p)(hi:i<a.size):∃x,a[i]?=some x/\kG κ x :=
 ⟨a[i],getElem?_pos a i hi,ha _ ↑13⟩
def J4(I Q:β->SortSt->Prop):ForInStep β->SortSt->Prop
 | .done b,st=>Q b st
 |.yield b,st=>I b st
def mQ{n:Nat}{f:Nat->β->StateT SortSt Sem (ForInStep β)}(I:Nat->β->SortSt->Prop){Q:β->SortSt->Prop}{c:β}{st:SortSt}(h:I 0 c st)(Sb:∀i c st,i<n->I i c st->wpS ↑11 A E s (f i c) (J4 (I (i+1)) Q) st)(Pl:∀c st,I n c st->Q c st):wpS ↑11 A E s (forIn [:n] c f) Q st :=
 Vk I (λi c st _ h1 h2=>VJ (Sb i c st h1 h2) λr _ h=>by cases r<;>exact h) (λc st h=>Pl c st (by rwa [aaN (SX _)] at h)) h
def Im(st:SortSt)(J:γ->Prop):Option (Array Keyed)×γ->SortSt->Prop:=λc Oc=>lC st Oc/\c.1=none/\J c.2
def Qm(st:SortSt)(G:Array Keyed->Prop)(J:γ->Prop):Option (Array Keyed)×γ->SortSt->Prop:=λc Oc=>lC st Oc/\((∃r,c.1=some r/\G r)\/c.1=none/\J c.2)
def LJ(κ:KeyKind)(a b:Array Keyed)(x:Nat)(out:Array Keyed)(ia ib:Nat):Prop:=LI κ a b out ia ib/\ib<b.size/\ia+1<a.size/\x<=ia+ib
def LJ.mono{κ:KeyKind}{a b out:Array Keyed}{x x' ia ib:Nat}(h:LJ κ a b x out ia ib)(hx:x'<=x):LJ κ a b x' out ia ib:=⟨h.1,h.2.1,h.2.2.1,Ug hx h.2.2.2⟩
set_option maxHeartbeats 2000000 in
theorem ID(hA:kS prog w A s κ k){a b:Array Keyed}{st:SortSt}{Q:Array Keyed->SortSt->Prop}(hk:kindOf st=k)(ha:∀p∈a.toList,kG κ p)(hb:∀p∈b.toList,kG κ p)(sa:SI κ a 0 a.size)(sb:SI κ b 0 b.size)(n1:1<=a.size)(n2:1<=b.size)(hd:∀x y,a[0]?=some x->b[0]?=some y->lt κ y x)(top:∀(i j:Nat)(x y:Keyed),i+1=a.size->a[i]?=some x->b[j]?=some y->lt κ y x)(h:∀r Oc,lC st Oc->Good κ a b r->Q r Oc):wpS ↑11 A E s (Np a b) Q st:=by
 unfold Np;walk_at "u2";refine SM (YG (U9 ⟨rfl,?_⟩));obtain⟨y0,ey,hy0⟩:=el hb n2;obtain⟨x0,ex,hx0⟩:=el ha n1;refine SM (bw ey ?_);have L0:LI κ a b #[y0] 0 1:=LI.pb (out:=#[]) sb LI.nil ey λj y hj e=>le_trans (hd x0 y0 ex ey).le (sa 0 j _ _ ⋯ ⋯ (fH e) ex e);refine eC (λe=>SY (h _ _ lC.rfl (L0.dn sa e))) λe1=>eC (λe=>SY (h _ _ lC.rfl (L0.la sa sb top e))) λe2=>SM (XU ?_);refine SM (VJ (mQ (λx=>Im st λc=>LJ κ a b x c.1 c.2.1 c.2.2.1) (Q:=Qm st (Good κ a b) λ_=>False) ⟨lC.rfl,rfl,(show LJ κ a b 0 #[y0] 0 1 from ⟨L0,by lia,by lia,by lia⟩)⟩ ?_ ?_) ?_)
 .rintro x ⟨c,out,ia,ib,g⟩ Oc hx ⟨hK,rfl,hL⟩;have hL:LJ κ a b x out ia ib:=hL;refine SM (VJ (mQ (λy=>Im st λc=>LJ κ a b (x+y) c.1 c.2.1 c.2.2.1) (Q:=Qm st (Good κ a b) λc=>LJ κ a b (x+1) c.1 c.2.1 c.2.2.1) ⟨hK,rfl,hL⟩ ?_ ?_) ?_)
  .rintro y ⟨c,out,ia,ib,ac,bc⟩ Oc hy ⟨hK,rfl,hL⟩;obtain⟨hL,h1,h2,h3⟩:=(show LJ κ a b (x+y) out ia ib from hL)
   obtain⟨xb,eb,RD⟩:=el hb h1;obtain⟨xa,ea,RC⟩:=el ha (show ia<a.size by lia);refine SM (bw eb (SM (bw ea (SM (u9 hA (hK.kind.trans hk) RD RC ?_)))));refine dm (λhw=>SM (bw eb ?_)) (λhw=>SM (bw ea ?_))
   .have L:=hL.pb sb eb λj y hj e=>le_trans (show lt κ xb xa from hw).le (sa ia j _ _ ⋯ hj (fH e) ea e);have hJ:ib+1≠b.size->LJ κ a b (x+y+1) (out.push xb) ia (ib+1):=λe=>⟨L,by lia,h2,by lia⟩
    exact eC (λe=>SY ⟨hK,.inl ⟨_,rfl,L.dn sa e⟩⟩) λe=>dm (λ_=>SY ⟨hK,.inr ⟨rfl,(hJ e).mono ⋯⟩⟩) λ_=>SY ⟨hK,rfl,hJ e⟩
   .have L:=hL.pa sa ea λj y hj e=>le_trans (VP hw) (sb ib j _ _ ⋯ hj (fH e) eb e);have hJ:ia+1+1≠a.size->LJ κ a b (x+y+1) (out.push xa) (ia+1) ib:=λe=>⟨L,h1,by lia,by lia⟩
    exact eC (λe=>SY ⟨hK,.inl ⟨_,rfl,L.la sa sb top e⟩⟩) λe=>dm (λ_=>SY ⟨hK,.inr ⟨rfl,(hJ e).mono ⋯⟩⟩) λ_=>SY ⟨hK,rfl,hJ e⟩
  .rintro c Oc ⟨hK,hc,hL⟩;exact⟨hK,.inr ⟨hc,hL.mono ⋯⟩⟩
  .rintro⟨c,out,ia,ib,ac,bc⟩ Oc ⟨hK,⟨r,rfl,hr⟩|⟨rfl,hL⟩⟩
   .exact SY ⟨hK,.inl ⟨r,rfl,hr⟩⟩
   refine SM (YG (U9 ⟨rfl,?_⟩));refine SM (VJ (mQ (λ_=>Im st λc=>LJ κ a b (x+1) c.1 c.2.1 c.2.2.1) (Q:=Qm st (Good κ a b) λc=>LJ κ a b (x+1) c.1 c.2.1 c.2.2.1) ⟨hK,rfl,hL⟩ ?_ λc Oc h=>⟨h.1,.inr h.2⟩) ?_)
   .rintro y ⟨c,out,ia,ib,g,ac,bc⟩ Oc hy ⟨hK,rfl,hL⟩;obtain⟨hL,h1,h2,h3⟩:=(show LJ κ a b (x+1) out ia ib from hL)
    obtain⟨xb,eb,RD⟩:=el hb h1
    extract_lets -underBinder s1 o1 s2 i1 s3 j1 s4 g1 s5 a1 b1 jp
    subst s1 o1 s2 i1 s3 j1 s4 g1 s5 a1 b1;refine Gh (jp:=jp) λg'=>SM (uo hK λOc hK=>?_);clear jp;refine SM (bw eb (SM (sQ hA (hK.kind.trans hk) RD (by show ia+(a.size-ia)<=_;lia) ha (by show 0<a.size-ia;lia) (sa.mono (SX _) (by show ia+(a.size-ia)<=_;lia)) λm hm Qd Qu=>?_)));have hm:m<=a.size-ia:=hm;have Qd:∀i y,ia<=i->i<ia+m->a[i]?=some y->le κ y xb:=Qd;have Qu:∀i y,ia+m<=i->i<ia+(a.size-ia)->a[i]?=some y->lt κ xb y:=Qu;have hm':ia+m<a.size:=by
     rcases TU (ia+m) a.size with h'|h'
     .exact h'
     .obtain⟨z,ez,_⟩:=el ha (show a.size-1<a.size by lia);exact absurd (top _ ib z xb ⋯ ez eb) (ZG (Qd _ z ⋯ ⋯ ez))
    have L1:=hL.ga sa (Vz hm') λi x i1 i2 i3 j y j1 j2=>le_trans (Qd i x i1 i2 i3) (sb ib j _ _ (SX _) j1 (fH j2) eb j2);have PY:∀i y,ia+m<=i->a[i]?=some y->le κ xb y:=λi y i1 i2=>(Qu i y i1 (by have:=fH i2;lia) i2).le;dsimp -zeta only
    extract_lets -underBinder c1 jp
    subst c1;have J:∀o i,LI κ a b o i ib->i+1<a.size->x+1<=i+ib->(∀j y,i<=j->a[j]?=some y->le κ xb y)->wpS ↑11 A E s (jp () o i) (J4 (Im st λc=>LJ κ a b (x+1) c.1 c.2.1 c.2.2.1) (Qm st (Good κ a b) λc=>LJ κ a b (x+1) c.1 c.2.1 c.2.2.1)) Oc:=by
     intro o i L1 h2 h3 PY;refine SM (bw eb ?_);clear jp;have L2:=L1.pb sb eb PY;refine eC (λe=>SY ⟨hK,.inl ⟨_,rfl,L2.dn sa e⟩⟩) λe=>?_;have e:ib+1≠b.size:=e;obtain⟨xa,ea,RC⟩:=el ha (Nat.lt_of_succ_lt h2);refine SM (bw ea (SM (t9 hA (hK.kind.trans hk) RC (by show ib+1+(b.size-(ib+1))<=_;lia) hb (by show 0<b.size-(ib+1);lia) (sb.mono (SX _) (by show ib+1+(b.size-(ib+1))<=_;lia)) λm hm Qd Qu=>?_)));have hm:m<=b.size-(ib+1):=hm;have Qd:∀i y,ib+1<=i->i<ib+1+m->b[i]?=some y->lt κ y xa:=Qd;have Qu:∀i y,ib+1+m<=i->i<ib+1+(b.size-(ib+1))->b[i]?=some y->le κ xa y:=Qu;have L3:=L2.gb sb (m:=m) ⋯ λi x i1 i2 i3 j y j1 j2=>le_trans (Qd i x i1 i2 i3).le (sa _ j _ _ (SX _) j1 (fH j2) ea j2);dsimp -zeta only
     extract_lets -underBinder c1 jp
     subst c1;have J:∀o j,LI κ a b o i j->j<b.size->x+1<=i+1+j->(∀l y,j<=l->b[l]?=some y->le κ xa y)->wpS ↑11 A E s (jp () o j) (J4 (Im st λc=>LJ κ a b (x+1) c.1 c.2.1 c.2.2.1) (Qm st (Good κ a b) λc=>LJ κ a b (x+1) c.1 c.2.1 c.2.2.1)) Oc:=by
      intro o j L3 h1 h3 PY;refine SM (bw ea ?_);have L4:=L3.pa sa ea PY;have hJ:i+1+1≠a.size->LJ κ a b (x+1) (o.push xa) (i+1) j:=λe=>⟨L4,h1,by lia,h3⟩
      exact eC (λe=>SY ⟨hK,.inl ⟨_,rfl,L4.la sa sb top e⟩⟩) λe=>dm (λ_=>SY ⟨hK,.inr ⟨rfl,hJ e⟩⟩) λ_=>SY ⟨hK,rfl,hJ e⟩
     have PY:∀l y,ib+1+m<=l->b[l]?=some y->le κ xa y:=λi y i1 i2=>Qu i y i1 (by have:=fH i2;lia) i2;refine dm (λP_=>eC (λe=>SY ⟨hK,.inl ⟨_,rfl,L3.dn sa e⟩⟩) λe=>J _ _ L3 (by have e:ib+1+m≠b.size:=e;show ib+1+m<_;lia) (by show _<=_+(ib+1+m);lia) PY) λP_=>?_;have P_:m=0:=Y5 P_;subst P_;rw[XX,BN] at L3;exact J _ _ L3 (by show ib+1<_;lia) (by show _<=_+(ib+1);lia) PY
    clear_value jp
    refine dm (λP_=>eC (λe=>SY ⟨hK,.inl ⟨_,rfl,L1.la sa sb top e⟩⟩) λe=>eC (λe=>absurd e (SW hm')) λ_=>J _ _ L1 (by have e:ia+m+1≠a.size:=e;show ia+m+1<_;lia) (by show _<=ia+m+ib;lia) PY) λP_=>?_;have P_:m=0:=Y5 P_;subst P_;rw[XX,BN] at L1;exact J _ _ L1 h2 h3 PY
   .rintro⟨c,out,ia,ib,g,ac,bc⟩ Oc ⟨hK,⟨r,rfl,hr⟩|⟨rfl,hL⟩⟩
    .exact SY ⟨hK,.inl ⟨r,rfl,hr⟩⟩
    .exact SM (uo hK λO8 hK=>SY ⟨hK,rfl,hL⟩)
 .rintro c Oc ⟨hK,_,hL,h1,h2,h3⟩;lia
 .rintro⟨c,t⟩ Oc ⟨hK,⟨r,rfl,hr⟩|⟨_,h⟩⟩
  .exact SY (h r Oc hK hr)
  .exact h.elim
end
end Srt
local macro_rules|`(tactic| walk_at "u3")=>`(tactic| unfold $(Lean.mkIdent (Lean.mkPrivateNameCore `PySem.Builtin.List.W1All `PySem.Builtin.mergeHi)):ident)
namespace Srt
open PySem PyProof.Rows
def Nk:Array Keyed->Array Keyed->StateT SortSt Sem (Array Keyed):=sortPriv% PySem.Builtin.mergeHi
def HI(κ:KeyKind)(a b out:Array Keyed)(na nb:Nat):Prop:=MI (λx y=>le κ y x) (a.toList++b.toList) (a.extract 0 na).toList (b.extract 0 nb).toList out.toList
variable{x:Keyed}
section
variable{κ:KeyKind}{a b out:Array Keyed}{na nb m:Nat}
def HI.nil:HI κ a b #[] a.size b.size:=⟨by simp,by simp,by simp⟩
theorem HI.ga(sa:SI κ a 0 a.size)(h:HI κ a b out na nb)(hm:m<=na)(hn:na<=a.size)(h3:∀i x,m<=i->i<na->a[i]?=some x->∀j y,j<nb->b[j]?=some y->le κ y x):HI κ a b (out++(a.extract m na).reverse) m nb:=by
 have:=MI.a h (A1:=(a.extract m na).toList.reverse) (A2:=(a.extract 0 m).toList)
  (by rw[lu a (SX m) hm];exact VO.trans (W_ _ (aay _).symm))
  (ZH.mpr (sa.pw (SX _) hn))
  (λx hx y hy=>by
   obtain⟨i,i1,i2,i3⟩:=cz.mp (YH.mp hx);obtain⟨j,j1,j2,j3⟩:=cz.mp hy;exact sa j i y x ⋯ ⋯ ⋯ j3 i3)
  (λx hx y hy=>by
   obtain⟨i,i1,i2,i3⟩:=cz.mp (YH.mp hx);obtain⟨j,j1,j2,j3⟩:=cz.mp hy;exact h3 i x i1 i2 i3 j y j2 j3)
 unfold HI;rw[T7,Wz];exact this
theorem HI.sw(h:HI κ a b out na nb):HI κ b a out nb na:=(MI.sw h).tp VO
def HI.gb(sb:SI κ b 0 b.size)(h:HI κ a b out na nb)(hm:m<=nb)(hn:nb<=b.size)(h3:∀i x,m<=i->i<nb->b[i]?=some x->∀j y,j<na->a[j]?=some y->le κ y x):HI κ a b (out++(b.extract m nb).reverse) na m:=(h.sw.ga sb hm hn h3).sw
def D_{i:Nat}(e:a[i]?=some x):out.push x=out++(a.extract i (i+1)).reverse:=by
 apply aaO.mp;rw[Yr,T7,Wz,Cg e];rfl
theorem HI.pa(sa:SI κ a 0 a.size)(h:HI κ a b out na nb)(hn:0<na)(e:a[na-1]?=some x)(h3:∀j y,j<nb->b[j]?=some y->le κ y x):HI κ a b (out.push x) (na-1) nb:=by
 rw[D_ e,show na-1+1=na by lia];have:=fH e;exact h.ga sa ⋯ ⋯ λi z h1 h2 h4=>by have:i=na-1:=⋯;subst this;rw[e] at h4;cases h4;exact h3
def HI.pb(sb:SI κ b 0 b.size)(h:HI κ a b out na nb)(hn:0<nb)(e:b[nb-1]?=some x)(h3:∀j y,j<na->a[j]?=some y->le κ y x):HI κ a b (out.push x) na (nb-1):=(h.sw.pa sb hn e h3).sw
def MI.Ke{R:Keyed->Keyed->Prop}{QB A B out:List Keyed}(h:MI (λx y=>R y x) QB A B out)(hs:(A++B).Pairwise R):(A++B++out.reverse).Pairwise R/\(A++B++out.reverse).Perm QB :=
 ⟨U1.mpr ⟨hs,ZH.mpr h.LQ,λx hx y hy=>h.low y (YH.mp hy) x hx⟩,
  (Ws _ (aay _)).trans (VO.trans h.perm)⟩
theorem HI.dn(sb:SI κ b 0 b.size)(h:HI κ a b out na nb)(e:na=0)(hb:nb<=b.size):Good κ a b (a.extract 0 na++b.extract 0 nb++out.reverse):=by
 have z:(a.extract 0 na).toList=[]:=by
  rw[Wc];intro y hy;obtain⟨j,j1,j2,j3⟩:=cz.mp hy;lia
 have:=MI.Ke h (by rw[z,Zr];exact sb.pw (SX _) hb);unfold Good;rw[T7,T7,Wz];exact this
theorem HI.fb(sa:SI κ a 0 a.size)(bot:∀(i:Nat)(x y:Keyed),a[i]?=some x->b[0]?=some y->lt κ y x)(h:HI κ a b out na nb)(e:nb=1)(hn:na<=a.size):Good κ a b (b.extract 0 nb++a.extract 0 na++out.reverse):=by
 have:=MI.Ke (MI.sw h) (U1.mpr ⟨by
   rw[List.pairwise_iff_forall_sublist];intro x y hxy;have:=hxy.length_le;rw[show (b.extract 0 nb).toList.length=(b.extract 0 nb).size from Tf,UB] at this;have:2<=min nb b.size-0:=this;lia,sa.pw (SX _) hn,λx hx y hy=>by
   obtain⟨i,i1,i2,i3⟩:=cz.mp hx;obtain⟨j,j1,j2,j3⟩:=cz.mp hy;have:i=0:=by lia
   subst this;exact(bot j y x j3 i3).le⟩)
 unfold Good;rw[T7,T7,Wz];exact this
theorem AO(o:Array Keyed)(i:Nat):o++(a.extract i i).reverse=o:=by
 have:a.extract i i=#[]:=Xp (by rw[UB];lia);rw[this,Array.reverse_empty,aai]
end
def HJ(κ:KeyKind)(a b:Array Keyed)(x na nb:Nat)(out:Array Keyed):Prop:=HI κ a b out na nb/\0<na/\na<=a.size/\1<nb/\nb<=b.size/\x+na+nb<=a.size+b.size
theorem HJ.mono{κ:KeyKind}{a b out:Array Keyed}{x x' na nb:Nat}(h:HJ κ a b x na nb out)(hx:x'<=x):HJ κ a b x' na nb out:=⟨h.1,h.2.1,h.2.2.1,h.2.2.2.1,h.2.2.2.2.1,by have:=h.2.2.2.2.2;lia⟩
section
variable{prog:Program}{w:World}{A:Around}{E:Value->Shared->Prop}{s:Shared}{κ:KeyKind}{k:SortKind}
set_option maxHeartbeats 2000000 in
theorem HA(hA:kS prog w A s κ k){a b:Array Keyed}{st:SortSt}{Q:Array Keyed->SortSt->Prop}(hk:kindOf st=k)(ha:∀p∈a.toList,kG κ p)(hb:∀p∈b.toList,kG κ p)(sa:SI κ a 0 a.size)(sb:SI κ b 0 b.size)(n1:1<=a.size)(n2:1<=b.size)(hd:∀x y,a[0]?=some x->b[0]?=some y->lt κ y x)(top:∀(i j:Nat)(x y:Keyed),i+1=a.size->a[i]?=some x->b[j]?=some y->lt κ y x)(h:∀r Oc,lC st Oc->Good κ a b r->Q r Oc):wpS ↑11 A E s (Nk a b) Q st:=by
 unfold Nk;walk_at "u3";refine SM (YG (U9 ⟨rfl,?_⟩));obtain⟨y0,ey,hy0⟩:=el hb n2;obtain⟨x0,ex,hx0⟩:=el ha n1;obtain⟨xl,exl,hxl⟩:=el ha (show a.size-1<a.size by lia);have bot:∀(i:Nat)(x y:Keyed),a[i]?=some x->b[0]?=some y->lt κ y x:=λi x y e1 e2=>by
  rw[ey] at e2;cases e2;exact Yy (hd x0 y0 ex ey) (sa 0 i _ _ ⋯ ⋯ (fH e1) ex e1)
 refine SM (bw exl ?_);have L0:HI κ a b #[xl] (a.size-1) b.size:=HI.pa (out:=#[]) sa HI.nil ⋯ exl λj y hj e=>(top _ j _ _ ⋯ exl e).le;refine eC (λe=>SY (h _ _ lC.rfl (L0.dn sb e (SE _)))) λe1=>eC (λe=>SY (h _ _ lC.rfl (L0.fb sa bot e (Nat.sub_le _ _)))) λe2=>SM (XU ?_);have e1:a.size-1≠0:=e1;refine SM (VJ (mQ (λx=>Im st λc=>HJ κ a b x c.1 c.2.1 c.2.2.1) (Q:=Qm st (Good κ a b) λ_=>False) ⟨lC.rfl,rfl,(show HJ κ a b 0 (a.size-1) b.size #[xl] from ⟨L0,by lia,by lia,by lia,by lia,by lia⟩)⟩ ?_ ?_) ?_)
 .rintro x ⟨c,na,nb,out,g⟩ Oc hx ⟨hK,rfl,hL⟩;refine SM (VJ (mQ (λy=>Im st λc=>HJ κ a b (x+y) c.1 c.2.1 c.2.2.1) (Q:=Qm st (Good κ a b) λc=>HJ κ a b (x+1) c.1 c.2.1 c.2.2.1) ⟨hK,rfl,hL⟩ ?_ ?_) ?_)
  .rintro y ⟨c,na,nb,out,ac,bc⟩ Oc hy ⟨hK,rfl,hL⟩;obtain⟨hL,h1,RV,h2,Rr,h3⟩:=(show HJ κ a b (x+y) na nb out from hL)
   obtain⟨xb,eb,RD⟩:=el hb (show nb-1<b.size by lia);obtain⟨xa,ea,RC⟩:=el ha (show na-1<a.size by lia);refine SM (bw eb (SM (bw ea (SM (u9 hA (hK.kind.trans hk) RD RC ?_)))));refine dm (λhw=>SM (bw ea ?_)) (λhw=>SM (bw eb ?_))
   .have L:=hL.pa sa h1 ea λj y hj e=>le_trans (sb j (nb-1) _ _ ⋯ ⋯ (fH eb) e eb) (show lt κ xb xa from hw).le;have hJ:na-1≠0->HJ κ a b (x+y+1) (na-1) nb (out.push xa):=λe=>⟨L,by lia,by lia,h2,Rr,by lia⟩
    exact eC (λe=>SY ⟨hK,.inl ⟨_,rfl,L.dn sb e Rr⟩⟩) λe=>dm (λ_=>SY ⟨hK,.inr ⟨rfl,(hJ e).mono ⋯⟩⟩) λ_=>SY ⟨hK,rfl,hJ e⟩
   .have L:=hL.pb sb ⋯ eb λj y hj e=>le_trans (sa j (na-1) _ _ ⋯ ⋯ (fH ea) e ea) (VP hw);have hJ:nb-1≠1->HJ κ a b (x+y+1) na (nb-1) (out.push xb):=λe=>⟨L,h1,RV,by lia,by lia,by lia⟩
    exact eC (λe=>SY ⟨hK,.inl ⟨_,rfl,L.fb sa bot e RV⟩⟩) λe=>dm (λ_=>SY ⟨hK,.inr ⟨rfl,(hJ e).mono ⋯⟩⟩) λ_=>SY ⟨hK,rfl,hJ e⟩
  .rintro c Oc ⟨hK,hc,hL⟩;exact⟨hK,.inr ⟨hc,hL.mono ⋯⟩⟩
  .rintro⟨c,na,nb,out,ac,bc⟩ Oc ⟨hK,⟨r,rfl,hr⟩|⟨rfl,hL⟩⟩
   .exact SY ⟨hK,.inl ⟨r,rfl,hr⟩⟩
   refine SM (YG (U9 ⟨rfl,?_⟩));refine SM (VJ (mQ (λ_=>Im st λc=>HJ κ a b (x+1) c.1 c.2.1 c.2.2.1) (Q:=Qm st (Good κ a b) λc=>HJ κ a b (x+1) c.1 c.2.1 c.2.2.1) ⟨hK,rfl,hL⟩ ?_ λc Oc h=>⟨h.1,.inr h.2⟩) ?_)
   .rintro y ⟨c,na,nb,out,g,ac,bc⟩ Oc hy ⟨hK,rfl,hL⟩;obtain⟨hL,h1,RV,h2,Rr,h3⟩:=(show HJ κ a b (x+1) na nb out from hL)
    obtain⟨xb,eb,RD⟩:=el hb (show nb-1<b.size by lia)
    extract_lets -underBinder s1 o1 s2 i1 s3 j1 s4 g1 s5 a1 b1 jp
    subst s1 o1 s2 i1 s3 j1 s4 g1 s5 a1 b1;refine Gh (jp:=jp) λg'=>SM (uo hK λOc hK=>?_);clear jp;refine SM (bw eb (SM (sQ hA (hK.kind.trans hk) RD (by show 0+na<=_;lia) ha (by show na-1<na;lia) (sa.mono (SE _) (by show 0+na<=_;lia)) λm hm Qd Qu=>?_)));have hm:m<=na:=hm;have L1:=hL.ga sa hm RV λi x i1 i2 i3 j y j1 j2=>le_trans (sb j (nb-1) _ _ ⋯ ⋯ (fH eb) j2 eb) (Qu i x ⋯ (by show i<0+na;lia) i3).le;have PY:∀i y,i<m->a[i]?=some y->le κ y xb:=λi y i1 i2=>Qd i y ⋯ ⋯ i2;dsimp -zeta only
    extract_lets -underBinder k1 c1 jp
    subst k1 c1;have J:∀i o,HI κ a b o i nb->0<i->i<=na->(∀j y,j<i->a[j]?=some y->le κ y xb)->wpS ↑11 A E s (jp () i o) (J4 (Im st λc=>HJ κ a b (x+1) c.1 c.2.1 c.2.2.1) (Qm st (Good κ a b) λc=>HJ κ a b (x+1) c.1 c.2.1 c.2.2.1)) Oc:=by
     intro i o L1 h1 R4 PY;refine SM (bw eb ?_);clear jp;have L2:=L1.pb sb ⋯ eb PY;refine eC (λe=>SY ⟨hK,.inl ⟨_,rfl,L2.fb sa bot e ⋯⟩⟩) λe=>?_;have e:nb-1≠1:=e;obtain⟨xa,ea,RC⟩:=el ha (show i-1<a.size by lia);refine SM (bw ea (SM (t9 hA (hK.kind.trans hk) RC (by show 0+(nb-1)<=_;lia) hb (by show nb-1-1<nb-1;lia) (sb.mono (SE _) (by show 0+(nb-1)<=_;lia)) λm hm Qd Qu=>?_)));have hm:m<=nb-1:=hm;have L3:=L2.gb sb hm ⋯ λl x i1 i2 i3 j y j1 j2=>le_trans (sa j (i-1) _ _ ⋯ ⋯ (fH ea) j2 ea) (Qu l x ⋯ (by show l<0+(nb-1);lia) i3);have hm2:m≠0:=λh0=>by
      subst h0;exact ZG (Qu 0 y0 ⋯ (by show 0<0+(nb-1);lia) ey) (bot _ _ _ ea ey)
     dsimp -zeta only
     extract_lets -underBinder k1 c1 jp
     subst k1 c1;have J:∀j o,HI κ a b o i j->1<j->j<=nb-1->(∀l y,l<j->b[l]?=some y->le κ y xa)->wpS ↑11 A E s (jp () j o) (J4 (Im st λc=>HJ κ a b (x+1) c.1 c.2.1 c.2.2.1) (Qm st (Good κ a b) λc=>HJ κ a b (x+1) c.1 c.2.1 c.2.2.1)) Oc:=by
      intro j o L3 h2 hjn PY;refine SM (bw ea ?_);have L4:=L3.pa sa h1 ea PY;have hJ:i-1≠0->HJ κ a b (x+1) (i-1) j (o.push xa):=λe=>⟨L4,by lia,by lia,h2,by lia,by lia⟩
      exact eC (λe=>SY ⟨hK,.inl ⟨_,rfl,L4.dn sb e ⋯⟩⟩) λe=>dm (λ_=>SY ⟨hK,.inr ⟨rfl,hJ e⟩⟩) λ_=>SY ⟨hK,rfl,hJ e⟩
     have PY:∀l y,l<m->b[l]?=some y->le κ y xa:=λl y i1 i2=>(Qd l y ⋯ ⋯ i2).le;refine dm (λP_=>eC (λe=>SY ⟨hK,.inl ⟨_,rfl,L3.fb sa bot e ⋯⟩⟩) λe=>eC (λe=>absurd e hm2) λ_=>J _ _ L3 ⋯ hm PY) λP_=>?_;have P_:m=nb-1:=by lia
     subst P_;rw[AO] at L3;exact J _ _ L3 ⋯ (SE _) PY
    clear_value jp
    refine dm (λP_=>eC (λe=>SY ⟨hK,.inl ⟨_,rfl,L1.dn sb e Rr⟩⟩) λe=>J _ _ L1 (Nat.pos_of_ne_zero e) hm PY) λP_=>?_;have P_:m=na:=by lia
    subst P_;rw[AO] at L1;exact J _ _ L1 h1 (SE _) PY
   .rintro⟨c,na,nb,out,g,ac,bc⟩ Oc ⟨hK,⟨r,rfl,hr⟩|⟨rfl,hL⟩⟩
    .exact SY ⟨hK,.inl ⟨r,rfl,hr⟩⟩
    .exact SM (uo hK λO8 hK=>SY ⟨hK,rfl,hL⟩)
 .rintro c Oc ⟨hK,_,hL,h1,RV,h2,Rr,h3⟩;lia
 .rintro⟨c,t⟩ Oc ⟨hK,⟨r,rfl,hr⟩|⟨_,h⟩⟩
  .exact SY (h r Oc hK hr)
  .exact h.elim
end
end Srt
local macro_rules|`(tactic| walk_at "u4")=>`(tactic| unfold $(Lean.mkIdent (Lean.mkPrivateNameCore `PySem.Builtin.List.W1All `PySem.Builtin.countRun)):ident)
local macro_rules|`(tactic| walk_at "u5")=>`(tactic| unfold $(Lean.mkIdent (Lean.mkPrivateNameCore `PySem.Builtin.List.W1All `PySem.Builtin.binarySort)):ident)
namespace Srt
open PySem PyProof.Rows
def KS(κ:KeyKind)(a:Array Keyed)(lo hi:Nat):Prop:=∀i j,lo<=i->i<=j->j<hi->κ.kle (KK κ a i) (KK κ a j)
def KD(κ:KeyKind)(a:Array Keyed)(lo hi:Nat):Prop:=∀i j,lo<=i->i<=j->j<hi->κ.kle (KK κ a j) (KK κ a i)
structure Ch (st Oc:SortSt) (lo hi:Nat):Prop where
 kind:kindOf Oc=kindOf st
 pend:pendingOf Oc=pendingOf st
 fail:failedOf Oc=failedOf st
 perm:(arrOf Oc).Perm (arrOf st)
 out:∀i,(i<lo\/hi<=i)->(arrOf Oc)[i]?=(arrOf st)[i]?
variable{lo:Nat}
variable{i j:Nat}
section
variable{κ:KeyKind}{st Oc Om:SortSt}{hi:Nat}
def Ch.rfl:Ch st st lo hi:=⟨.refl _,.refl _,.refl _,.refl _,λ_ _=>.refl _⟩
theorem Ch.trans(h:Ch st Oc lo hi)(h':Ch Oc Om lo hi):Ch st Om lo hi :=
 ⟨h'.kind.trans h.kind,h'.pend.trans h.pend,h'.fail.trans h.fail,h'.perm.trans h.perm,λi hi=>(h'.out i hi).trans (h.out i hi)⟩
theorem Ch.size(h:Ch st Oc lo hi):(arrOf Oc).size=(arrOf st).size:=h.perm.size_eq
def Ch.has(h:Ch st Oc lo hi)(ha:∀p∈(arrOf st).toList,kG κ p):∀p∈(arrOf Oc).toList,kG κ p :=
 λp hp=>ha p ((VL.mp h.perm).mem_iff.mp hp)
theorem Ch.rev(h:Ch st Oc lo hi)(h1:lo<=i)(h2:j<=hi)(h3:j<=(arrOf Oc).size):Ch st (setArr Oc (mirror (arrOf Oc) i j ((j-i)/2))) lo hi :=
 h.trans ⟨.refl _,.refl _,.refl _,mirror_perm _ _ _ _,λm hm=>by
  show (mirror (arrOf Oc) i j ((j-i)/2))[m]?=_;rw[getElem?_mirror_all h3,if_neg ⋯]⟩
theorem Ch.NH(h:Ch st Oc lo hi)(h0:i<=j)(h1:lo<=i)(h2:j<hi)(h3:j<(arrOf Oc).size):Ch st (setArr Oc (bubble (arrOf Oc) j (j-i))) lo hi :=
 h.trans ⟨.refl _,.refl _,.refl _,bubble_perm _ _ _,λm hm=>by
  show (bubble (arrOf Oc) j (j-i))[m]?=_;rw[getElem?_bubble h3 _ ⋯,if_neg ⋯,if_neg ⋯]⟩
def xY{a:Array Keyed}{x:Keyed}(e:a[i]?=some x):KK κ a i=ky κ x:=by unfold KK;rw[e];rfl
def KS.si{a:Array Keyed}(h:KS κ a lo hi):SI κ a lo hi:=λi j x y h1 h2 h3 e1 e2=>by
 have:=h i j h1 h2 h3;rwa[xY e1,xY e2] at this
end
section
variable{prog:Program}{w:World}{A:Around}{E:Value->Shared->Prop}{s:Shared}{κ:KeyKind}{k:SortKind}
def wp_at(hA:kS prog w A s κ k){st:SortSt}{Q:Option Bool->SortSt->Prop}(hk:kindOf st=k)(ha:∀p∈(arrOf st).toList,kG κ p)(hi:i<(arrOf st).size)(hj:j<(arrOf st).size)(h:Q (some (κ.blt (KK κ (arrOf st) i) (KK κ (arrOf st) j))) st):wpS ↑11 A E s (ltAt' i j) Q st:=by
 obtain⟨x,ex,hx⟩:=el ha hi;obtain⟨y,ey,hy⟩:=el ha hj;refine FR hA hk ex ey hx hy ?_;rwa[<- xY ex,<- xY ey]
def um{st:SortSt}{Q:Unit->SortSt->Prop}(h:Q () (setArr st (mirror (arrOf st) i j ((j-i)/2)))):wpS ↑11 A E s (reverseSlice' i j) Q st:=by
 rw[reverseSlice'_eq];exact Xq h
def LK:Nat->Nat->Nat->StateT SortSt Sem Bool:=sortPriv% PySem.Builtin.binarySort
def cnt:Nat->Nat->StateT SortSt Sem (Option Nat):=sortPriv% PySem.Builtin.countRun
theorem Fy(hA:kS prog w A s κ k){st:SortSt}{n ok:Nat}{Q:Bool->SortSt->Prop}(hk:kindOf st=k)(ha:∀p∈(arrOf st).toList,kG κ p)(hn:lo+n<=(arrOf st).size)(br:ok<=n)(hs:KS κ (arrOf st) lo (lo+ok))(h:∀Oc,Ch st Oc lo (lo+n)->KS κ (arrOf Oc) lo (lo+n)->Q true Oc):wpS ↑11 A E s (LK lo n ok) Q st:=by
 unfold LK;walk_at "u5";dsimp only;refine SM (VJ (Vk (I:=λj c Oc=>c=(none,())/\Ch st Oc lo (lo+n)/\KS κ (arrOf Oc) lo (lo+min j n))
  (Q:=λc Oc=>c=(none,())/\Ch st Oc lo (lo+n)/\KS κ (arrOf Oc) lo (lo+n)) ?step ?fin ?init) ?post)
 case post =>
  rintro c Oc ⟨rfl,hC,Qa⟩;exact SY (h Oc hC Qa)
 case init =>
  refine⟨rfl,Ch.rfl,λi j h1 hij hj=>?_⟩
  by_cases h0:ok=0
  .have:i=j:=by lia
   subst this;exact UU _
  .exact hs i j h1 hij ⋯
 case fin =>
  rintro c Oc ⟨hc,hC,Qa⟩;refine⟨hc,hC,?_⟩
  rwa [show min (max (max ok 1) n) n=n by lia] at Qa
 case step =>
  rintro j c Oc hj1 hj2 ⟨rfl,hC,Qa⟩;rw[show min j n=j by lia] at Qa;have hz:=hC.size;have RW:=hC.has ha;refine SM (VJ (Vk (I:=λx c Om=>Om=Oc/\∃l r,c=(none,l,r)/\l<=r/\r<=j/\r-l<=j-x ∧
    (∀i,lo<=i->i<lo+l->κ.kle (KK κ (arrOf Oc) i) (KK κ (arrOf Oc) (lo+j)))/\(∀i,lo+r<=i->i<lo+j->κ.klt (KK κ (arrOf Oc) (lo+j)) (KK κ (arrOf Oc) i)))
   (Q:=λc Om=>Om=Oc/\∃l r,c=(none,l,r)/\l<=j ∧
    (∀i,lo<=i->i<lo+l->κ.kle (KK κ (arrOf Oc) i) (KK κ (arrOf Oc) (lo+j)))/\(∀i,lo+l<=i->i<lo+j->κ.klt (KK κ (arrOf Oc) (lo+j)) (KK κ (arrOf Oc) i))) ?s1 ?f1
   ⟨rfl,0,j,rfl,by lia,by lia,by lia,λi _ hi=>by lia,λi h1 h2=>by lia⟩) ?p1)
  case f1 =>
   rintro c Om ⟨rfl,l,r,rfl,hlr,hrk,hm,h1,h2⟩;have:l=r:=by lia
   subst this;exact⟨rfl,l,l,rfl,hrk,h1,h2⟩
  case s1 =>
   rintro x c Om _ hx ⟨rfl,l,r,rfl,hlr,hrk,hm,h1,h2⟩;dsimp only
   by_cases hge:l>=r
   .rw[if_pos hge];have:l=r:=by lia
    subst this;exact SY ⟨rfl,l,l,rfl,hrk,h1,h2⟩
   .rw[if_neg hge];refine SM (wp_at hA (hC.kind.trans hk) RW ⋯ ⋯ ?_);dsimp only;cases hb:κ.blt (KK κ (arrOf Om) (lo+j)) (KK κ (arrOf Om) (lo+(l+r)/2))
    .exact SY ⟨rfl,(l+r)/2+1,r,rfl,by lia,by lia,by lia,λi i1 i2=>WG (Qa i (lo+(l+r)/2) i1 ⋯ ⋯) hb,h2⟩
    .exact SY ⟨rfl,l,(l+r)/2,rfl,by lia,by lia,by lia,h1,λi i1 i2=>Yy hb (Qa _ _ ⋯ i1 i2)⟩
  case p1 =>
   rintro c Om ⟨rfl,l,r,rfl,hl,h1,h2⟩;show wpS _ _ _ _ (do moveDown' (lo+j) (lo+l);pure (Zs (none,()))) _ _;rw[moveDown'_eq];refine SM (Xq (SY ⟨rfl,hC.NH ⋯ ⋯ ⋯ ⋯,?_⟩));rw[show min (j+1) n=j+1 by lia];have hks:lo+j<(arrOf Om).size:=by lia
   intro i i' i1 i2 i3;show κ.kle (KK κ (bubble (arrOf Om) (lo+j) (lo+j-(lo+l))) i) (KK κ (bubble (arrOf Om) (lo+j) (lo+j-(lo+l))) i');rw[KK_bubble hks ⋯,KK_bubble hks ⋯,show lo+j-(lo+j-(lo+l))=lo+l by lia]
   repeat' split
   all_goals first
    | (exfalso;lia)
    | exact UU _
    | exact h1 _ ⋯ ⋯
    | exact Wx (h2 _ ⋯ ⋯)
    |exact Qa _ _ ⋯ ⋯ ⋯
theorem D5{r:κ.α->κ.α->Prop}(rr:∀x,r x x)(rt:∀x y z,r x y->r y z->r x z){a:Array Keyed}{x:Nat}(h:∀i j,lo<=i->i<=j->j<lo+x->r (KK κ a i) (KK κ a j))(h1:1<=x)(hb:r (KK κ a (lo+x-1)) (KK κ a (lo+x))):∀i j,lo<=i->i<=j->j<lo+(x+1)->r (KK κ a i) (KK κ a j):=by
 intro i j i1 i2 i3
 by_cases hj:j<lo+x
 .exact h i j i1 i2 hj
 .have:j=lo+x:=by lia
  subst this
  by_cases hi:i=lo+x
  .subst hi;exact rr _
  .exact rt _ _ _ (h i (lo+x-1) i1 ⋯ ⋯) hb
def KS.next{a:Array Keyed}{x:Nat}(h:KS κ a lo (lo+x))(h1:1<=x)(hb:κ.kle (KK κ a (lo+x-1)) (KK κ a (lo+x))):KS κ a lo (lo+(x+1)):=D5 UU (λ_ _ _=>WG) h h1 hb
def KD.next{a:Array Keyed}{x:Nat}(h:KD κ a lo (lo+x))(h1:1<=x)(hb:κ.kle (KK κ a (lo+x)) (KK κ a (lo+x-1))):KD κ a lo (lo+(x+1)):=D5 (r:=λx y=>κ.kle y x) UU (λ_ _ _ p q=>WG q p) h h1 hb
theorem Ib(hA:kS prog w A s κ k){st:SortSt}{Oz:Nat}{Q:Option Nat->SortSt->Prop}(hk:kindOf st=k)(ha:∀p∈(arrOf st).toList,kG κ p)(hn:lo+Oz<=(arrOf st).size)(h1:1<=Oz)(h:∀m Oc,Ch st Oc lo (lo+Oz)->1<=m->m<=Oz->KS κ (arrOf Oc) lo (lo+m)->Q (some m) Oc):wpS ↑11 A E s (cnt lo Oz) Q st:=by
 have up:∀(n:Nat)(Pm:SortSt)(f:Nat->Option (Option Nat)×Nat->StateT SortSt Sem (ForInStep (Option (Option Nat)×Nat))){R:Option (Option Nat)×Nat->SortSt->Prop},
   1<=n->n<=Oz->Ch st Pm lo (lo+Oz)->KS κ (arrOf Pm) lo (lo+n) ->
   (∀x i {R':ForInStep (Option (Option Nat)×Nat)->SortSt->Prop},1<=x->x<Oz->(κ.blt (KK κ (arrOf Pm) (lo+x)) (KK κ (arrOf Pm) (lo+x-1))=true->R' (.done (none,x)) Pm) ->
    (κ.blt (KK κ (arrOf Pm) (lo+x)) (KK κ (arrOf Pm) (lo+x-1))=false->R' (.yield (none,x+1)) Pm)->wpS ↑11 A E s (f i (none,x)) R' Pm) ->
   (∀x,1<=x->x<=Oz->KS κ (arrOf Pm) lo (lo+x)->(x=Oz\/κ.klt (KK κ (arrOf Pm) (lo+x)) (KK κ (arrOf Pm) (lo+x-1)))->R (none,x) Pm) ->
   wpS ↑11 A E s (forIn [n:Oz] (none,n) f) R Pm:=by
  intro n Pm f R n1 n2 hC hs hf hR;refine Vk (I:=λx c Oc=>Oc=Pm/\c=(none,x)/\KS κ (arrOf Pm) lo (lo+x)) ?_ ?_ ⟨rfl,rfl,hs⟩
  .rintro x c Oc Se RM ⟨rfl,rfl,hs⟩;exact hf x x ⋯ RM (λhb=>hR x ⋯ ⋯ hs (.inr hb)) λhb=>⟨rfl,rfl,hs.next ⋯ hb⟩
  .rintro c Oc ⟨rfl,rfl,hs⟩;rw[show max n Oz=Oz by lia] at hs ⊢;exact hR Oz h1 (SE _) hs (.inl rfl)
 unfold cnt;walk_at "u4";refine SM (up 1 st _ (SE _) h1 Ch.rfl (λi j i1 i2 i3=>by have:i=j:=⋯;subst this;exact UU _) (λx i R' x1 x2 r1 r2=>?_) λn hn1 Rx hs hor=>?_)
 .refine SM (wp_at hA hk ha (by show lo+x<_;lia) (by show lo+x-1<_;lia) (dm (λhb=>SY (r1 hb)) λhb=>SY (r2 (by simpa using hb))))
 refine eC (λe=>SY (h n _ Ch.rfl hn1 Rx hs)) λe=>?_;have OC:=hor.resolve_left e;have e:n≠Oz:=e;dsimp -zeta only
 extract_lets -underBinder jp
 have J:∀u Pm,Ch st Pm lo (lo+Oz)->KD κ (arrOf Pm) lo (lo+(n+1))->wpS ↑11 A E s (jp u) Q Pm:=by
  intro u Pm hC hD;refine SM (YG (U9 ⟨rfl,?_⟩));clear jp;refine SM (VJ (Vk (I:=λx c Om=>∃PZ,c=(none,x,PZ)/\Ch st Om lo (lo+Oz)/\KD κ (arrOf Om) lo (lo+x)/\PZ+1<=x ∧
    (∀i,lo+x-(PZ+1)<=i->i<lo+x->KK κ (arrOf Om) i=KK κ (arrOf Om) (lo+x-1)))
   (Q:=λc Om=>∃x PZ,c=(none,x,PZ)/\1<=x/\x<=Oz/\Ch st Om lo (lo+Oz)/\KD κ (arrOf Om) lo (lo+x)/\PZ+1<=x ∧
    (∀i,lo+x-(PZ+1)<=i->i<lo+x->KK κ (arrOf Om) i=KK κ (arrOf Om) (lo+x-1))) ?s2 ?f2 ⟨0,rfl,hC,hD,by lia,λi i1 i2=>by congr 1;lia⟩) ?p2)
  case f2 =>
   rintro c Om ⟨PZ,rfl,hC2,hD2,hq,he⟩;rw[show max (n+1) Oz=Oz by lia] at hD2 hq he ⊢;exact⟨Oz,PZ,rfl,by lia,SE _,hC2,hD2,hq,he⟩
  case s2 =>
   rintro x c Om Se RM ⟨PZ,rfl,hC2,hD2,hq,he⟩;have hz:=hC2.size;have ha2:=hC2.has ha;refine SM (wp_at hA (hC2.kind.trans hk) ha2 (by show lo+x<_;lia) (by show lo+x-1<_;lia) (dm (λhb=>?_) λhb=>?_))
   .have N:=hD2.next ⋯ (Wx hb);refine dm (λRz=>SM (um (SY ⟨0,rfl,hC2.rev (by show lo<=lo+x-(PZ+1);lia) (by show lo+x<=_;lia) (by show lo+x<=_;lia),λi j i1 i2 i3=>?_,by lia,λi i1 i2=>by congr 1;lia⟩))) λRz=>SY ⟨0,rfl,hC2,N,by lia,λi i1 i2=>by congr 1;lia⟩;show κ.kle (KK κ (mirror (arrOf Om) (lo+x-(PZ+1)) (lo+x) ((lo+x-(lo+x-(PZ+1)))/2)) j) (KK κ (mirror (arrOf Om) (lo+x-(PZ+1)) (lo+x) ((lo+x-(lo+x-(PZ+1)))/2)) i);rw[Wr ⋯ he,Wr ⋯ he];exact N i j i1 i2 i3
   .refine SM (wp_at hA (hC2.kind.trans hk) ha2 (by show lo+x-1<_;lia) (by show lo+x<_;lia) (dm (λ_=>SY ⟨x,PZ,rfl,by lia,by lia,hC2,hD2,hq,he⟩) λhb2=>?_));have eqx:KK κ (arrOf Om) (lo+x)=KK κ (arrOf Om) (lo+x-1):=Z4 (VP hb2) (VP hb);refine SY ⟨PZ+1,rfl,hC2,hD2.next ⋯ (by rw[eqx];exact UU _),by lia,λi i1 i2=>?_⟩;rw[show lo+(x+1)-1=lo+x by lia,eqx]
    by_cases hi:i=lo+x
    .subst hi;exact eqx
    .exact he i ⋯ ⋯
  case p2 =>
   rintro c Om ⟨m,PZ,rfl,hm1,hm2,hC2,hD2,hq,he⟩;have hz:=hC2.size
   extract_lets -underBinder r1 s1 n1 q1
   subst r1 s1 n1 q1;dsimp -zeta only
   extract_lets -underBinder jp
   have J:∀u PH,Ch st PH lo (lo+Oz)->KD κ (arrOf PH) lo (lo+m)->wpS ↑11 A E s (jp u) Q PH:=by
    intro u PH Rk hD3;refine SM (um ?_);clear jp;have Sg:=Rk.size;have S4:KS κ (arrOf (setArr PH (mirror (arrOf PH) lo (lo+m) ((lo+m-lo)/2)))) lo (lo+m):=by
     intro i j i1 i2 i3;show κ.kle (KK κ (mirror (arrOf PH) _ _ _) i) (KK κ (mirror (arrOf PH) _ _ _) j);rw[KK_mirror ⋯,KK_mirror ⋯,if_pos ⋯,if_pos ⋯];exact hD3 _ _ ⋯ ⋯ ⋯
    have RG:=Rk.rev (i:=lo) (j:=lo+m) (SE _) ⋯ ⋯;generalize setArr PH (mirror (arrOf PH) lo (lo+m) ((lo+m-lo)/2))=O8 at S4 RG ⊢;have hz4:=RG.size;refine SM (up m O8 _ hm1 hm2 RG S4 (λx i R' x1 x2 r1 r2=>?_) λx x1 x2 hs _=>SY (h x _ RG x1 x2 hs));exact SM (wp_at hA (RG.kind.trans hk) (RG.has ha) (by show lo+x<_;lia) (by show lo+x-1<_;lia) (dm (λhb=>SY (r1 hb)) λhb=>SY (r2 (by simpa using hb))))
   clear_value jp
   refine dm (λRz=>SM (um (J _ _ (hC2.rev (i:=lo+m-(PZ+1)) (j:=lo+m) ⋯ ⋯ ⋯) λi j i1 i2 i3=>?_))) λRz=>J _ _ hC2 hD2;show κ.kle (KK κ (mirror (arrOf Om) _ _ _) j) (KK κ (mirror (arrOf Om) _ _ _) i);rw[Wr ⋯ he,Wr ⋯ he];exact hD2 i j i1 i2 i3
 clear_value jp
 refine dm (λhg=>SM (wp_at hA hk ha ⋯ (by show lo+n-1<_;lia) (dm (λ_=>SY (h n _ Ch.rfl hn1 Rx hs)) λhr=>SM (um (J _ _ ((Ch.rfl (st:=st) (lo:=lo) (hi:=lo+Oz)).rev (i:=lo) (j:=lo+n) (SE _) ⋯ ⋯) λi j i1 i2 i3=>?_))))) λhg=>J _ _ Ch.rfl (KD.next (λi j i1 i2 i3=>by have:i=j:=⋯;subst this;exact UU _) hn1 (Wx OC));have heq:∀m,lo<=m->m<lo+n->KK κ (arrOf st) m=KK κ (arrOf st) (lo+n-1):=λm m1 m2 =>
  Z4 (hs m (lo+n-1) m1 ⋯ ⋯) (WG (VP hr) (hs lo m ⋯ m1 m2))
 show κ.kle (KK κ (mirror (arrOf st) _ _ _) j) (KK κ (mirror (arrOf st) _ _ _) i);rw[Wr ⋯ heq,Wr ⋯ heq]
 by_cases hj:j<lo+n
 .rw[heq i i1 ⋯,heq j ⋯ hj];exact UU _
 .have:j=lo+n:=by lia
  subst this
  by_cases hi:i=lo+n
  .subst hi;exact UU _
  .rw[heq i i1 ⋯];exact Wx OC
end
end Srt
local macro_rules|`(tactic| walk_at "u6")=>`(tactic| unfold $(Lean.mkIdent (Lean.mkPrivateNameCore `PySem.Builtin.List.W1All `PySem.Builtin.mergeAt)):ident)
namespace Srt
open PySem PyProof.Rows
theorem xP(b:Nat)(S:List Keyed):∀(l O P:List Keyed)(off:Nat)(arr:Array Keyed),arr.toList=P++O++S->O.length=l.length->P.length=b+off ->((l.zipIdx off).foldl (λ(a:Array Keyed) (x:Keyed×Nat)=>a.setIfInBounds (b+x.2) x.1) arr).toList=P++l++S
 | [],O,P,off,arr,h,hl,hp=>by
  have:O=[]:=Wd.mp hl;subst this;simpa using h
 | x::l,[],P,off,arr,h,hl,hp=>by simp at hl
 | x::l,o::O,P,off,arr,h,hl,hp=>by
  rw[VF,Wo,xP b S l O (P++[x]) (off+1) _ _ (by simpa using hl) (by simp[hp];lia)]
  .simp
  .rw[Ye,h,<- hp];simp[aa0]
def JD{a:Array Keyed}{P O S:List Keyed}(h:a.toList=P++O++S):(a.extract P.length (P.length+O.length)).toList=O:=by
 rw[Array.toList_extract,h];simp[List.extract]
def FG{P O O' S:List Keyed}(h:O.length=O'.length)(i:Nat)(hi:i<P.length\/P.length+O.length<=i):(P++O++S)[i]?=(P++O'++S)[i]?:=by
 rw[Ux,Ux];rcases hi with hi|hi
 .rw[TX hi,TX hi]
 .rw[To ⋯,To ⋯,To ⋯,To ⋯,h]
def B9{κ:KeyKind}{a:Array Keyed}{lo hi:Nat}(h:(a.extract lo hi).toList.Pairwise (le κ)):SI κ a lo hi:=by
 intro i j x y h1 h2 h3 e1 e2;have b1:=fH e1;have b2:=fH e2;rcases TU i j with OC|hge
 .have hz:(a.extract lo hi).toList.length=min hi a.size-lo:=by rw[Tf,UB]
  have q:∀m z,lo<=m->m<hi->m<a.size->a[m]?=some z->(a.extract lo hi).toList[m-lo]?=some z:=by
   intro m z m1 m2 m3 e;rwa[Tu,Uv,if_pos ⋯,show lo+(m-lo)=m by lia]
  have p1:=q i x h1 ⋯ b1 e1;have p2:=q j y ⋯ h3 b2 e2;rw[Yk] at h;obtain⟨b1,p1⟩:=Tw.mp p1;obtain⟨b2,p2⟩:=Tw.mp p2;have:=h (i-lo) (j-lo) b1 b2 ⋯;rwa[p1,p2] at this
 .have:i=j:=by lia
  subst this;rw[e1] at e2;cases e2;exact le_refl _
def iU{a:Array Keyed}{i j:Nat}(h:j<=a.size):(a.extract i j).toList.length=j-i:=by
 rw[Tf,UB];lia
section
variable{prog:Program}{w:World}{A:Around}{E:Value->Shared->Prop}{s:Shared}{κ:KeyKind}{k:SortKind}
def Ng:Nat->StateT SortSt Sem Bool:=sortPriv% PySem.Builtin.mergeAt
theorem BA{p:Array (Nat×Nat×Nat)}{L1 L2:List (Nat×Nat×Nat)}{x y v:Nat×Nat×Nat}(h:p.toList=L1++x::y::L2):((p.setIfInBounds L1.length v).eraseIdxIfInBounds (L1.length+1)).toList=L1++v::L2:=by
 have hz:L1.length+1<(p.setIfInBounds L1.length v).size:=by
  rw[Array.size_setIfInBounds,<- Tf,h];simp
 unfold Array.eraseIdxIfInBounds;rw[dif_pos hz,Array.toList_eraseIdx,Ye,h];simp[aa0,List.eraseIdx_append];intro h';lia
theorem merged{arr:Array Keyed}{m na nb j l:Nat}{r:Array Keyed}(hz:m+na+nb<=arr.size)(s1:SI κ arr m (m+na))(s2:SI κ arr (m+na) (m+na+nb))(hj:j<=na)(hl:l<=nb)(n1:j<na)(n2:0<l)(lo1:∀i y z,m<=i->i<m+j->arr[i]?=some y->arr[m+na]?=some z->le κ y z)(hi2:∀i y z,m+na+l<=i->i<m+na+nb->arr[i]?=some y->arr[m+na-1]?=some z->le κ z y)(hr:Good κ (arr.extract (m+j) (m+na)) (arr.extract (m+na) (m+na+l)) r):∀ Qg:Array Keyed,Qg=r.toList.zipIdx.foldl (λa (x:Keyed×Nat)=>a.setIfInBounds (m+j+x.2) x.1) arr ->Qg.Perm arr/\(∀i,i<m\/m+na+nb<=i->Qg[i]?=arr[i]?)/\SI κ Qg m (m+na+nb):=by
 rintro Qg rfl;have d1:arr.toList=(arr.extract 0 (m+j)).toList++((arr.extract (m+j) (m+na)).toList++(arr.extract (m+na) (m+na+l)).toList)++(arr.extract (m+na+l) arr.size).toList:=by
  rw[<- lu arr ⋯ ⋯,<- lu arr ⋯ ⋯,<- lu arr ⋯ ⋯];simp
 have hlen:((arr.extract (m+j) (m+na)).toList++(arr.extract (m+na) (m+na+l)).toList).length=r.toList.length:=hr.2.length_eq.symm;have Rn:r.toList.length=na-j+l:=by
  rw[<- hlen,S6,iU ⋯,iU ⋯];lia
 have d2:=xP (m+j) (arr.extract (m+na+l) arr.size).toList r.toList _ (arr.extract 0 (m+j)).toList 0 arr d1 hlen (by rw[iU ⋯];lia);generalize r.toList.zipIdx.foldl (λa (x:Keyed×Nat)=>a.setIfInBounds (m+j+x.2) x.1) arr=Qg at d2 ⊢;refine⟨?_,?_,?_⟩
 .refine VL.mpr ?_;rw[d1,d2];exact W_ _ (Ws _ hr.2)
 .intro i hi;rw[<- Tu,<- Tu,d1,d2];refine FG hlen.symm i ?_;rw[iU ⋯,Rn];lia
 .have d3:Qg.toList=(arr.extract 0 m).toList++((arr.extract m (m+j)).toList++r.toList++(arr.extract (m+na+l) (m+na+nb)).toList)++(arr.extract (m+na+nb) arr.size).toList:=by
   rw[d2,lu arr (show 0<=m by lia) (show m<=m+j by lia),lu arr (show m+na+l<=m+na+nb by lia) hz];simp only[Ux]
  have d4:=JD d3;rw[iU ⋯] at d4;have hl4:((arr.extract m (m+j)).toList++r.toList++(arr.extract (m+na+l) (m+na+nb)).toList).length=na+nb:=by
   rw[S6,S6,iU ⋯,iU ⋯,Rn];lia
  rw[hl4,show m-0+(na+nb)=m+na+nb by lia,show m-0=m by lia] at d4;refine B9 ?_;rw[d4];obtain⟨z0,e0⟩:∃z,arr[m+na]?=some z:=⟨_,getElem?_pos arr (m+na) ⋯⟩
  obtain⟨zl,el⟩:∃z,arr[m+na-1]?=some z:=⟨_,getElem?_pos arr (m+na-1) ⋯⟩
  have X0:∀y∈(arr.extract m (m+j)).toList,∀i z,m+j<=i->i<m+na+nb->arr[i]?=some z->le κ y z:=by
   intro y hy i z i1 i2 i3;obtain⟨i',a1,a2,a3⟩:=cz.mp hy;rcases TU i (m+na) with OC|hge
   .exact s1 i' i y z a1 ⋯ OC a3 i3
   .exact le_trans (lo1 i' y z0 a1 a2 a3 e0) (s2 (m+na) i z0 z ⋯ hge i2 e0 i3)
  have Y1:∀y∈(arr.extract (m+na+l) (m+na+nb)).toList,∀i z,m<=i->i<m+na+l->arr[i]?=some z->le κ z y:=by
   intro y hy i z i1 i2 i3;obtain⟨i',a1,a2,a3⟩:=cz.mp hy;rcases TU i (m+na) with OC|hge
   .exact le_trans (s1 i (m+na-1) z zl i1 ⋯ ⋯ i3 el) (hi2 i' y zl a1 a2 a3 el)
   .exact s2 i i' z y hge ⋯ a2 i3 a3
  have hm:∀y∈r.toList,∃i,m+j<=i/\i<m+na+l/\arr[i]?=some y:=by
   intro y hy;rcases TR.mp (hr.2.mem_iff.mp hy) with hy|hy
   .obtain⟨i,a1,a2,a3⟩:=cz.mp hy;exact⟨i,a1,by lia,a3⟩
   .obtain⟨i,a1,a2,a3⟩:=cz.mp hy;exact⟨i,by lia,a2,a3⟩
  rw[Ux,U1,U1];refine⟨s1.pw (SE _) ⋯,⟨hr.1,s2.pw ⋯ (SE _),λx hx y hy=>?_⟩,λx hx y hy=>?_⟩
  .obtain⟨i,a1,a2,a3⟩:=hm x hx;exact Y1 y hy i x ⋯ a2 a3
  .rcases TR.mp hy with hy|hy
   .obtain⟨i,a1,a2,a3⟩:=hm y hy;exact X0 x hx i y a1 ⋯ a3
   .obtain⟨i,a1,a2,a3⟩:=cz.mp hy;exact X0 x hx i y ⋯ ⋯ a3
theorem SI.join{a:Array Keyed}{l m h:Nat}(s1:SI κ a l m)(s2:SI κ a m h)(c:∀i j x y,l<=i->i<m->m<=j->j<h->a[i]?=some x->a[j]?=some y->le κ x y):SI κ a l h:=by
 intro i j x y h1 h2 h3 e1 e2
 by_cases hj:j<m
 .exact s1 i j x y h1 h2 hj e1 e2
 .by_cases hi:i<m
  .exact c i j x y h1 hi ⋯ h3 e1 e2
  .exact s2 i j x y ⋯ h2 h3 e1 e2
def kf{a:Array Keyed}{i j:Nat}(ha:∀p∈a.toList,kG κ p):∀p∈(a.extract i j).toList,kG κ p:=λp hp=>by
 obtain⟨m,_,_,e⟩:=cz.mp hp;exact ha p (by rw[ZF];exact⟨m,by rwa[Tu]⟩)
theorem xy{a:Array Keyed}{i j:Nat}(h:SI κ a i j):SI κ (a.extract i j) 0 (a.extract i j).size:=by
 intro m n x y h1 h2 h3 e1 e2;rw[Uv] at e1 e2;rw[UB] at h3;rw[if_pos ⋯] at e1 e2;exact h _ _ x y ⋯ ⋯ ⋯ e1 e2
def Hw{st Pm:SortSt}{Q:PUnit->SortSt->Prop}(h:Q ⟨⟩ Pm):wpS ↑11 A E s (set Pm:StateT SortSt Sem PUnit) Q st:=by
 unfold wpS;rw[StateT.run_set];exact SA ⟨rfl,h⟩
set_option maxHeartbeats 1000000 in
def JQ(hA:kS prog w A s κ k){st:SortSt}{L1 L2:List (Nat×Nat×Nat)}{m na nb pw Ro:Nat}{Q:Bool->SortSt->Prop}(hk:kindOf st=k)(ha:∀p∈(arrOf st).toList,kG κ p)(hf:failedOf st=none)(hp:(pendingOf st).toList=L1++(m,na,pw)::(m+na,nb,Ro)::L2)(n1:1<=na)(n2:1<=nb)(hz:m+na+nb<=(arrOf st).size)(s1:SI κ (arrOf st) m (m+na))(s2:SI κ (arrOf st) (m+na) (m+na+nb))(h:∀Oc,kindOf Oc=k->(arrOf Oc).Perm (arrOf st)->failedOf Oc=none->(pendingOf Oc).toList=L1++(m,na+nb,pw)::L2 ->(∀i,i<m\/m+na+nb<=i->(arrOf Oc)[i]?=(arrOf st)[i]?)->SI κ (arrOf Oc) m (m+na+nb)->Q true Oc):wpS ↑11 A E s (Ng L1.length) Q st:=by
 unfold Ng;walk_at "u6";dsimp only;refine SM (XU ?_);have p1:(pendingOf st)[L1.length]?=some (m,na,pw):=by rw[<- Tu,hp];simp
 have p2:(pendingOf st)[L1.length+1]?=some (m+na,nb,Ro):=by rw[<- Tu,hp];simp
 have pn:=BA (v:=(m,na+nb,pw)) hp;have hg:∀i,i<(arrOf st).size->∃x,(arrOf st)[i]?=some x/\kG κ x:=λi hi=>el ha hi;rw[show (_,_)=(some (m,na,pw),some (m+na,nb,Ro)) from Prod.ext p1 p2];dsimp only;refine SM (Hw ?_);obtain⟨z0,e0,hz0⟩:=hg (m+na) ⋯;obtain⟨zl,el',hzl⟩:=hg (m+na-1) ⋯;refine SM (bw e0 (SM (sQ hA hk hz0 (by show m+na<=(arrOf st).size;lia) ha ⋯ s1 λj hj Qd Qu=>?_)));dsimp only
 by_cases ej:na-j=0
 .rw[if_pos (by simpa using ej)];refine SY (h _ hk (.refl _) hf pn (λ_ _=>rfl) ?_);exact s1.join s2 λi i' x y a1 a2 a3 a4 b1 b2=>le_trans (Qd i x a1 ⋯ b1) (s2 (m+na) i' z0 y ⋯ a3 a4 e0 b2)
 rw[if_neg (by simpa using ej)];refine SM (bw (p:=zl) (by rw[show m+j+(na-j)-1=m+na-1 by lia];exact el') (SM (t9 hA hk hzl (by show m+na+nb<=(arrOf st).size;lia) ha ⋯ s2 λl hl hlo2 R3=>?_)));dsimp only
 by_cases el0:l=0
 .rw[if_pos (by simpa using el0)];refine SY (h _ hk (.refl _) hf pn (λ_ _=>rfl) ?_);exact s1.join s2 λi i' x y a1 a2 a3 a4 b1 b2=>le_trans (s1 i (m+na-1) x zl a1 ⋯ ⋯ b1 el') (R3 i' y ⋯ a4 b2)
 rw[if_neg (by simpa using el0)];have M:=λr (hr:Good κ _ _ r)=>merged (r:=r) hz s1 s2 hj hl ⋯ ⋯ (λi y z a1 a2 b1 b2=>by rw[e0] at b2;cases b2;exact Qd i y a1 a2 b1)
  (λi y z a1 a2 b1 b2=>by rw[el'] at b2;cases b2;exact R3 i y a1 a2 b1) hr _ rfl
 have q1:1<=((arrOf st).extract (m+j) (m+na)).size:=by rw[UB];lia
 have q2:1<=((arrOf st).extract (m+na) (m+na+l)).size:=by rw[UB];lia
 have q3:∀x y,((arrOf st).extract (m+j) (m+na))[0]?=some x->((arrOf st).extract (m+na) (m+na+l))[0]?=some y->lt κ y x:=by
  intro x y a1 a2;rw[Uv,if_pos ⋯] at a1 a2;rw[XX] at a1 a2;rw[e0] at a2;cases a2;exact Qu _ x ⋯ ⋯ a1
 have q4:∀(i i':Nat)(x y:Keyed),i+1=((arrOf st).extract (m+j) (m+na)).size->((arrOf st).extract (m+j) (m+na))[i]?=some x->((arrOf st).extract (m+na) (m+na+l))[i']?=some y->lt κ y x:=by
  intro i i' x y a0 a1 a2;have a3:=fH a2;rw[UB] at a0 a3;rw[Uv,if_pos ⋯] at a1 a2;rw[show m+j+i=m+na-1 by lia,el'] at a1;cases a1;exact hlo2 _ y ⋯ ⋯ a2
 by_cases hle:na-j<=l
 all_goals first
  | (rw[if_pos hle];refine SM (ID hA hk (kf ha) (kf ha) (xy (s1.mono ⋯ ⋯)) (xy (s2.mono ⋯ ⋯)) q1 q2 q3 q4 λr Oc hK hr=>?_))
  | (rw[if_neg hle];refine SM (HA hA hk (kf ha) (kf ha) (xy (s1.mono ⋯ ⋯)) (xy (s2.mono ⋯ ⋯)) q1 q2 q3 q4 λr Oc hK hr=>?_))
 all_goals
  obtain⟨r1,r2,r3⟩:=M r hr;refine SM (Xq (SM (XU ?_)));have hf':failedOf Oc=none:=hK.fail.trans hf;have RW:arrOf Oc=arrOf st:=hK.arr;have R1:(failedOf Oc).isNone=true:=by rw[hf'];rfl
  refine SY (Q:=Q) ?_;show Q (failedOf Oc).isNone _;rw[R1];refine h _ (hK.kind.trans hk) ?_ hf' ((congrArg aao hK.pend).trans pn) ?_ ?_
  .show (r.toList.zipIdx.foldl (λa (x:Keyed×Nat)=>a.setIfInBounds (m+j+x.2) x.1) (arrOf Oc)).Perm _;rwa[RW]
  .show ∀i,_->(r.toList.zipIdx.foldl (λa (x:Keyed×Nat)=>a.setIfInBounds (m+j+x.2) x.1) (arrOf Oc))[i]?=_;rwa[RW]
  .show SI κ (r.toList.zipIdx.foldl (λa (x:Keyed×Nat)=>a.setIfInBounds (m+j+x.2) x.1) (arrOf Oc)) _ _;rwa[RW]
end
end Srt
local macro_rules|`(tactic| walk_at "u7")=>`(tactic| unfold $(Lean.mkIdent (Lean.mkPrivateNameCore `PySem.Builtin.List.W1All `PySem.Builtin.sortRuns)):ident)
namespace Srt
open PySem PyProof.Rows
def Pn(κ:KeyKind)(a:Array Keyed):Nat->List (Nat×Nat×Nat)->Nat->Prop
 | lo,[],hi=>lo=hi
 |lo,e::L,hi=>e.1=lo/\1<=e.2.1/\SI κ a lo (lo+e.2.1)/\Pn κ a (lo+e.2.1) L hi
section
variable{κ:KeyKind}{a a':Array Keyed}
theorem Pn.app:∀{L L':List (Nat×Nat×Nat)}{lo m hi:Nat},Pn κ a lo L m->Pn κ a m L' hi->Pn κ a lo (L++L') hi
 | [],L',lo,m,hi,h,h'=>by cases h;exact h'
 |e::L,L',lo,m,hi,⟨h1,h2,h3,h4⟩,h'=>⟨h1,h2,h3,Pn.app h4 h'⟩
theorem Pn.le:∀{L:List (Nat×Nat×Nat)}{lo hi:Nat},Pn κ a lo L hi->lo+L.length<=hi
 | [],lo,hi,h=>by cases h;exact SE _
 |e::L,lo,hi,⟨h1,h2,h3,h4⟩=>by have:=Pn.le h4;simp only[Tj];lia
theorem Pn.congr:∀{L:List (Nat×Nat×Nat)}{lo hi:Nat},Pn κ a lo L hi->(∀i,lo<=i->i<hi->a'[i]?=a[i]?)->Pn κ a' lo L hi
 | [],lo,hi,h,_=>h
 | e::L,lo,hi,⟨h1,h2,h3,h4⟩,hc=>⟨h1,h2,λi j x y i1 i2 i3 e1 e2=>by
   have:=Pn.le h4;rw[hc i i1 ⋯] at e1;rw[hc j ⋯ ⋯] at e2;exact h3 i j x y i1 i2 i3 e1 e2,Pn.congr h4 λi i1 i2=>hc i ⋯ i2⟩
theorem Pn.map:∀{L L':List (Nat×Nat×Nat)}{lo hi:Nat},L'.map (λe=>(e.1,e.2.1))=L.map (λe=>(e.1,e.2.1))->Pn κ a lo L hi->Pn κ a lo L' hi
 | [],[],_,_,_,h=>h
 | [],_::_,_,_,hm,_=>by simp at hm
 | _::_,[],_,_,hm,_=>by simp at hm
 | e::L,e'::L',lo,hi,hm,⟨h1,h2,h3,h4⟩=>by
  rw[S0,S0] at hm;obtain⟨hx,hm⟩:=List.cons.inj hm;obtain⟨q1,q2⟩:=Prod.mk.inj hx;exact⟨q1.trans h1,by rwa[q2],by rwa[q2],by rw[q2];exact Pn.map hm h4⟩
theorem oM{α β:Type}(g:α->β)(f:α->α)(hf:∀x,g (f x)=g x):∀(L:List α)(i:Nat),(L.modify i f).map g=L.map g
 | [],i=>by cases i<;>rfl
 | x::L,0=>by simp[List.modify,List.modifyTailIdx,aa9,List.modifyHead,hf]
 |x::L,i+1=>by rw[List.modify_succ_cons,S0,S0,oM g f hf L i]
theorem Pn.at:∀{L:List (Nat×Nat×Nat)}{j lo hi:Nat},Pn κ a lo L hi->j+1<L.length->∃L1 L2 m na nb pw Ro,L=L1++(m,na,pw)::(m+na,nb,Ro)::L2/\L1.length=j ∧1<=na/\1<=nb/\SI κ a m (m+na)/\SI κ a (m+na) (m+na+nb)/\Pn κ a lo L1 m/\Pn κ a (m+na+nb) L2 hi
 | [],j,lo,hi,h,hj=>by simp at hj
 | [_],j,lo,hi,h,hj=>by simp at hj
 | (x1,x2,x3)::(y1,y2,y3)::L,0,lo,hi,⟨h1,h2,h3,h4,h5,h6,h7⟩,hj=>by
  cases h1;cases h4;exact⟨[],L,x1,x2,y2,x3,y3,rfl,rfl,h2,h5,h3,h6,rfl,h7⟩
 | (x1,x2,x3)::y::L,j+1,lo,hi,⟨h1,h2,h3,h4⟩,hj=>by
  obtain⟨L1,L2,m,na,nb,pw,Ro,e,hl,b1,b2,b3,b4,b5,b6⟩:=Pn.at (j:=j) h4 (by simpa using hj);exact⟨(x1,x2,x3)::L1,L2,m,na,nb,pw,Ro,by rw[e];rfl,by simp[hl],b1,b2,b3,b4,⟨h1,h2,h3,b5⟩,b6⟩
end
structure Ok (κ:KeyKind) (k:SortKind) (a0:Array Keyed) (st:SortSt):Prop where
 kind:kindOf st=k
 perm:(arrOf st).Perm a0
 fail:failedOf st=none
section
variable{prog:Program}{w:World}{A:Around}{E:Value->Shared->Prop}{s:Shared}{κ:KeyKind}{k:SortKind}{a0:Array Keyed}
theorem Ok.size{st:SortSt}(h:Ok κ k a0 st):(arrOf st).size=a0.size:=h.perm.size_eq
def Ok.has{st:SortSt}(h:Ok κ k a0 st)(ha:∀p∈a0.toList,kG κ p):∀p∈(arrOf st).toList,kG κ p :=
 λp hp=>ha p ((VL.mp h.perm).mem_iff.mp hp)
def CO(hA:kS prog w A s κ k)(ha:∀p∈a0.toList,kG κ p){st:SortSt}{j hi:Nat}{Q:Bool->SortSt->Prop}(hO:Ok κ k a0 st)(hP:Pn κ (arrOf st) 0 (pendingOf st).toList hi)(hj:j+1<(pendingOf st).size)(hz:hi<=a0.size)(h:∀Oc,Ok κ k a0 Oc->Pn κ (arrOf Oc) 0 (pendingOf Oc).toList hi->(pendingOf Oc).size+1=(pendingOf st).size->(∀i,hi<=i->(arrOf Oc)[i]?=(arrOf st)[i]?)->Q true Oc):wpS ↑11 A E s (Ng j) Q st:=by
 obtain⟨L1,L2,m,na,nb,pw,Ro,e,rfl,b1,b2,b3,b4,b5,b6⟩:=hP.at (j:=j) hj;have hm:=b6.le;refine JQ hA hO.kind (hO.has ha) hO.fail e b1 b2 (by rw[hO.size];lia) b3 b4 λOc c1 c2 c3 c4 c5 c6=>h Oc ⟨c1,c2.trans hO.perm,c3⟩ ?_ ?_ λi hi=>c5 i ⋯
 .rw[c4];exact(b5.congr λi _ i2=>c5 i (.inl i2)).app ⟨rfl,by show 1<=na+nb;lia,by rwa[Nat.add_assoc] at c6,by
   show Pn κ _ (m+(na+nb)) L2 hi;rw[<- Nat.add_assoc];exact b6.congr λi i1 _=>c5 i (.inr i1)⟩
 .rw[<- Tf,<- Tf,c4,e];simp only[S6,Tj];lia
theorem ix{c:Prop}[Decidable c]{n:Nat}(h:2<=n):(if c then n-2-1 else n-2)+1<n:=by split<;>lia
def Nt:StateT SortSt Sem Unit:=sortPriv% PySem.Builtin.sortRuns
def G0(hA:kS prog w A s κ k)(ha:∀p∈a0.toList,kG κ p){st:SortSt}{Q:Unit->SortSt->Prop}(hO:Ok κ k a0 st)(hp:pendingOf st=#[])(h1:1<=a0.size)(h:∀Oc,Ok κ k a0 Oc->SI κ (arrOf Oc) 0 a0.size->Q () Oc):wpS ↑11 A E s Nt Q st:=by
 unfold Nt;walk_at "u7";dsimp only;refine SM (XU ?_);have hsz:=hO.size;rw[show (PyProof.Rows.arrOf st).size=a0.size from hsz];refine SM (VJ (Vk (I:=λx c Oc=>∃lo,c=(none,lo)/\Ok κ k a0 Oc/\Pn κ (arrOf Oc) 0 (pendingOf Oc).toList lo/\lo<=a0.size/\(x<=lo\/lo=a0.size))
  (Q:=λc Oc=>c=(none,a0.size)/\Ok κ k a0 Oc/\Pn κ (arrOf Oc) 0 (pendingOf Oc).toList a0.size) ?step ?fin ⟨0,rfl,hO,by rw[hp];rfl,by lia,.inl ⋯⟩) ?post)
 case fin =>
  rintro c Oc ⟨lo,rfl,hO',hP,h2,h3⟩;have:lo=a0.size:=by lia
  subst this;exact⟨rfl,hO',hP⟩
 case step =>
  rintro x c Oc _ hx ⟨lo,rfl,hO',hP,h2,h3⟩;dsimp only
  by_cases hge:lo>=a0.size
  .rw[if_pos hge];have:lo=a0.size:=by lia
   subst this;exact SY ⟨rfl,hO',hP⟩
  rw[if_neg hge];have hz:=hO'.size;refine SM (Ib hA hO'.kind (hO'.has ha) ⋯ ⋯ λn Om hC n1 n2 hS=>?_);dsimp only;generalize (sortPriv% PySem.Builtin.minRun) a0.size a0.size 0=M;have O2:Ok κ k a0 Om:=⟨hC.kind.trans hO'.kind,hC.perm.trans hO'.perm,hC.fail.trans hO'.fail⟩
  have P2:Pn κ (arrOf Om) 0 (pendingOf Om).toList lo:=by
   rw[hC.pend];exact hP.congr λi _ i2=>hC.out i (.inl i2)
  by_cases OC:n<M
  all_goals first
   | (rw[if_pos OC];refine SM (YG (U9 ⟨rfl,?_⟩));have RN:=O2.size;refine SM (Fy hA O2.kind (O2.has ha) ⋯ ⋯ hS λPH Rk hS3=>?_);rw[if_neg ↑13];have O3:Ok κ k a0 PH:=⟨Rk.kind.trans O2.kind,Rk.perm.trans O2.perm,Rk.fail.trans O2.fail⟩;have P3:Pn κ (arrOf PH) 0 (pendingOf PH).toList lo:=(by rw[Rk.pend];exact P2.congr λi _ i2=>Rk.out i (.inl i2));have S3:=hS3.si;have m1:1<=min (a0.size-lo) M:=⋯;have m2:lo+min (a0.size-lo) M<=a0.size:=⋯;generalize min (a0.size-lo) M=n3 at S3 m1 m2 ⊢)
   | (rw[if_neg OC];have O3:=O2;have P3:=P2;have S3:=hS.si;have m1:=n1;have m2:lo+n<=a0.size:=⋯)
  all_goals
   refine SM (XU ?_);have F:∀(O8:SortSt)(v:Nat),Ok κ k a0 O8->∀L:Array (Nat×Nat×Nat),Pn κ (arrOf O8) 0 L.toList lo->1<=v->lo+v<=a0.size->SI κ (arrOf O8) lo (lo+v) ->
     ∃l,((none:Option Unit),lo+v)=(none,l)/\Ok κ k a0 (setPending O8 (L.push (lo,v,0)))/\Pn κ (arrOf O8) 0 (L.push (lo,v,0)).toList l/\l<=a0.size/\(x+1<=l\/l=a0.size) :=
    λO8 v o4 L p4 v1 v2 s4=>⟨lo+v,rfl,⟨o4.kind,o4.perm,o4.fail⟩,by rw[Yr];exact p4.app ⟨rfl,v1,s4,rfl⟩,v2,.inl ⋯⟩
   rcases hb:(pendingOf _).back? with _|⟨s1,w1,pw⟩
   .exact SM (Xq (SY (F _ _ O3 _ P3 m1 m2 S3)))
   dsimp only;refine SM (VJ (Vk (I:=λ_ c O8=>c=(none,())/\Ok κ k a0 O8/\Pn κ (arrOf O8) 0 (pendingOf O8).toList lo/\SI κ (arrOf O8) lo _)
    (Q:=λc O8=>c=(none,())/\Ok κ k a0 O8/\Pn κ (arrOf O8) 0 (pendingOf O8).toList lo/\SI κ (arrOf O8) lo _) ?s1 (λ_ _ h=>h) ⟨rfl,O3,P3,S3⟩) ?p1)
   case s1 =>
    rintro y c O8 _ hy ⟨rfl,o4,p4,s4⟩;refine SM (XU ?_)
    by_cases Am:(pendingOf O8).size>1
    .rw[if_pos Am];obtain⟨⟨u1,u2,u3⟩,hu⟩:∃u,(pendingOf O8)[(pendingOf O8).size-2]?=some u:=⟨_,getElem?_pos (pendingOf O8) ((pendingOf O8).size-2) ⋯⟩
     rw[hu];dsimp only
     split
     .exact SY ⟨rfl,o4,p4,s4⟩
     .refine SM (CO hA ha o4 p4 (by show (pendingOf O8).size-2+1<(pendingOf O8).size;lia) ⋯ λRq o5 p5 _ q5=>?_);exact SY ⟨rfl,o5,p5,λi j a b i1 i2 i3 e1 e2=>by rw[q5 i i1] at e1;rw[q5 j ⋯] at e2;exact s4 i j a b i1 i2 i3 e1 e2⟩
    .rw[if_neg Am];exact SY ⟨rfl,o4,p4,s4⟩
   case p1 =>
    rintro c O8 ⟨rfl,o4,p4,s4⟩;dsimp only;refine SM (Xq (SM (Xq (SY ?_))));exact F O8 _ o4 _ (Pn.map (by rw[Array.toList_modify];refine oM _ _ ?_ _ _;exact λ_=>rfl) p4) m1 m2 s4
 case post =>
  rintro c Oc ⟨rfl,hO',hP⟩;dsimp only;have hl:=hP.le;rw[Tf] at hl;refine SM (VJ (Vk (I:=λx c Om=>c=(none,())/\Ok κ k a0 Om/\Pn κ (arrOf Om) 0 (pendingOf Om).toList a0.size/\(pendingOf Om).size<=max 1 (a0.size-x))
   (Q:=λc Om=>c=(none,())/\Ok κ k a0 Om/\Pn κ (arrOf Om) 0 (pendingOf Om).toList a0.size/\(pendingOf Om).size<=1) ?s2 ?f2 ⟨rfl,hO',hP,by lia⟩) ?p2)
  case f2 =>
   rintro c Om ⟨rfl,o2,p2,z2⟩;exact⟨rfl,o2,p2,by lia⟩
  case s2 =>
   rintro x c Om _ hx ⟨rfl,o2,p2,z2⟩;refine SM (XU ?_)
   by_cases hs1:(pendingOf Om).size<=1
   .rw[if_pos hs1];exact SY ⟨rfl,o2,p2,hs1⟩
   rw[if_neg hs1];refine SM (CO hA ha o2 p2 ?_ (SE _) λPH o3 p3 z3 _=>?_)
   .exact ix (n:=(pendingOf Om).size) ⋯
   .exact SY ⟨rfl,o3,p3,by lia⟩
  case p2 =>
   rintro c Om ⟨rfl,o2,p2,z2⟩;refine SY (h Om o2 ?_);rw[<- Tf] at z2;revert p2 z2;cases (pendingOf Om).toList with
   | nil=>intro p2 _;have:0=a0.size:=p2;lia
   | cons e L =>
    cases L with
    | nil=>rintro⟨q1,q2,q3,q4⟩ _;have:0+e.2.1=a0.size:=q4;rwa[this] at q3
    |cons e' L=>intro _ z;simp at z
end
end Srt
local macro_rules|`(tactic| walk_at "u8")=>`(tactic| unfold $(Lean.mkIdent (Lean.mkPrivateNameCore `PySem.Builtin.List.W1All `PySem.Builtin.keyLt)):ident)
namespace Srt
open PySem PyProof.Rows
theorem wC:∀a:List Int,HT.lexLt a a=false
 | []=>rfl
 |x::a=>by rw[HT.bJ,if_pos rfl];exact wC a
theorem CI:∀a b c:List Int,HT.lexLt a b=true->HT.lexLt b c=true->HT.lexLt a c=true
 | [],[],_,h,_=>by cases h
 | [],_::_,[],_,h=>by cases h
 | [],_::_,_::_,_,_=>rfl
 | _::_,[],_,h,_=>by cases h
 | _::_,_::_,[],_,h=>by cases h
 | x::a,y::b,z::c,h,h'=>by
  rw[HT.bJ] at h h' ⊢
  by_cases e:x=y
  .subst e;rw[if_pos rfl] at h
   split
   .rename_i e;rw[if_pos e] at h';exact CI a b c h h'
   .rename_i e;rw[if_neg e] at h';exact h'
  .rw[if_neg e] at h;have h:=of_decide_eq_true h
   by_cases e':y=z
   .subst e';rw[if_neg e];exact decide_eq_true h
   .rw[if_neg e'] at h';have h':=of_decide_eq_true h';rw[if_neg ⋯];exact decide_eq_true ⋯
theorem wA:∀a b c:List Int,HT.lexLt a c=true->HT.lexLt a b=true\/HT.lexLt b c=true
 | [],[],_::_,_=>.inr rfl
 | [],_::_,_,_=>.inl rfl
 | [],[],[],h=>by cases h
 | _::_,_,[],h=>by cases h
 | _::_,[],_::_,_=>.inr rfl
 | x::a,y::b,z::c,h=>by
  rw[HT.bJ] at h;rw[HT.bJ,HT.bJ]
  by_cases e:x=z
  .subst e;rw[if_pos rfl] at h
   by_cases e':x=y
   .subst e';rw[if_pos rfl,if_pos rfl];exact wA a b c h
   .rw[if_neg e',if_neg (λz=>e' z.symm)]
    by_cases q:x<y
    .exact .inl (decide_eq_true q)
    .exact .inr (decide_eq_true ⋯)
  .rw[if_neg e] at h;have h:=of_decide_eq_true h
   by_cases e':x=y
   .subst e';rw[if_neg e];exact .inr (decide_eq_true h)
   .by_cases q:x<y
    .rw[if_neg e'];exact .inl (decide_eq_true q)
    .rw[if_neg (show ¬ y=z by lia)];exact .inr (decide_eq_true ⋯)
theorem t8:∀a b:List Int,HT.lexLt a b=false->HT.lexLt b a=false->a=b
 | [],[],_,_=>rfl
 | [],_::_,h,_=>by cases h
 | _::_,[],_,h=>by cases h
 | x::a,y::b,h,h'=>by
  rw[HT.bJ] at h h'
  by_cases e:x=y
  .subst e;rw[if_pos rfl] at h h';rw[t8 a b h h']
  .rw[if_neg e] at h;rw[if_neg (λz=>e z.symm)] at h';have h:=of_decide_eq_false h;have h':=of_decide_eq_false h';lia
def TI(h:Heap)(v:Value)(ns:List Int):Prop:=∃a items,v=.ref a/\h.IsTuple a items/\IntsAre items.toList ns/\ns≠[]
theorem vN:∀{vs:List Value}{ns ms:List Int},IntsAre vs ns->IntsAre vs ms->ns=ms
 | _,_,_,.nil,h=>by cases h;rfl
 |_,_,_,.cons n t h,h'=>by cases h' with|cons _ _ h'=>rw[vN h h']
variable{ns:List Int}{v:Value}{h:Heap}
def TI.one{ms:List Int}(a:TI h v ns)(b:TI h v ms):ns=ms:=by
 obtain⟨a,i,rfl,⟨o,h1,_,n,h2⟩,h3,_⟩:=a;obtain⟨b,j,e,⟨p,g1,_,m,g2⟩,g3,_⟩:=b;cases e;rw[h1] at g1;cases g1;rw[h2] at g2;cases g2;exact vN h3 g3
open Classical in
def kt(h:Heap):KeyKind where
 α:=List Int
 blt:=HT.lexLt
 irrefl:=wC
 trans:=CI
 negTrans:=wA
 total:=t8
 keyOf v:=if hx:∃ns,TI h v ns then some (choose hx) else none
 dflt:=[]
open Classical in
def Aw(t:TI h v ns):(kt h).keyOf v=some ns:=by
 show (if hx:∃ns,TI h v ns then some (aaP hx) else none)=some ns;rw[dif_pos ⟨ns,t⟩];exact congrArg some ((ZI (⟨ns,t⟩:∃ns,TI h v ns)).one t)
open Classical in
def Gk(t:(kt h).keyOf v=some ns):TI h v ns:=by
 have t:(if hx:∃ns,TI h v ns then some (aaP hx) else none)=some ns:=t
 split at t
 .rename_i hx;cases t;exact ZI hx
 .cases t
variable{Q:Bool->Shared->Prop}{b:Bool}
section
variable{prog:Program}{w:World}{A:Around}{E:Value->Shared->Prop}{s:Shared}
def EB{a c:Int}{t u:Tok}(h:Q (decide (a<c)) s):wpAny ↑11 A (oneLt' b (.int a t) (.int c u)) Q E s:=by
 cases b
 .rw[oneLt'_eq];simp only[T5,if_false];refine Rz (HT.uU A s a t c u prog w _ _ ?_);exact Us h
 .exact oneLt_int h
theorem IJ{x y:Value}{ms:List Int}(hx:TI s.heap x ns)(hy:TI s.heap y ms)(h:Q (HT.lexLt ns ms) s):wpAny ↑11 A (keyLt' (tuples' b) x y) Q E s:=by
 unfold keyLt';walk_at "u8";dsimp only;obtain⟨a,i,rfl,⟨o,h1,_,n,h2⟩,h3,_⟩:=hx;obtain⟨c,j,rfl,⟨p,g1,_,m,g2⟩,g3,_⟩:=hy;refine Rz (Y6 h1 h2 (Rz (Y6 g1 g2 ?_)));have z1:i.size=ns.length:=by rw[<- h3.length];simp
 have z2:j.size=ms.length:=by rw[<- g3.length];simp
 refine Rz (Vc (wpAny_forIn_list _ (λrest z s'=>z=(none,())/\s'=s/\∃(vs ws:List Value)(QF QE:List Int)(k:Nat),rest=(vs.zip ws).zipIdx k/\IntsAre vs QF/\IntsAre ws QE ∧
   QF.length+ms.length=QE.length+ns.length/\HT.lexLt QF QE=HT.lexLt ns ms) (λz s'=>s'=s/\(z.1=some (HT.lexLt ns ms)\/z.1=none/\decide (i.size<j.size)=HT.lexLt ns ms)) ?_ ?_ _ _
   ⟨rfl,rfl,i.toList,j.toList,ns,ms,0,rfl,h3,g3,YY _ _,rfl⟩) (λz s' q=>?_) λ_ _ q=>q)
 .rintro⟨⟨p,q⟩,k'⟩ rest z s' ⟨rfl,rfl,vs,ws,QF,QE,k,e,i1,i2,hl,hx⟩;cases i1 with
  | nil=>rw[Yp] at e;cases e
  | cons a t i1 =>
   cases i2 with
   | nil=>rw[aag] at e;cases e
   | cons c u i2 =>
    rw[UX,VF] at e;injection e with e er
    injection e with e ek
    injection e with e1 e2
    subst e1 e2;rw[HT.bJ] at hx;simp only[Tj] at hl;obtain⟨v,hv,QL⟩:=HT.u5 A s' a t c u;refine Rz (hv prog w _ _ ?_);cases v with
    | true =>
     rw[if_pos (QL.mp rfl)] at hx;exact SA ⟨rfl,rfl,_,_,_,_,_,er,i1,i2,by lia,hx⟩
    | false =>
     rw[if_neg (λq=>Tq (QL.mpr q))] at hx;exact Rz (EB (SA ⟨rfl,.inl (congrArg some hx)⟩))
 .rintro z s' ⟨rfl,rfl,vs,ws,QF,QE,k,e,i1,i2,hl,hx⟩;refine⟨rfl,.inr ⟨rfl,?_⟩⟩;rw[z1,z2,<- hx];cases i1 with
  | nil =>
   cases i2 with
   | nil=>exact decide_eq_false (by simp only[VS] at hl;lia)
   | cons _ _ i2=>exact decide_eq_true (by simp only[VS,Tj] at hl;lia)
  | cons _ _ i1 =>
   cases i2 with
   | nil=>exact decide_eq_false (by simp only[VS,Tj] at hl;lia)
   | cons _ _ i2=>rw[UX,VF] at e;cases e
 .obtain⟨rfl,q|⟨q,q'⟩⟩:=q
  .rw[q];exact SA h
  .rw[q];dsimp only;rw[q'];exact SA h
def GX:kS prog w A s (kt s.heap) (tuples' b):=⟨λ_ _ _ _ _ _ hx hy h=>IJ (Gk hx) (Gk hy) h⟩
theorem wp_map{α β:Type}{f:α->Sem β}{R:α->β->Prop}:∀(l:List α){Q:List β->Shared->Prop},(∀v∈l,∀(Q':β->Shared->Prop),(∀r,R v r->Q' r s)->wpAny ↑11 A (f v) Q' E s) ->(∀rs,(∀r∈rs,∃v∈l,R v r)->rs.length=l.length->Q rs s)->wpAny ↑11 A (l.mapM f) Q E s
 | [],_,_,h=>by rw[List.mapM_nil];exact SA (h [] (λ_ q=>nomatch q) rfl)
 | x::l,Q,hf,h=>by
  rw[List.mapM_cons];refine Rz (hf x (.head _) _ λr hr=>Rz (wp_map l (R:=R) (λv hv=>hf v (.tail _ hv)) λrs hrs hl=>SA (h _ (λr' q=>?_) (by simp[hl]))));rcases SQ.mp q with rfl|q
  .exact⟨x,.head _,hr⟩
  .obtain⟨v,hv,q⟩:=hrs r' q;exact⟨v,.tail _ hv,q⟩
def GQ{vs:List Value}{Q:SortKind->Shared->Prop}(hv:∀v∈vs,∃ns,TI s.heap v ns)(h:∀b,Q (tuples' b) s):wpAny ↑11 A (keyKind' vs.toArray) Q E s:=by
 rw[keyKind'_eq,aaz,map_eq_pure_bind];refine Rz (Rz (wp_map (R:=λ_ r=>∃n t,r=some (WT n t)) _ (λv QP Q' q=>?_) λrs hrs _=>SA ?_))
 .obtain⟨ns,a,i,rfl,⟨o,h1,hc,n,h2⟩,h3,h4⟩:=hv v QP;rw[PySem.W.kas_first_eq];refine Rz (WD (T := "tuple") ⟨o,h1,hc⟩ ?_);rw[if_neg (by rw[bne_self_eq_false'];exact Tq)];refine Rz (Y6 h1 h2 (SA (q _ ?_)));generalize hi:i.toList=l at h3;cases h3 with
  | nil=>exact absurd rfl h4
  | cons n t _=>exact⟨n,t,by rw[<- Tu,hi];rfl⟩
 .rw[if_pos (by
   simp only[List.all_toArray,Uq];intro r hr;obtain⟨_,_,n,t,rfl⟩:=hrs r hr;rfl)]
  refine Rz (U9 ?_);rw[oneTypeOnly'_eq,List.filterMap_toArray,aaz,map_eq_pure_bind];refine Rz (Rz (Rz (wp_map (R:=λ_ _=>True) _ (λv QP Q' q=>?_) λrs' _ _=>SA ?_)))
  .obtain⟨x,hx,e⟩:=X5.mp QP;obtain⟨_,_,n,t,rfl⟩:=hrs x hx;cases e;exact SA (q _ trivial)
  .split
   .exact SA (SA (h _))
   .exact SA (SA (h _))
end
end Srt
namespace Srt
open PySem PyProof.Rows
def p7(vs:List Value):(pairsOf vs).toList=vs.map λv=>(v,v):=by
 unfold pairsOf;simp only[List.zip_toArray,List.toList_toArray]
 induction vs with
 | nil=>rfl
 |cons v vs ih=>rw[UX,ih];rfl
def Up(h:Heap)(l:List Value):Prop:=l.Pairwise λv w=>∀ns ms,TI h v ns->TI h w ms->HT.lexLt ms ns=false
variable{vs:List Value}
def Ie{h:Heap}{xs:Array Keyed}(hp:xs.Perm (pairsOf vs))(hs:SI (kt h) xs 0 xs.size):(xs.map (·.2)).toList.Perm vs/\Up h (xs.map (·.2)).toList:=by
 have hp:=VL.mp hp;rw[p7] at hp;have hm:∀p∈xs.toList,p.1=p.2:=λp Qj=>by
  obtain⟨v,_,rfl⟩:=TF.mp (hp.mem_iff.mp Qj);rfl
 rw[Array.toList_map];constructor
 .have:=hp.map (·.2);rw[Ti] at this;refine this.trans ?_;rw[show ((λx:Value×Value=>x.2)∘λv=>(v,v))=id from rfl,Ys]
 .unfold Up;rw[Xa];have hw:=hs.pw (i:=0) (j:=xs.size) (SX _) (SE _);rw[Array.extract_size] at hw;refine V5 (λ{p q} h1 h2 hpq ns ms t1 t2=>?_) hw;rw[<- hm p h1] at t1;rw[<- hm q h2] at t2;have:HT.lexLt (ky (kt h) q) (ky (kt h) p)=false:=hpq;rwa[show ky (kt h) q=ms from by unfold ky;rw[Aw t2];rfl,show ky (kt h) p=ns from by unfold ky;rw[Aw t1];rfl] at this
def TI.keep{h h':Heap}{v:Value}{ns:List Int}(k:∀b o,h.get? b=some o->o.cls=.type "tuple" -> h'.get? b=some o)(t:TI h v ns):TI h' v ns:=by
 obtain⟨a,i,e,⟨o,h1,hc,n,h2⟩,r⟩:=t;exact⟨a,i,e,⟨o,k a o h1 hc,hc,n,h2⟩,r⟩
section
variable{prog:Program}{w:World}{A:Around}{E:Value->Shared->Prop}{s:Shared}
theorem DQ{a:Addr}{n:Nat}{P:PySem.Fin->Shared->Prop}(ho:s.heap.get? a=some (seqObj "list" vs.toArray n))(hv:∀v∈vs,∃ns,TI s.heap v ns)(hz:vs.length<=sizeLine)(h:∀out:Array Value,out.toList.Perm vs->Up s.heap out.toList->P (.done (.ret .none)) { s with heap:=sortedHeap s.heap a vs out }):wpAny ↑11 A (Builtin.«list.sort» ⟨[.ref a],[]⟩) P E s:=by
 rw[list_sort_plain];have la:a<s.heap.objs.size:=SK ho;have hsz:vs.toArray.size=vs.length:=S2;refine Rz (Y6 ho rfl (Rz (Z_ ho rfl ?_ (by rwa[hsz]))));obtain⟨e1,o1⟩:∃e,(s.heap.update a (Vd λ_=>#[])).get? a=some (seqObj "list" #[] e):=⟨_,get?_update_seq ho _⟩
 refine Rz (seqEpoch_at o1 rfl (Rz (ZS (Rz (aaa (UE ?_))))));show wpAny ↑11 A _ P E { s with heap:=((s.heap.update a (Vd λ_=>#[])).push (seqObj "tuple" vs.toArray 0)).push (seqObj "list" #[] 0) };generalize hh6:((s.heap.update a (Vd λ_=>#[])).push (seqObj "tuple" vs.toArray 0)).push (seqObj "list" #[] 0)=h6;have o6:h6.get? a=some (seqObj "list" #[] e1):=by rw[<- hh6];exact Sw _ (Sw _ o1)
 have k6:∀b o,s.heap.get? b=some o->o.cls=.type "tuple" -> h6.get? b=some o:=λb o e c=>by
  rw[<- hh6];refine Sw _ (Sw _ ((S5 _ _ (λz=>?_)).trans e));subst z;rw[ho] at e;cases e;exact absurd c ↑13
 have hv6:∀v∈vs,∃ns,TI h6 v ns:=λv q=>(hv v q).imp λns t=>t.keep k6;have end_:∀st:SortSt,(arrOf st).Perm (pairsOf vs)->SI (kt h6) (arrOf st) 0 (arrOf st).size->P (.done (.ret .none)) { s with heap:=sortedHeap s.heap a vs ((arrOf st).map (·.2)) }:=λst p q=>by
  obtain⟨r1,r2⟩:=Ie p q;refine h _ r1 (Yt (λ{v w} q ns ms t1 t2=>q ns ms (t1.keep k6) (t2.keep k6)) r2)
 dsimp only
 by_cases h2:vs.toArray.size<2
 .rw[if_pos h2,if_pos h2];refine Rz (SA ?_);rw[StateT.run_pure];refine Rz (SA ?_);dsimp only;refine Rz (seqEpoch_at o6 rfl (Rz (Z_ o6 rfl ?_ (SX _) (by
   rw[aa4];show (pairsOf vs).size<=_;rw[Y7];exact aaA hz))))
  simp only[bne_self_eq_false,T5,if_false];refine SA ?_;rw[<- hh6] at end_ ⊢;exact end_ (SortSt.mk' general' (vs.toArray.zip vs.toArray) #[] 7 none) (aa1 _) (λi j x y i1 i2 i3 ex ey=>by
   have:i=j:=by
    have:(pairsOf vs).size=vs.length:=Y7 vs;have i3:j<(pairsOf vs).size:=i3;lia
   subst this;rw[ex] at ey;cases ey;exact le_refl _)
 .rw[if_neg h2,if_neg h2];refine Rz (GQ hv6 λb=>?_);refine Rz (Vc (G0 (s:={ s with heap:=h6 }) (κ:=kt h6) (k:=tuples' b) (a0:=pairsOf vs) (st:=SortSt.mk' (tuples' b) (vs.toArray.zip vs.toArray) #[] 7 none)
   (Q:=λ_ st=>failedOf st=none/\(arrOf st).Perm (pairsOf vs)/\SI (kt h6) (arrOf st) 0 (pairsOf vs).size) GX (λp hp=>?_) ⟨rfl,aa1 _,rfl⟩ rfl (by rw[Y7];lia)
   λst o q=>⟨o.fail,o.perm,q⟩) (λr s' q=>?_) λ_ _ e=>e)
  .rw[p7] at hp;obtain⟨v,q,rfl⟩:=TF.mp hp;obtain⟨ns,t⟩:=hv6 v q;exact⟨ns,Aw t⟩
  .obtain⟨⟨⟩,st⟩:=r;obtain⟨rfl,f,p,q⟩:=q;dsimp only;refine Rz (seqEpoch_at o6 rfl (Rz (Z_ o6 rfl ?_ (SX _) (by
    refine Ug (YT ((aa4 ..).trans (p.size_eq.trans (Y7 _)))) ?_;exact aaA hz))))
   rw[show failedOf st=none from f];simp only[bne_self_eq_false,T5,if_false];refine SA ?_;rw[<- p.size_eq] at q;rw[<- hh6] at end_ q ⊢;exact end_ st p q
end
end Srt
namespace L2
open PySem PySem.Spec PyProof.Rows
variable{x:Str}{i:Nat}{f:af->M PV}{e:Expr}{X:Cx}
section
variable{E:XK}{pos:Pos}
end
def adr:Value->Addr
 | .ref a=>a
 |_=>default
theorem rP:∀{as:List Addr}{us:List Value},Vals (as.map V.ref) us->us=as.map SN
 | [],_,.nil=>rfl
 |_::_,_,.cons h t=>by cases h;rw[rP t];rfl
theorem rO:∀(as:List Addr),Vals (as.map V.ref) (as.map SN)
 | []=>.nil
 |_::as=>.cons rfl (rO as)
def rY:List PV->Option (List (List Int))
 | []=>some []
 | p::ps=>match Ce p,rY ps with
  | some (n::ns),some ks=>some ((n::ns)::ks)
  |_,_=>none
def cX(ks:List (List Int)):List (List Int):=ks.mergeSort λa b=>!HT.lexLt b a
def Bw(a b c:List Int):(!HT.lexLt b a)=true->(!HT.lexLt c b)=true->(!HT.lexLt c a)=true:=by
 intro h1 h2;cases h:HT.lexLt c a
 .rfl
 .rcases Srt.wA c b a h with q|q
  .rw[q] at h2;exact h2
  .rw[q] at h1;exact h1
def vv(a b:List Int):((!HT.lexLt b a)||(!HT.lexLt a b))=true:=by
 cases h:HT.lexLt b a
 .rfl
 .cases h':HT.lexLt a b
  .rfl
  .have:=Srt.CI _ _ _ h h';rw[Srt.wC] at this;cases this
def fD(ks:List (List Int)):(cX ks).Perm ks:=List.mergeSort_perm _ _
def rA(ks:List (List Int)):(cX ks).Pairwise λa b=>HT.lexLt b a=false :=
 Yt (λ{a b} h=>by simpa using h) (List.pairwise_mergeSort Bw vv ks)
theorem Ak:∀{l l':List (List Int)},l.Perm l'->(l.Pairwise λa b=>HT.lexLt b a=false)->(l'.Pairwise λa b=>HT.lexLt b a=false)->l=l'
 | [],_,p,_,_=>p.nil_eq
 | x::l,[],p,_,_=>absurd p.length_eq ↑13
 | x::l,y::l',p,h,h'=>by
  rw[aaj] at h h';have e:x=y:=by
   rcases SQ.mp (p.mem_iff.mp (.head _)) with e|e
   .exact e
   .rcases SQ.mp (p.symm.mem_iff.mp (.head _)) with e'|e'
    .exact e'.symm
    .exact Srt.t8 _ _ (h'.1 x e) (h.1 y e')
  subst e;rw[Ak p.cons_inv h.2 h'.2]
theorem sx{Hs:Hp}:∀{xs:List PV}{vs:List V}{ks:List (List Int)},aB Hs xs vs->rY xs=some ks->∃as:List Addr,vs=as.map V.ref/\as.length=ks.length/\(∀a k,(a,k)∈as.zip ks->Hs a=some (.tup (k.map V.int))/\k≠[])
 | _,_,_,.nil,e=>by cases e;exact⟨[],rfl,rfl,λ_ _ h=>nomatch h⟩
 | _,_,_,.cons (p:=p) (ps:=ps) h t,e=>by
  unfold rY at e
  split at e
  .rename_i n ns ks h1 h2;cases e;obtain⟨a,rfl,ea⟩:=zj h h1;obtain⟨as,rfl,hl,hk⟩:=sx t h2;refine⟨a::as,rfl,by simp[hl],λb k q=>?_⟩;rw[UX] at q;rcases SQ.mp q with e|q
   .cases e;exact⟨ea,List.cons_ne_nil _ _⟩
   .exact hk b k q
  .cases e
theorem sk{Hs:Hp}:∀{as:List Addr}{ks:List (List Int)},as.length=ks.length->(∀a k,(a,k)∈as.zip ks->Hs a=some (.tup (k.map V.int)))->aB Hs (ks.map λns=>.tup (ns.map PV.int)) (as.map V.ref)
 | [],[],_,_=>.nil
 |a::as,k::ks,hl,h=>.cons (.tup (h a k (.head _)) (repL_ints _ k)) (sk (by simpa using hl) λb m q=>h b m (.tail _ q))
where repL_ints (Hs:Hp):∀ns:List Int,aB Hs (ns.map PV.int) (ns.map V.int)
 | []=>.nil
 |n::ns=>.cons (.int n) (repL_ints Hs ns)
def C9:List V->List Int
 | .int i::t=>i::C9 t
 |_=>[]
theorem rW:∀ns:List Int,C9 (ns.map V.int)=ns
 | []=>rfl
 |n::ns=>congrArg (n::·) (rW ns)
def Bj(H:Hp)(a:Addr):List Int:=match H a with
 | some (.tup vs)=>C9 vs
 |_=>[]
variable{H:Hp}
def xI{a:Addr}{ns:List Int}(h:H a=some (.tup (ns.map V.int))):Bj H a=ns:=by
 unfold Bj;rw[h];exact rW ns
theorem keys_map{H:Hp}:∀{as:List Addr}{ks:List (List Int)},as.length=ks.length->(∀a k,(a,k)∈as.zip ks->H a=some (.tup (k.map V.int))/\k≠[])->as.map (Bj H)=ks
 | [],[],_,_=>rfl
 |a::as,k::ks,hl,h=>by rw[S0,xI (h a k (.head _)).1,keys_map (by simpa using hl) λb m q=>h b m (.tail _ q)]
def rK:bootBuiltins "sorted"=some (.builtin "sorted"):=by decide +kernel
variable{ep:Nat}{es:Array DictEntry}{d:Addr}{s:Shared}{w:World}{prog:Program}
variable{Q:Value->Shared->Prop}
section
variable{A:Around}{E:Value->Shared->Prop}{it:Addr}
def gK(h:Heap)(d:Addr)(es:Array DictEntry)(ep:Nat):Prop:=∃o,h.get? d=some o/\o.ExactDict/\o.data=.dict es ep
def gK.ty(x:gK s.heap d es ep):s.TypeIs (.ref d) "dict" := by
 obtain⟨o,a,b,_⟩:=x;exact⟨o,a,b.1⟩
def gK.keep{h h':Heap}(x:gK h d es ep)(k:∀o,h.get? d=some o->h'.get? d=some o):gK h' d es ep:=by
 obtain⟨o,a,b⟩:=x;exact⟨o,k o a,b⟩
def xZ(nd:(d==sysModules)=false)(x:gK s.heap d es ep)(q:Q (.ref s.heap.objs.size) { s with heap:=s.heap.push { cls:=.type "dict_keyiterator",data:=.fields #[.ref d,.int 0 0,.int es.size 0,.int ep 0] } }):wpAny ↑11 A (pyIter (.ref d)) Q E s:=by
 have ty:=x.ty;obtain⟨o,x1,x2,x3⟩:=x;refine wpAny_pyIter_slot ty F.slot_dict_iter (Uc F.slot_dict_iter ty F.entry_dict_iter ?_ (F.args_dict_iter_1 _));unfold Builtin.«dict.__iter__»;refine Rz ?_;unfold Yl;refine Rz (Xh ty ?_);show wpAny _ _ (pure (SN d)) _ _ s;refine SA ?_;show wpAny _ _ (Xi d >>= _) _ _ s;unfold Xi;rw[if_neg (by rw[nd];exact Tq)];refine Rz (SA ?_);refine Rz (Vr x1 x3 (Rz (Zw x1 x3 ?_)));refine Rz (Ue (SA ⟨_,rfl,"dict_keyiterator",_,⟨_,SH _ rfl,rfl⟩,F.slot_dict_keyiterator_next.lookup,?_⟩));simpa [rawInt] using q
theorem xx{Q:Option Value->Shared->Prop}(y:s.heap.IsKeyIter it d i es.size ep)(x:gK s.heap d es ep)(lt:i<es.size)(q:∀h',h'.IsKeyIter it d (i+1) es.size ep->VW it s.heap h'->Q (some es[i].key) { s with heap:=h' }):wpAny ↑11 A (pyNext (.ref it)) Q E s:=by
 have yt:=y.typeIs;obtain⟨o,y1,y2,y3⟩:=y;obtain⟨p,x1,x2,x3⟩:=x;unfold pyNext;refine Rz (Vj (T4 (name:=Tp "__next__") yt F.slot_dict_keyiterator_next (Uc F.slot_dict_keyiterator_next yt F.entry_dict_keyiterator_next ?_ (F.args_dict_keyiterator_next_1 _))));refine Rz (SA (Rz (Rz ?_)))
 first|refine Rz (Vp yt (SA ?_))|refine Rz (V6 yt (SA ?_))
 refine Rz (wpAny_fieldsOf y1 y3 ?_);simp only[show XF "dict_keyiterator"=false by decide,T5,if_false];show wpAny _ _ (if (SN d==TY)=true then _ else _) _ _ s;rw[if_neg (show ¬ ((SN d==TY)=true) from Tq)];refine Rz (SA (Rz (Vr x1 x3 ?_)));rw[if_neg ↑13];refine Rz (SA (Rz (Zw x1 x3 ?_)));rw[if_neg ↑13];refine SA ?_;simp only[show ¬ ((i:Int)<0) from by lia,if_false,Ud,UL lt];refine Rz ?_
 first|refine Rz (Vp yt (SA ?_))|refine Rz (V6 yt (SA ?_))
 refine Rz (ZJ yt ?_);show wpAny _ _ (setField (.ref it) 1 (rawInt ((i:Int)+1)) >>= _) _ _ s;refine Rz (V_ y1 y3 ↑13 ?_);have y':(s.heap.update it (U7 (·.setIfInBounds 1 (rawInt ((i:Int)+1))))).IsKeyIter it d (i+1) es.size ep:=⟨_,TL _ y1 (VN (UZ y3 _)),(aaw ..).trans y2,by rw[UZ y3];simp[rawInt]⟩
 refine Rz (UE (Rz (ZJ (s:={ s with heap:=s.heap.update it (U7 (·.setIfInBounds 1 (rawInt ((i:Int)+1)))) }) y'.typeIs ?_)));show wpAny _ _ (pure es[i].key) _ _ _;exact SA (SA ⟨_,rfl,SA (q _ y' (V8 ..))⟩)
theorem Aa{Q:Option Value->Shared->Prop}(hh:A.handled=none)(y:s.heap.IsKeyIter it d i es.size ep)(x:gK s.heap d es ep)(ge:es.size<=i)(q:∀h',aaT it s.heap h'->Q none { s with heap:=h' }):wpAny ↑11 A (pyNext (.ref it)) Q E s:=by
 have yt:=y.typeIs;obtain⟨o,y1,y2,y3⟩:=y;obtain⟨p,x1,x2,x3⟩:=x;unfold pyNext;refine Rz (Vj (T4 (name:=Tp "__next__") yt F.slot_dict_keyiterator_next (Uc F.slot_dict_keyiterator_next yt F.entry_dict_keyiterator_next ?_ (F.args_dict_keyiterator_next_1 _))));refine Rz (SA (Rz (Rz ?_)))
 first|refine Rz (Vp yt (SA ?_))|refine Rz (V6 yt (SA ?_))
 refine Rz (wpAny_fieldsOf y1 y3 ?_);simp only[show XF "dict_keyiterator"=false by decide,T5,if_false];show wpAny _ _ (if (SN d==TY)=true then _ else _) _ _ s;rw[if_neg (show ¬ ((SN d==TY)=true) from Tq)];refine Rz (SA (Rz (Vr x1 x3 ?_)));rw[if_neg ↑13];refine Rz (SA (Rz (Zw x1 x3 ?_)));rw[if_neg ↑13];refine SA ?_;simp only[show ¬ ((i:Int)<0) from by lia,if_false,Ud,UI ge];refine Rz ?_
 first|refine Rz (Vp yt (SA ?_))|refine Rz (V6 yt (SA ?_))
 show wpAny _ _ (setField (.ref it) 0 .none >>= _) _ _ s;refine Rz (V_ y1 y3 ↑13 ?_);show wpAny _ _ (newExc (.type "StopIteration") [] >>= _) _ _ _;refine Rz ?_;simp only[newExc,newTuple];refine Rz (Ue (Rz (m:=firstArgMember _ _) (Yq (a:=TY) (by first|rfl|(simp only[firstArgMember];rfl)) (Ue ?_ (by size_fits)))) (by size_fits));simp only[raiseNew];refine Rz (wpAny_handled ?_);rw[show A.in1.handled=none from hh];refine Rz (SA (wpAny_throw ?_));refine Rz (Wb (T := "StopIteration") (b:=true) ⟨_,SH _ rfl,rfl⟩ X_ ?_);exact SA (q _ (((V8 ..).extBut.push _).push _))
def BB(hh:A.handled=none)(I d:Addr)(ne:d≠I)(es:Array DictEntry)(ep:Nat):Walks prog w A I [I,d] [I] es.size (λi v=>∃h:i<es.size,v=es[i].key) (λi h=>h.IsKeyIter I d i es.size ep/\gK h d es ep) where
 sub:=λb hb=>by simp at hb;simp[hb]
 frame:=λ_ _ _ st hk=>⟨st.1.at λo e=>hk I ↑13 o e,st.2.keep λo e=>hk d ↑13 o e⟩
 item:=λi s Q E hi st q=>xx st.1 st.2 hi λh' y' sb=>q _ h' s.toks ⟨hi,rfl⟩ ⟨y',st.2.keep λo e=>sb.extBut _ _ ne e⟩ λb o hb e=>sb.extBut b o (λz=>hb (by simp[z])) e
 done:=λs Q E st q=>Aa hh st.1 st.2 (SE _) λh' sb=>q h' s.toks λb o hb e=>sb b o (λz=>hb (by simp[z])) e
 self:=λ_ _ _ _ st q=>ZU st.1 q
def uV:typeLookup (.type "dict") "__len__"=pure (some (.builtin "dict.__len__")):=by rw[typeLookup_type,builtinLookup_eq_fast];kernel_rfl
def sF{R:Result->Shared->Prop}(hh:A.handled=none)(nd:(d==sysModules)=false)(x:gK s.heap d es ep)(S:Addr)(res:Value)(c:Nat)(hS:s.heap.get? S=some { cls:=.type "list",data:=.seq #[] c })(ne:S≠d)(q:∀h' tk OT c',(∀b o,b≠S->s.heap.get? b=some o->h'.get? b=some o)->h'.get? S=some { cls:=.type "list",dict:=none,data:=.seq OT c',slots:=#[] }->ItemsOf (λi v=>∃h:i<es.size,v=es[i].key) OT es.size->R (.ok (.ret res)) { s with heap:=h',toks:=tk })(hn:es.size<=sizeLine):wpAny ↑11 A.in1 (U5 (.ref S) (.ref d) res) (λfin s'=>match fin with|.done f=>R (.ok f) s'|.again c'=>c'.quiet=true/\codeAny ↑11 A c' R s') (λe s'=>R (.error e) s') s:=by
 have lS:=SK hS;have ld:d<s.heap.objs.size:=by obtain⟨o,a,_⟩:=x;exact SK a
 unfold U5;refine Rz (WD x.ty ?_);simp only[show Yz (.ref S) (.ref d)=false by simp[Yz,ne],show (Uy "dict" == Uy "list")=false by decide,show (Uy "dict" == Uy "tuple")=false by decide,Bool.or_false,T5,if_false];refine Rz (xZ nd x ?_);have x':gK (s.heap.push { cls:=.type "dict_keyiterator",data:=.fields #[.ref d,.int 0 0,.int es.size 0,.int ep 0] }) d es ep:=x.keep λo e=>Sw _ e;have y':(s.heap.push { cls:=.type "dict_keyiterator",data:=.fields #[.ref d,.int 0 0,.int es.size 0,.int ep 0] }).IsKeyIter s.heap.objs.size d 0 es.size ep:=⟨_,SH _ rfl,rfl,rfl⟩
 have t':=gK.ty (s:={ s with heap:=s.heap.push { cls:=.type "dict_keyiterator",data:=.fields #[.ref d,.int 0 0,.int es.size 0,.int ep 0] } }) x';refine Rz (UE ?_);unfold Builtin.List.listLengthHint;refine Rz (Zy t' uV ?_)
 wp_delta
 refine Rz (Wb (T := "dict") (b:=true) t' (by rw[isSubtype_type];kernel_rfl) ?_);show wpAny _ _ (typeOf (SN d) >>= _) _ _ _;refine Rz (WD t' (SA ?_));rw[if_pos ↑12];refine Rz (U9 (Rz ?_));show wpAny _ A.in1 (updateSeq S (·.push .none) >>= λ_=>updateSeq S (·.pop)) _ _ _;have e1:(s.heap.push { cls:=.type "dict_keyiterator",data:=.fields #[.ref d,.int 0 0,.int es.size 0,.int ep 0] }).get? S=some { cls:=.type "list",data:=.seq #[] c }:=Sw _ hS;refine Rz (UT e1 rfl ?_);have e2:=TL (Vd (·.push TY)) e1 rfl;refine UT (hz:=by seq_fits) e2 rfl ?_;have e3:=TL (Vd (·.pop)) e2 rfl;have kp:∀b o,b≠S->(s.heap.push { cls:=.type "dict_keyiterator",data:=.fields #[.ref d,.int 0 0,.int es.size 0,.int ep 0] }).get? b=some o->(((s.heap.push { cls:=.type "dict_keyiterator",data:=.fields #[.ref d,.int 0 0,.int es.size 0,.int ep 0] }).update S (Vd (·.push TY))).update S (Vd (·.pop))).get? b=some o:=λb o hb e=>(S5 _ _ hb.symm).trans ((S5 _ _ hb.symm).trans e);have sf:S ∉ [s.heap.objs.size,d]:=λm=>by
  rcases SQ.mp m with z|z
  .exact SW lS z
  .exact ne (S7.mp z)
 have W:=BB (prog:=prog) (w:=w) (A:=A.in1) hh s.heap.objs.size d (SW ld) es ep;refine SA ⟨Vl F.plain_extend_loop _,codeAny_extend_loopS W.toS hn _ sf _ es.size 0 _ _ _ rfl (SX _) ?_ e3 (ItemsOf.nil _) λs' OT c' hm P5 QI=>?_⟩
 .exact⟨y'.at λo e=>kp _ o (Uu lS) e,x'.keep λo e=>kp _ o ne.symm e⟩
 .rw[Moved.eq_with hm];refine q s'.heap s'.toks OT c' (λb ob hb e=>hm.heap b ob (λmem=>?_) (kp b ob hb (Sw _ e))) P5 QI;rcases SQ.mp mem with z|z
  .exact hb z
  .have:=SK e;rw[S7.mp z] at this;exact U6 _ this
def Ec(hh:A.handled=none)(nd:(d==sysModules)=false)(x:gK s.heap d es ep)(q:∀h' tk OT c',(∀b o,s.heap.get? b=some o->h'.get? b=some o)->h'.get? s.heap.objs.size=some { cls:=.type "list",dict:=none,data:=.seq OT c',slots:=#[] }->ItemsOf (λi v=>∃h:i<es.size,v=es[i].key) OT es.size->Q (.ref s.heap.objs.size) { s with heap:=h',toks:=tk })(hn:es.size<=sizeLine):wpAny ↑11 A (call (.type "list") [.ref d]) Q E s:=by
 have ld:d<s.heap.objs.size:=by obtain⟨o,a,_⟩:=x;exact SK a
 refine callType_codes (Q₁:=λob s₁=>ob=.ref s.heap.objs.size/\s₁={ s with heap:=s.heap.push { cls:=.type "list",data:=.seq #[] } }) F.called_list (F.typeCall_list_1 _) F.entry_list_init (code_list_new _ ⟨rfl,rfl⟩) λob s₁ e=>?_;obtain⟨rfl,rfl⟩:=e;have e0:(s.heap.push { cls:=.type "list",data:=.seq #[] }).get? s.heap.objs.size=some { cls:=.type "list",data:=.seq #[] }:=SH _ rfl;refine⟨⟨_,e0,rfl⟩,F.args_list_init_2 _ _,?_⟩;show wpAny _ _ (do let old <- Y8 (.ref s.heap.objs.size);Builtin.List.listUpdate (.ref s.heap.objs.size) (λ_=>#[]);letGo old.toList.reverse;U5 (.ref s.heap.objs.size) (.ref d) .none) _ _ _;refine Rz ?_;unfold Y8;refine Rz (TN e0 rfl (SA ?_));show wpAny _ _ (updateSeq s.heap.objs.size (λ_=>#[]) >>= λ_=>letGo (#[]:Array Value).toList.reverse >>= λ_=>U5 (.ref s.heap.objs.size) (.ref d) .none) _ _ _;refine Rz (UT e0 rfl (Rz (Uw ?_)));have e1:=TL (Vd (λ_=>(#[]:Array Value))) e0 rfl;have kp:∀b o,b≠s.heap.objs.size->(s.heap.push { cls:=.type "list",data:=.seq #[] }).get? b=some o->((s.heap.push { cls:=.type "list",data:=.seq #[] }).update s.heap.objs.size (Vd (λ_=>(#[]:Array Value)))).get? b=some o:=λb o hb e=>(S5 _ _ hb.symm).trans e;refine sF (A:=A.in1) (s:={ s with heap:=(s.heap.push { cls:=.type "list",data:=.seq #[] }).update s.heap.objs.size (Vd (λ_=>(#[]:Array Value))) }) hh nd (x.keep λo e=>kp _ o (SW ld) (Sw _ e)) _ _ _ e1 (Uu ld) (λh' tk OT c' hk P5 QI=>?_) hn;exact⟨rfl,q h' tk OT c' (λb o e=>hk b o (SW (SK e)) (kp b o (SW (SK e)) (Sw _ e))) P5 QI⟩
end
variable{ws:List V}{σ:St}{Hs:Hp}
section
variable{iL iS ic:Nat}{a b0 b1:Addr}{B H₀:Hp}{env:af}{xs ys:List PV}{vs:List V}
end
variable{it:af->M (List PV)}{wi:TI}
section
variable{E:XK}{Pm Om:Stmt}{rest:List Stmt}{iL iS ic:Nat}{fi fv:af->M PV}{g:af->M Out}
end
theorem KT.at{H:Hp}:∀{Oa:List (List Key×V)}{xs:List (List Key×Addr×Value)},KT H Oa xs->∀i (h:i<Oa.length) (h':i<xs.length),H xs[i].2.1=some (.tup (Oa[i].1.map kV))
 | _,_,.nil,i,h,_=>absurd h (XG i)
 | _,_,.cons a t,0,_,_=>a.2.1
 |_,_,.cons a t,i+1,h,h'=>KT.at t i (Y9 h) (Y9 h')
def JA(tk tv:TE):TE:=fun σ H Q=>∀p,H p=none->wg [(tk,tv)] σ (upd H p (.dT [])) λps H2=>∃v b k,ps=[(.ref b,v)]/\H2 b=some (.tup (k.map kV))/\H2 p=some (.dT [])/\Q (.ref p) (upd H2 p (.dT [(k,v)]))
def CM{k v:Expr}{tk tv:TE}{pos:Pos}(hu:X.A.units<cLine)(hk:PE X k tk)(hv:PE X v tv):PE X (.Dict [some k] [v] pos) (JA tk tv):=by
 intro N9 s σ H Q I q;have hn:=I.br.fresh (SE s.heap.objs.size);have I1:=I.laid (a:=s.heap.objs.size) (o:=.dT []) (h':=s.heap.push { cls:=.type "dict",data:=.dict #[] }) (t':=s.toks) (λ_ _ q=>Sw _ q) (SE _) (AW s.heap I.big);refine wpAny_Dict_any rfl rfl (λz=>nomatch z) (show 1<=15 by decide) (ck ((Bl hk hv E0) N9 _ σ _ _ I1 (q _ hn)) λws s2 h=>?_);obtain⟨_,H2,I2,rel,x,b,ks,rfl,hb,hp,q2⟩:=h;obtain⟨u1,u2⟩:∃w1 w2,ws=[(w1,w2)]/\RelV (.ref b) w1/\RelV x w2:=by
  cases rel with
  | cons a t=>cases t;exact⟨_,_,rfl,a.1,a.2⟩
 obtain⟨w2,rfl,r1,r2⟩:=u2;cases (show u1=SN b from r1);obtain⟨z,nd,xs,rl,dd⟩:=Gs I2.br hp;cases rl;unfold storeAll;rw[Wq];refine Rz (Rz (wpAny_dictSet_heap (hsz:=SX _) (knd:=tupleKind (bP X.prog X.w)) hu (tY I2.br hb) dd λh' RE hs=>SA ?_));show wpAny _ _ (forIn [] Y_ _) _ _ _;rw[Wa];refine SA ⟨.ref s.heap.objs.size,_,?_,rfl,q2⟩;obtain⟨o,es,ep,hq,h2,h3,h4,_,h5⟩:=RE;have:=ou (t':=s2.toks+(tupleKind (bP X.prog X.w)).draws ks) (ob:=.dT [(ks,x)]) I2 (by rw[hp];exact Uz) hs ⟨o,hq⟩ ⟨by show 1<=sizeLine;decide,nd,_,?_,o,es,ep,hq,h2,h3,h4,h5⟩
 .exact this
 .exact .cons ⟨rfl,by rwa[au (Ai hb hp (λz=>nomatch z))],r2⟩ .nil
abbrev ky(A:List Int):List Key:=A.map WX
def vU(A:List Int):(ky A).map kV=A.map V.int:=by rw[Ti];rfl
def Au{A B:List Int}(h:ky A=ky B):A=B:=(List.map_inj_right λa b h=>Sum.inl.inj h).mp h
section
variable{κ:Type}[DecidableEq κ]
end
section
variable(sm:List Int->List Int->List Int)(z r:List Int)
def y_:Nat->List Int
 | 0=>r
 |j+1=>sm (y_ j) r
def zL:Nat->List Int
 | 0=>z
 |j+1=>sm (zL j) r
def Nx(m:Nat)(S:List Int->Prop):List Int->Prop:=λB=>S B\/∃A j,S A/\j<m/\B=sm A (zL sm z r (j+1))
end
variable{p:Addr}
section
variable{H':Hp}{Oa kvs':List (List Key×V)}{vs vs':List Int}
end
variable{E:St->XK}{sem:List PV->M PV}
section
variable{K:SD}{sm:List Int->List Int->List Int}{S:List Int}
end
variable{base:Heap}{mg:Str->Option Value}{P:Program}
section
variable{K:SD}
end
def d_.raw{n m k:Nat}{es:List Expr}{t:TA}{p pos:Pos}(F:d_ X.prog X.w X.K X.mg X.base n x m sem)(hr:bU k X.A)(hn:n<=k)(hg:Gl X x)(O:gB X E)(ha:PA X (e::es) t)(PL:autoParam ↑7 aD._auto_1)(he:autoParam ↑0 aR._auto_1)(OM:autoParam ↑2 aR._auto_1):PE X (.Call (.Name x p) (e::es) [] pos) (wB (dY m (bq m sem)) [] E t):=by
 obtain⟨f,fd,ps,h1,h2,h3,h4,h5⟩:=F.ex;exact uN (p:=p) h5 (hr.mono hn) hg h1 h2 h4 .nil O ha PL he OM
theorem bU.u1{k:Nat}{A:Around}(r:bU k A):A.units+1<cLine:=by have:=r.units;lia
abbrev KD:=List (List Int×PV)
def l8(Oa:KD)(k:List Int):Option PV:=(Oa.find? λz=>decide (z.1=k)).map (·.2)
def putD(Oa:KD)(k:List Int)(p:PV):KD:=if (Oa.any λz=>decide (z.1=k))=true then Oa.map (λz=>if z.1=k then (z.1,p) else z) else Oa++[(k,p)]
def jS:List PV->Option (List Int)
 | []=>some []
 | .int i::r=>(jS r).map (i::·)
 |_=>none
def z8:PV->Option (List Int)
 | .tup xs=>jS xs
 |_=>none
theorem mL:∀ns:List Int,jS (ns.map PV.int)=some ns
 | []=>rfl
 |n::r=>by show (jS (r.map PV.int)).map (n::·)=_;rw[mL r];rfl
theorem oS:∀{xs:List PV}{ns:List Int},jS xs=some ns->xs=ns.map PV.int
 | [],_,h=>by cases h;rfl
 | .int i::r,ns,h=>by
  obtain⟨ms,e,rfl⟩:=Td.mp (show (jS r).map (i::·)=some ns from h);rw[oS e];rfl
variable{k:List Int}{v:V}
def ue{p:PV}(r:Rep Hs p v)(e:z8 p=some k):∃b,v=.ref b/\Hs b=some (.tup ((ky k).map kV)):=by
 cases r with
 | @tup a xs vs h rl =>
  have:=oS (show jS xs=some k from e);subst this;rw[vU,<- rl.ints];exact⟨a,rfl,h⟩
 |_=>cases e
theorem dr.length{H:Hp}:∀{Oa:KD}{us:List (List Key×V)},dr H Oa us->Oa.length=us.length
 | _,_,.nil=>rfl
 |_,_,.cons _ r=>by simp[r.length]
theorem dr.val{H:Hp}:∀{Oa:KD}{us:List (List Key×V)}(k:List Int),dr H Oa us->(∀p,l8 Oa k=some p->∃v,kz us (ky k)=some v/\Rep H p v)/\(l8 Oa k).isSome=(kz us (ky k)).isSome
 | _,_,k,.nil=>⟨λp h=>(by cases h),rfl⟩
 | _,_,k,.cons (k:=l) (p:=q) (v:=v) (ps:=ps) (vs:=vs) h r=>by
  obtain⟨i1,i2⟩:=r.val k
  by_cases e:l=k
  .subst e;have e1:l8 ((l,q)::ps) l=some q:=by simp[l8,US]
   have e2:kz ((ky l,v)::vs) (ky l)=some v:=lG rfl;rw[e1];exact⟨λp hp=>by cases hp;exact⟨v,e2,h⟩,by rw[show ((l.map WX,v)::vs)=(ky l,v)::vs from rfl,e2];rfl⟩
  .have e1:l8 ((l,q)::ps) k=l8 ps k:=by simp[l8,US,e]
   have e2:kz ((ky l,v)::vs) (ky k)=kz vs (ky k):=lM (λz=>e (Au z));rw[e1,show ((l.map WX,v)::vs)=(ky l,v)::vs from rfl,e2];exact⟨i1,i2⟩
def oQ(k:List Int)(Oa:KD):(Oa.any λz=>decide (z.1=k))=(l8 Oa k).isSome:=by
 induction Oa with
 | nil=>rfl
 | cons z r ih =>
  rw[Xr]
  by_cases e:z.1=k
  .simp[l8,US,e]
  .rw[decide_eq_false e,Bool.false_or,ih];simp[l8,US,e]
theorem dr.map_put{H:Hp}{k:List Int}{p:PV}{v:V}(h:Rep H p v):∀{Oa:KD}{us:List (List Key×V)},dr H Oa us->dr H (Oa.map λz=>if z.1=k then (z.1,p) else z) (us.map λz=>if z.1=ky k then (z.1,v) else z)
 | _,_,.nil=>.nil
 | _,_,.cons (k:=l) (p:=q) (v:=u) h2 r=>by
  rw[S0,S0]
  by_cases e:l=k
  .rw[if_pos e,if_pos (show l.map WX=ky k by rw[e])];exact .cons h (r.map_put h)
  .rw[if_neg e,if_neg (λz=>e (Au z))];exact .cons h2 (r.map_put h)
theorem dr.snoc{H:Hp}{k:List Int}{p:PV}{v:V}(h:Rep H p v):∀{Oa:KD}{us:List (List Key×V)},dr H Oa us->dr H (Oa++[(k,p)]) (us++[(ky k,v)])
 | _,_,.nil=>.cons h .nil
 |_,_,.cons h2 r=>.cons h2 (r.snoc h)
variable{us:List (List Key×V)}{Oa:KD}
def dr.put{p:PV}(h:Rep H p v)(r:dr H Oa us):dr H (putD Oa k p) (putK us (ky k) v):=by
 unfold putD putK;have e:(Oa.any λz=>decide (z.1=k))=us.any λz=>decide (z.1=ky k):=by rw[oQ,pH];exact(r.val k).2
 rw[e]
 split
 .exact r.map_put h
 .exact r.snoc h
def xV{a:Addr}{p:PV}(sm:aQ Hs H)(hd:Rd H a (.dT us))(r:Rep Hs p v)(e:z8 p=some k):Hb H a v (kz us (ky k)):=by
 obtain⟨b,rfl,hb⟩:=ue r e;exact .inr ⟨us,ky k,b,hd,rfl,sm _ _ hb,rfl⟩
variable{px:Pos}
variable{n:Bool}
variable{N9:List (Addr×Obj)}
section
variable{a b:Expr}{pos:Pos}{g:af->M PV}
def FD(n:Bool):R2:=λy x H Q=>∃a o,x=.ref a/\Hb H a y o/\Q (.bl (n ^^ o.isSome)) H
def tj(hu:X.A.units+1<cLine):gf X (compareOp .NotIn) (FD true):=by
 intro N9 s σ H y x iv u Q I ry rx h;obtain⟨a,o,rfl,g,q⟩:=h;cases rx;exact E4 hu I g ry λs3 I3=>⟨.bl (!o.isSome),H,I3,rfl,by rwa [Bool.true_xor] at q⟩
def IM(n:Bool)(Oa:KD)(p:PV):M PV:=match z8 p with
 | some k=>M.ok (.bl (n ^^ (l8 Oa k).isSome))
 |none=>none
def vp(n:Bool):PV->PV->M PV
 | p,.dR Oa=>IM n Oa p
 |_,_=>none
def AL:mi E (FD n) (vp n):=by
 intro σ Hs H p q v u Q s rp rq h;cases rq with
 | @dR a o Oa us hd rd =>
  have h':aq (IM n Oa p) (du Hs H Q) (XW (E σ) Hs H):=h;unfold IM at h'
  split at h'
  .rename_i k hk;refine⟨a,_,rfl,xV s (.inr ⟨o,s _ _ hd⟩) rp hk,?_⟩;rw[<- (rd.val k).2];exact du.flat h' s (.bl _)
  .exact h'.elim
 |_=>exact h.elim
def Ir{A:Around}{E:Value->Shared->Prop}(nd:(d==sysModules)=false)(x:gK s.heap d es ep)(q:Q (.int es.size s.toks) { s with toks:=s.toks+1 }):wpAny ↑11 A (call (.builtin "dict.__len__") [.ref d]) Q E s:=by
 have ty:=x.ty;obtain⟨o,x1,x2,x3⟩:=x;refine Uc F.slot_dict_len ty F.entry_dict_len ?_ (F.args_dict_len_1 _);unfold Builtin.«dict.__len__»;refine Rz ?_;unfold Yl;refine Rz (Xh ty ?_);show wpAny _ _ (pure (SN d)) _ _ s;refine SA ?_;show wpAny _ _ (dictSize d >>= _) _ _ s;refine Rz ?_;unfold dictSize;refine Rz (Vr x1 x3 (SA ?_));refine Rz ?_;unfold Builtin.Dict.pendingCount;rw[if_neg (by rw[nd];exact Tq)];refine SA ?_;unfold retInt;refine Rz (wpAny_mkInt ?_);refine SA ⟨_,rfl,?_⟩;simpa using q
theorem EH{A:Around}{E:Value->Shared->Prop}(nd:(d==sysModules)=false)(x:gK s.heap d es ep)(hz:es.size<=sizeLine)(q:Q (.int es.size (s.toks+1)) { s with toks:=s.toks+1+1 }):wpAny ↑11 A (call (.builtin "len") [.ref d]) Q E s :=
 call_len_slot (n:=es.size) x.ty F.slot_dict_len (λQ' q'=>Ir nd x q') ⋯ (by rw[sizeLine_eq] at hz;lia) q
def Ki{a:Addr}(I:Inv X N9 σ H s)(e:Rd H a (.dT us)):∃es ep,gK s.heap a es ep/\(a==sysModules)=false/\es.size=us.length/\us.length<=sizeLine:=by
 obtain⟨z,y,ks,rel,o,es,ep,h1,h2,h3,h4,h5⟩:=(show bf X.prog X.w H s.heap a (.dT us) from qY I.br e)
 have hl:ks.length=us.length:=(Paired.length rel).symm;exact⟨es,ep,⟨o,h1,h2,h3⟩,y,by rw[<- hl,<- Tf,h4,SG],z⟩
def Gn:List V->Hp->VK->Prop:=λxs H Q=>∃a us,xs=[.ref a]/\Rd H a (.dT us)/\Q (.int us.length) H
theorem zS:cv X (.builtin "len") Gn:=by
 intro N9 s σ H xs us Q I r h;obtain⟨a,vs,rfl,hd,q⟩:=h;obtain⟨u,rfl,rx⟩:=vals1 r;cases rx;obtain⟨es,ep,x,nd,e1,e2⟩:=Ki I hd;refine EH nd x ⋯ ⟨.int vs.length,H,I.tok _,?_,q⟩;rw[e1];exact⟨_,rfl⟩
def D7:List PV->M PV
 | [.dR Oa]=>M.ok (.int Oa.length)
 |_=>none
def Ej:jq E Gn D7:=by
 intro σ Hs H ps vs Q s r h;unfold D7 at h
 split at h
 .obtain⟨v,rfl,rp⟩:=r.one;cases rp with
  | @dR a o Oa us hd rd=>exact⟨a,us,rfl,.inr ⟨o,s _ _ hd⟩,by rw[<- rd.length];exact du.flat h s (.int _)⟩
 .exact h.elim
end
def nW(i:Nat)(env:af):M KD:=match env[i]? with
 | some (some (.dw Oa))=>M.ok Oa
 |_=>none
theorem aq.nW{i:Nat}{env:af}{Q:KD->Prop}{E:EX->Prop}(h:aq (L2.nW i env) Q E):∃Oa,env[i]?=some (some (.dw Oa))/\Q Oa:=by
 unfold L2.nW at h
 split at h
 .exact⟨_,by assumption,h⟩
 .exact h.elim
def SR.Nf{B H₀:Hp}{env:af}(r:SR B H₀ Hs H σ env)(hs:Hs p=none)(h0:H₀ p=none)(na:∀(j:Nat)(y:SV),env[j]?=some (some y)->gD y=true->σ[j]?≠some (some (.ref p)))(h:dr Hs Oa us):SR B H₀ Hs (upd H p (.dT us)) (σ.set i (some (.ref p))) (env.set i (some (.dw Oa))) :=
 r.chg (r.gr.jP hs h0) (λ_ _ q=>q) (λ_ e=>by cases e;exact⟨_,rfl,p,us,rfl,ay,hs,h0,h⟩) (λj y a u _ ej o z h1 h2 _=>⟨by rwa[au (λw=>by subst w;exact na j y ej o z)],h2⟩) λ_ _ _ k z _=>na k z
def SR.Lm{B H₀:Hp}{env:af}{a:Addr}{xs ys:KD}(r:SR B H₀ Hs H σ env)(e:env[i]?=some (some (.dw xs)))(hi:σ[i]?=some (some (.ref a)))(h:dr Hs ys us):SR B H₀ Hs (upd H a (.dT us)) σ (env.set i (some (.dw ys))):=by
 obtain⟨a',vs,h1,h2,h3,h4,h5⟩:=r.dw i xs e;rw[hi] at h1;cases h1;exact r.Cs hi (r.gr.jP h3 h4) (λ_ _ q=>q) (λ_ q=>by cases q;exact⟨_,rfl,a,us,rfl,ay,h3,h4,h⟩) (λj y b u n ej o z q1 q2 _=>⟨by rwa[au (λw=>by subst w;exact r.ap i j _ y b n e ej rfl o hi z)],q2⟩) λ_ _ _ k z n ek o=>r.ap i k _ z a n e ek rfl o hi
section
variable{E:XK}{ie:Expr}{pos pos':Pos}{g h:af->M PV}
def aW.side{o:HO}(s:aQ Hs H)(n:H p=none):aW Hs H Hs (upd H p o):=by
 have ne:∀c u,H c=some u->c≠p:=λc u e z=>by rw[z,n] at e;cases e
 exact⟨λ_ _ e=>e,λc u e=>by rwa[au (ne c u e)],λc u e=>by rw[au (ne c u (s c u e))];exact s c u e,λ_ _ e _ _=>e⟩
def Dl(i:Nat)(g f:af->M PV):af->M Out:=λenv=>(f env).bind λp=>(nW i env).bind λOa=>(g env).bind λq=>match z8 q with
 | some k=>if Oa.length<sizeLine then M.ok (.nx (env.set i (some (.dw (putD Oa k p))))) else none
 |none=>none
def DP(hu:X.A.units+1<cLine)(hi:X.N[i]?=some x)(hv:AN X.env.scope x)(hk:PE X ie (tE (λ_=>E) g))(he:PE X e (tE (λ_=>E) f))(hd:autoParam ↑7 aD._auto_1)(O7:autoParam ↑6 aD._auto_1)(hs:autoParam (swapsWith e (some (.Subscript (.Name x px) ie pos')) pos.line X.env=pure false) aR._auto_1):PS X (.Assign [.Subscript (.Name x px) ie pos'] e pos) (tS E (Dl i g f)):=by
 refine(EC hu (iE hi hv hd O7) hk he hs).imp λD σ H q=>iK q λB H₀ Hs H1 env p v sr rp hp=>?_;obtain⟨Oa,ex,hp⟩:=aq.nW (aq.bind hp);obtain⟨a,us,h1,h2,h3,h4,h5⟩:=sr.dw i Oa ex;refine⟨.ref a,h1,B,H₀,Hs,env,sr,(aq.bind hp).imp (λkp hq w Ol H2 g2 rk=>?_) λe he=>he.grow sr.gr⟩;have OL:=sr.grow g2
 split at hq
 .rename_i k hk
  split at hq
  .rename_i hz;obtain⟨b,rfl,hb⟩:=ue rk hk;have Rr:=g2.al _ _ h2;exact⟨a,_,rfl,Az.t Rr (OL.gr.sub _ _ hb) (by rwa[<- h5.length]),hq _ Ol _ (OL.Lm ex h1 ((h5.mono g2.st).put (rp.mono g2.st)))⟩
  .exact hq.elim
 .exact hq.elim
end
section
variable{ie:Expr}{pos pos':Pos}{g h:af->M PV}
def Lu(n:Bool)(i:Nat)(f:af->M PV):af->M PV:=λenv=>(f env).bind λp=>(nW i env).bind λOa=>IM n Oa p
def G4{Q:VK}(q:tE E (Lu n i f) σ H Q):J3 (FD n) (tE E f) (Cr i) σ H Q:=by
 refine oE q λB H₀ Hs H1 env p v sr rp hp=>?_;obtain⟨Oa,ex,hp⟩:=aq.nW (aq.bind hp);obtain⟨a,us,h1,h2,h3,h4,h5⟩:=sr.dw i Oa ex;unfold IM at hp
 split at hp
 .rename_i k hk;refine⟨.ref a,h1,a,_,rfl,xV sr.gr.sub (.inl h2) rp hk,?_⟩;rw[<- (h5.val k).2];exact du.flat hp sr.gr.sub (.bl _)
 .exact hp.elim
def GZ{op:CmpOp}(ho:gf X (compareOp op) (FD n))(hi:X.N[i]?=some x)(hv:AN X.env.scope x)(he:PE X e (tE E f))(hm:behindInMarks op (.Name x px)=false)(hd:autoParam ↑7 aD._auto_1)(O7:autoParam ↑6 aD._auto_1):PT X (.Compare e [op] [.Name x px] pos) (tT E (cR (Lu n i f))):=(xJ ho he (iE hi hv hd O7) hm).imp fun σ H Q q=>G4 (lU q)
end
def Inv.fz{a:Addr}(I:Inv X N9 σ H s)(e:H a=some (.dT us)):∃o,Inv X N9 σ (upd H a (.jx o (.dT us))) s:=by
 obtain⟨z,y,ks,rel,o,es,ep,h1,h2⟩:=(show bf X.prog X.w H s.heap a (.dT us) from I.br a _ e)
 refine⟨o,ou (t':=s.toks) I (by rw[e];exact Uz) ⟨rfl,λ_ _=>rfl⟩ ⟨o,h1⟩ ⟨h1,z,y,ks,?_,o,es,ep,h1,h2⟩⟩;exact(show KT H us ks from rel).keeps λc ys ec=>by rwa[au (Ai ec e (λz=>nomatch z))]
def MP(i:Nat)(env:af):af:=match env[i]? with
 | some (some (.dw Oa))=>env.set i (some (.sh (.dR Oa)))
 |_=>env
variable{o:Obj}
def SR.fz{B H₀:Hp}{env:af}{a:Addr}(r:SR B H₀ Hs H σ env)(e:env[i]?=some (some (.dw Oa)))(h1:σ[i]?=some (some (.ref a)))(h2:H a=some (.dT us))(h3:Hs a=none)(h4:H₀ a=none)(h5:dr Hs Oa us):SR B H₀ (upd Hs a (.jx o (.dT us))) (upd H a (.jx o (.dT us))) σ (env.set i (some (.sh (.dR Oa)))):=by
 obtain⟨g,st⟩:=(r.gr.jP (o:=.jx o (.dT us)) h3 h4).into ay h3 h4;exact r.Cs h1 g st (λ_ q=>by cases q;exact⟨_,rfl,.dR ay (h5.mono st)⟩) (λj y b u n ej o z q1 q2 _=>by
  have nb:b≠a:=λw=>by subst w;exact r.ap i j _ y b n e ej rfl o h1 z
  rw[au nb,au nb];exact⟨q1,q2⟩) λ_ q o=>by cases q;cases o
def LW(i:Nat)(f:af->M Out):af->M Out:=λenv=>f (MP i env)
def Ly{E:XK}{st:Stmt}{g:af->M Out}(i:Nat)(hs:PS X st (tS E g)):PS X st (tS E (LW i g)):=by
 intro N9 s σ H D I q;obtain⟨B,H₀,Hs,env,sr,q⟩:=q;unfold LW MP at q
 split at q
 .rename_i Oa e;obtain⟨a,us,h1,h2,h3,h4,h5⟩:=sr.dw i Oa e;obtain⟨o,I2⟩:=I.fz h2;exact hs N9 s σ _ D I2 ⟨B,H₀,_,_,sr.fz e h1 h2 h3 h4 h5,q⟩
 .exact hs N9 s σ H D I ⟨B,H₀,Hs,env,sr,q⟩
def LX(d:Addr)(o:Obj)(us:List (List Key×V)):It:=⟨λi H=>i<us.length/\H d=some (.jx o (.dT us)),λi H x H'=>H'=H/\∃k b,us[i]?=some k/\x=.ref b/\H b=some (.tup (k.1.map kV)),λi H=>us.length<=i/\H d=some (.jx o (.dT us))⟩
def wQ(I:Inv X N9 σ H s)(e:H d=some (.jx o (.dT us))):∃(es:Array DictEntry)(ep:Nat)(as:List Addr),o.data=.dict es ep/\s.heap.get? d=some o/\o.ExactDict/\(d==sysModules)=false/\us.length<=sizeLine/\es.size=us.length/\as.length=us.length ∧(∀i (h:i<es.size) (h':i<as.length),es[i].key=.ref as[i])/\∀i (h:i<as.length) (h':i<us.length),H as[i]=some (.tup (us[i].1.map kV)):=by
 obtain⟨e0,z,y,ks,rel,o',es,ep,h1,h2,h3,h4,h5⟩:=(show bf X.prog X.w H s.heap d (.jx o (.dT us)) from I.br d _ e)
 rw[e0] at h1;cases h1;have hl:ks.length=us.length:=(Paired.length rel).symm;refine⟨es,ep,ks.map (·.2.1),h3,e0,h2,y,z,by rw[<- hl,<- Tf,h4,SG],by rw[SG,hl],λi h h'=>?_,λi h h'=>?_⟩
 .have hi:i<ks.length:=by rw[SG] at h';exact h'
  have e2:es.toList[i]'(by rwa[Tf])=entryOfKey (tupleKind (bP X.prog X.w)) ks[i]:=by
   have:=Yg h4 (i:=i) (by rwa[Tf]);rw[this,UJ]
  rw[ZV] at e2;rw[e2,UJ];rfl
 .rw[UJ];exact KT.at rel i h' (by rwa[SG] at h)
variable{tg:Expr}
def Ar{K:SD}(it d:Addr)(o:Obj)(us:List (List Key×V))(es:Array DictEntry)(ep:Nat)(hd:o.data=.dict es ep)(hs:es.size=us.length):Turn P w K tg (LX d o us) [it] it (λi h=>h.IsKeyIter it d i es.size ep) where
 mem:=by simp
 obj:=λi h st b hb=>by
  have e:b=it:=by simpa using hb
  subst e;obtain⟨o,e,c,d⟩:=st;exact⟨o,e,λv z=>by rw[d] at z;cases z⟩
 keep:=λi h h' st k=>st.at λo e=>k it ↑13 o e
 item:=by
  intro X hP hw hK hc i N9 s σ H E I hf st hg;subst hP hw hK;obtain⟨f0,f1,f2,f3,f4,f5⟩:=hf it ↑13;obtain⟨RU,Q6,as,q1,q2,q3,q4,q5,q6,q7,q8,q9⟩:=wQ I hg.2;rw[hd] at q1;cases q1;have lt:i<es.size:=by rw[hs];exact hg.1
  have la:i<as.length:=by rw[q7];exact hg.1
  refine xx st ⟨o,q2,q3,hd⟩ lt λh' y' sb=>?_;have I1:Inv X N9 σ H { s with heap:=h' }:=I.turned (t':=s.toks) (λb o hb e=>sb.extBut b o hb e) f0 f1 f3 f4 f5;refine⟨_,rfl,?_⟩;obtain⟨o2,e2,c2,d2⟩:=id y';refine uW (s:={ s with heap:=h' }) e2 c2 d2 ↑12 ⟨.ref as[i],H,I1,q8 i lt la,⟨rfl,us[i]'hg.1,as[i],Sy hg.1,rfl,q9 i la hg.1⟩,y',λb hb=>(hf b hb).1⟩
 done:=by
  intro X hP hw hK hc i N9 s σ H E I hf st hg;subst hP hw hK;obtain⟨f0,f1,f2,f3,f4,f5⟩:=hf it ↑13;obtain⟨RU,Q6,as,q1,q2,q3,q4,q5,q6,q7,q8,q9⟩:=wQ I hg.2;rw[hd] at q1;cases q1;exact Aa (I.ok.hd hc) st ⟨o,q2,q3,hd⟩ (by rw[hs];exact hg.1) λh' eb=>⟨rfl,I.turned (t':=s.toks) (λb o hb e=>eb b o hb e) f0 f1 f3 f4 f5⟩
 self:=λ_ _ _ _ _ st h=>ZU st h
def Kd(tl:TE):TI:=fun σ H R=>tl σ H λx H1=>∃d o us,x=.ref d/\H1 d=some (.jx o (.dT us))/\R (LX d o us) H1
def IF{l:Expr}{tl:TE}(hl:PE X l tl):PI X tg l (Kd tl):=by
 intro N9 s σ H R I h;refine ck (hl N9 s σ H _ I h) λv s1 ⟨x,H1,I1,r1,q1⟩=>?_;obtain⟨d,o,us,e,hd,q⟩:=q1;subst e;obtain rfl:v=SN d:=r1;obtain⟨es,ep,as,q1,q2,q3,q4,q5,q6,q7,q8,q9⟩:=wQ I1 hd;refine xZ q4 ⟨o,q2,q3,q1⟩ ?_;have fp:∀(h':Heap) b,b∈[s1.heap.objs.size]->lj X N9 H1 b:=λh' b hb=>by
  have e:b=s1.heap.objs.size:=by simpa using hb
  subst e;exact I1.qL (SE _) (I1.br.fresh (SE _))
 exact⟨s1.heap.objs.size,[s1.heap.objs.size],_,_,H1,rfl,I1.kept (t':=s1.toks) λb o e=>Sw _ e,Ar _ d o us es ep q1 q6,⟨_,SH _ rfl,rfl,rfl⟩,fp s1.heap,q⟩
theorem dr.at{H:Hp}:∀{Oa:KD}{us:List (List Key×V)}{i:Nat}{k:List Key×V},dr H Oa us->us[i]?=some k->∃z,Oa[i]?=some z/\k.1=ky z.1
 | _,_,_,_,.nil,h=>by simp at h
 | _,_,0,_,.cons (k:=l) (p:=p) _ _,h=>by simp at h;subst h;exact⟨(l,p),rfl,rfl⟩
 | _,_,i+1,_,.cons _ r,h=>by
  obtain⟨z,e1,e2⟩:=dr.at (i:=i) r (by simpa using h);exact⟨z,by simpa using e1,e2⟩
theorem aB.tZ{H:Hp}:∀ns:List Int,aB H (ns.map PV.int) (ns.map V.int)
 | []=>.nil
 |n::r=>.cons (.int n) (aB.tZ r)
def aW.NI{b:Addr}(s:aQ Hs H)(h:H b=some (.tup ws)):aW Hs H (upd Hs b (.tup ws)) H:=by
 refine⟨λc u q=>?_,λ_ _ q=>q,λc u q=>?_,λc u q1 q2 q3=>?_⟩
 .by_cases z:c=b
  .subst z;rw[ay];have:=s _ _ q;rwa[h] at this
  .rw[au z];exact q
 .by_cases z:c=b
  .subst z;rw[ay] at q;rwa[h]
  .rw[au z] at q;exact s _ _ q
 .by_cases z:c=b
  .subst z;rw[h] at q2;cases q2;exact absurd rfl (q3 _)
  .rw[au z];exact q1
def C1{Oj:Hp}(hd:Oj d=some (.jx o (.dT us)))(r:dr Oj Oa us):i6 (LX d o us) Oj (Oa.map λz=>.tup (z.1.map PV.int)) where
 stop:=λi Hs H s1 s2 hi=>⟨by rw[<- r.length];simpa using hi,s2 _ _ (s1 _ _ hd)⟩
 go:=λi Hs H s1 s2 hi=>⟨by rw[<- r.length];simpa using hi,s2 _ _ (s1 _ _ hd)⟩
 uv:=λi Hs H x H2 s1 s2 hi y=>by
  obtain⟨rfl,k,b,e1,rfl,e2⟩:=y;obtain⟨z,e3,e4⟩:=r.at e1;rw[e4,vU] at e2;exact⟨.tup (z.1.map PV.int),_,by rw[Te,e3];rfl,aW.NI s2 e2,.tup ay (aB.tZ _)⟩
def rN(Oa:KD):List PV:=Oa.map λz=>.tup (z.1.map PV.int)
def BZ:PV->M (List PV)
 | .dR Oa=>M.ok (rN Oa)
 |_=>none
def keysOf(f:af->M PV):af->M (List PV):=λenv=>(f env).bind BZ
def Ef:x_ E (Kd (tE E f)) (keysOf f):=by
 intro σ H R q;refine b_ (K:=KI R) KI.g q λB H₀ Hs H1 env p v sr rp hp=>?_;cases rp with
 | @dR a o Oa us hd rd=>exact⟨a,o,us,rfl,sr.gr.sub _ _ hd,hp (LX a o us) Hs H1 (.refl sr.gr.sub) (C1 hd rd)⟩
 |_=>exact hp.elim
def kB(Hs H:Hp)(as:List Addr):Hp:=λc=>match Hs c with
 | some o=>some o
 |none=>if c∈as then H c else none
theorem aW.kB{Hs H:Hp}{as:List Addr}(s:aQ Hs H)(h:∀a∈as,∃ws,H a=some (.tup ws)):aW Hs H (L2.kB Hs H as) H:=by
 refine⟨λc u q=>by unfold L2.kB;rw[q],λ_ _ q=>q,λc u q=>?_,λc u q1 q2 q3=>?_⟩
 .unfold L2.kB at q;cases e:Hs c with
  | some o=>rw[e] at q;cases q;exact s _ _ e
  | none =>
   rw[e] at q;have q':(if c∈as then H c else none)=some u:=q
   split at q'
   .exact q'
   .cases q'
 .unfold L2.kB;rw[q1];show (if c∈as then H c else none)=none
  split
  .rename_i m;obtain⟨ws,e⟩:=h c m;rw[q2] at e;cases e;exact absurd rfl (q3 _)
  .rfl
def ya{as:List Addr}{a:Addr}(s:aQ Hs H)(m:a∈as)(h:H a=some (.tup ws)):kB Hs H as a=some (.tup ws):=by
 unfold kB;cases e:Hs a with
 | some o=>rw[<- h];exact(s _ _ e).symm
 |none=>show (if a∈as then H a else none)=_;rwa[if_pos m]
def IW:List V->Hp->VK->Prop:=λxs H Q=>∃d us,xs=[.ref d]/\Rd H d (.dT us)/\∀(l:Addr)(as:List Addr),H l=none->as.length=us.length->(∀i (h:i<as.length) (h':i<us.length),H as[i]=some (.tup (us[i].1.map kV)))->Q (.ref l) (upd H l (.lst (as.map V.ref)))
theorem wo(hc:X.calm=true):cv X (.type "list") IW:=by
 intro N9 s σ H xs us Q I r h;obtain⟨d,Oa,rfl,hd,q⟩:=h;obtain⟨u,rfl,rx⟩:=vals1 r;cases rx;obtain⟨z,y,ks,rel,o,es,ep,h1,h2,h3,h4,h5⟩:=(show bf X.prog X.w H s.heap d (.dT Oa) from qY I.br hd)
 have hl:ks.length=Oa.length:=(Paired.length rel).symm;have he:es.size=Oa.length:=by rw[<- hl,<- Tf,h4,SG]
 refine Ec (I.ok.hd hc) y ⟨o,h1,h2,h3⟩ (λh' tk acc c kp e it=>?_) (by rwa[he]);have ac:acc.toList=(ks.map λx=>SN x.2.1):=by
  refine W9 λi=>?_;rw[Tu,Te];rcases TU i ks.length with lt|ge
  .have la:i<acc.size:=by rw[it.1,he];lia
   obtain⟨hi,ev⟩:=it.2 i acc[i] (UL la);rw[UL la,ev,Sy lt];have:es[i]=entryOfKey (tupleKind (bP X.prog X.w)) ks[i]:=by
    have e2:es.toList[i]'(by rwa[Tf])=_:=Yg h4 _;rwa[ZV,UJ] at e2
   rw[this];rfl
  .rw[UI (by rw[it.1,he];lia),Wt ge];rfl
 refine⟨.ref s.heap.objs.size,_,I.laid (t':=tk) kp (SE _) (show bf X.prog X.w _ h' _ (.lst ((ks.map (·.2.1)).map V.ref)) from ⟨by simp;lia,acc.toList,c,?_,e⟩),rfl,q _ (ks.map (·.2.1)) (I.br.fresh (SE _)) (by simp[hl]) λi h h'=>?_⟩
 .rw[ac,Ti];have:∀l:List (List Key×Addr×Value),Vals (l.map (V.ref∘λx=>x.2.1)) (l.map λx=>SN x.2.1):=λl=>by
   induction l with
   | nil=>exact .nil
   | cons a r ih=>exact .cons rfl ih
  exact this ks
 .rw[UJ];exact KT.at rel i h' ⋯
def Dy{Oe:Hp}{as:List Addr}(r:dr Oe Oa us)(hl:as.length=us.length)(h:∀i (h:i<as.length) (h':i<us.length),H as[i]=some (.tup (us[i].1.map kV)))(s:aQ Hs H):aB (kB Hs H as) (rN Oa) (as.map V.ref):=by
 have gen:∀(bs:List Addr)(Oa:KD)(us:List (List Key×V)),dr Oe Oa us->bs.length=us.length->(∀b∈bs,b∈as)->(∀i (h:i<bs.length) (h':i<us.length),H bs[i]=some (.tup (us[i].1.map kV)))->aB (kB Hs H as) (rN Oa) (bs.map V.ref):=λbs=>by
  induction bs with
  | nil =>
   intro Oa us r hl _ _;cases r with
   | nil=>exact .nil
   | cons _ _=>cases hl
  | cons b bs ih =>
   intro Oa us r hl hm h;cases r with
   | nil=>cases hl
   | @cons k p v ps vs rp r =>
    have h0:=h 0 (Wk _) (Wk _);refine .cons (.tup (ya s (hm b SS) ?_) (aB.tZ k)) (ih ps vs r (Za hl) (λc hc=>hm c (SO _ hc)) λi h1 h2=>h (i+1) (aaQ h1) (aaQ h2));have:(ky k).map kV=k.map V.int:=vU k;rwa[<- this]
 exact gen as Oa us r hl (λ_ h=>h) h
theorem xw{as:List Addr}(hl:as.length=us.length)(h:∀i (h:i<as.length) (h':i<us.length),H as[i]=some (.tup (us[i].1.map kV))):∀a∈as,∃ws,H a=some (.tup ws):=λa m=>by
 obtain⟨i,hi,rfl⟩:=WK m;exact⟨_,h i hi ⋯⟩
section
variable{pos p:Pos}
def wI(i:Nat):af->M (List PV):=λenv=>(nW i env).bind λOa=>M.ok (rN Oa)
def zz(hc:X.calm=true)(hg:Gl X "list")(hm:X.mg "list"=none)(hi:X.N[i]?=some x)(hv:AN X.env.scope x)(hd:autoParam ↑7 aD._auto_1)(O7:autoParam ↑6 aD._auto_1)(h1:autoParam (starEach [.Name x px] X.env=(false,eval (.Name x px) X.env)::starEach [] X.env) aR._auto_1)(OM:autoParam ((backTo pos (starEach [] X.env)).any (·.1)=false) aR._auto_1):PE X (.Call (.Name "list" p) [.Name x px] [] pos) (tO E (wI i)):=(nr (wo hc) hg hm lE (cL (iE hi hv hd O7) i5 h1) ↑12 ↑12 h1 OM).imp fun σ H Q q=>by
 obtain⟨B,H₀,Hs,env,sr,q⟩:=q;obtain⟨Oa,ex,q⟩:=aq.nW (aq.bind q);obtain⟨a,us,h1,h2,h3,h4,h5⟩:=sr.dw i Oa ex;exact⟨.ref a,h1,a,us,rfl,.inl h2,λl as n hl hk=>q _ _ _ _ (aW.kB sr.gr.sub (xw hl hk)) (Dy h5 hl hk sr.gr.sub) n⟩
end
section
variable{A:Around}{E:Value->Shared->Prop}
def F4{R:Result->Shared->Prop}(hh:A.handled=none)(nd:(d==sysModules)=false)(x:gK s.heap d es ep)(hz:es.size<=sizeLine)(S:Addr)(c:Nat)(hS:s.heap.get? S=some { cls:=.type "list",data:=.seq #[] c })(ne:S≠d)(q:∀h' tk OT c',(∀b o,b≠S->s.heap.get? b=some o->h'.get? b=some o)->h'.get? S=some { cls:=.type "list",dict:=none,data:=.seq OT c',slots:=#[] }->ItemsOf (λi v=>∃h:i<es.size,v=es[i].key) OT es.size->R (.ok (.ret (.ref S))) { s with heap:=h',toks:=tk }):codeAny ↑11 A (.builtin "list.__iadd__" ⟨[.ref S,.ref d],[]⟩) R s:=by
 refine VU F.entry_list_iadd ?_;rw[U3 F.plain_list_iadd _];show wpAny _ _ (U5 (.ref S) (.ref d) (.ref S)) _ _ _;exact sF hh nd x S _ c hS ne q hz
def xq{Q:List Value->Shared->Prop}(hh:A.handled=none)(nd:(d==sysModules)=false)(x:gK s.heap d es ep)(hz:es.size<=sizeLine)(q:∀h' tk OT,(∀b o,s.heap.get? b=some o->h'.get? b=some o)->s.heap.objs.size<h'.objs.size->ItemsOf (λi v=>∃h:i<es.size,v=es[i].key) OT es.size->Q OT.toList { s with heap:=h',toks:=tk }):wpAny ↑11 A (collect (.ref d)) Q E s:=by
 have ld:d<s.heap.objs.size:=by obtain⟨o,a,_⟩:=x;exact SK a
 unfold collect;refine Rz (wpAny_runValue (VU entry_proto_collect' ?_));rw[U3 F.plain_proto_collect _];show wpAny _ _ (newList [] >>= λl=>again (Code.builtin "list.__iadd__" { pos:=[l,.ref d] })) _ _ _;refine Rz (aaa (SA ⟨Vl F.plain_list_iadd _,?_⟩));have e0:(s.heap.push { cls:=.type "list",data:=.seq #[] }).get? s.heap.objs.size=some { cls:=.type "list",data:=.seq #[] }:=SH _ rfl;refine F4 (s:={ s with heap:=s.heap.push { cls:=.type "list",data:=.seq #[] } }) (by simpa using hh) nd (x.keep λo e=>Sw _ e) hz s.heap.objs.size 0 e0 (Uu ld) (λh' tk OT c' kp e it=>?_);refine Rz (wpAny_load e ?_);exact SA (q h' tk OT (λb o hb=>kp b o (SW (SK hb)) (Sw _ hb)) (SK e) it)
def yM(hh:A.handled=none)(nd:(d==sysModules)=false)(x:gK s.heap d es ep)(hz:es.size<=sizeLine)(hv:∀i (h:i<es.size),∃ns,Srt.TI s.heap es[i].key ns)(q:∀h' tk (out:Array Value) (p:Addr) (c:Nat),(∀b o,s.heap.get? b=some o->h'.get? b=some o)->h'.get? p=some (seqObj "list" out c)->s.heap.objs.size<=p->out.toList.Perm (es.toList.map (·.key))->Srt.Up s.heap out.toList->Q (.ref p) { s with heap:=h',toks:=tk }):wpAny ↑11 A (call (.builtin "sorted") [.ref d]) Q E s:=by
 refine Calls.call_function_entry kind_sorted plain_sorted entry_sorted (args_sorted1 _) ?_;unfold Builtin.«sorted»;refine Rz (m:=checkCount "sorted" 1 1 _) (SA (Rz (xq (by simpa using hh) nd x hz λh1 tk acc kp le it=>Rz (aaa ?_ (by rwa[Tf,it.1])))));have ea:acc.toList=es.toList.map (·.key):=by
  refine W9 λi=>?_;rw[Tu,Te,Tu];rcases TU i es.size with lt|ge
  .have la:i<acc.size:=by rw[it.1];exact lt
   obtain⟨hi,ev⟩:=it.2 i acc[i] (UL la);rw[UL la,ev,UL lt];rfl
  .rw[UI (by rwa[it.1]),UI ge];rfl
 generalize hg:h1.push { cls:=.type "list",data:=.seq acc.toList.toArray }=g;have og:g.get? h1.objs.size=some (seqObj "list" acc.toList.toArray 0):=by rw[<- hg];exact SH _ rfl
 have kg:∀b o,s.heap.get? b=some o->g.get? b=some o:=λb o e=>by rw[<- hg];exact Sw _ (kp b o e)
 refine Rz (UE (Uc slot_list_sort ⟨_,og,rfl⟩ entry_list_sort (Srt.DQ (s:={ s with heap:=g,toks:=tk }) og (λv m=>?_) (by rwa[Tf,it.1]) λout p u=>⟨_,rfl,?_⟩) (args_list_sort _)))
 .rw[ea] at m;obtain⟨z,hm,rfl⟩:=TF.mp m;obtain⟨j,hj,rfl⟩:=Array.getElem_of_mem (Xv.mp hm);exact(hv j hj).imp λns t=>t.keep λb o e _=>kg b o e
 .refine SA ⟨_,rfl,?_⟩;obtain⟨c,e⟩:=sortedHeap_at (out:=out) og;exact q _ tk out h1.objs.size c (λb o e=>(sortedHeap_old (SW (W7 (SK e) le)) (SK (kg b o e))).trans (kg b o e)) e (Vz le) (by rwa[<- ea]) (Yt (λ{v w} q ns ms t1 t2=>q ns ms (t1.keep λb o e _=>kg b o e) (t2.keep λb o e _=>kg b o e)) u)
end
def Dv:List V->Hp->VK->Prop:=λxs H Q=>∃(d:Addr)(us:List (List Key×V)),xs=[.ref d]/\Rd H d (.dT us)/\(∀u∈us,∃ns:List Int,u.1=ky ns/\ns≠[]) ∧
 ∀(p:Addr)(as bs:List Addr),H p=none->as.length=us.length->(∀i (h:i<as.length) (h':i<us.length),H as[i]=some (.tup (us[i].1.map kV)))->bs.Perm as->(bs.Pairwise λa b=>∀ns ms:List Int,H a=some (.tup (ns.map V.int))->H b=some (.tup (ms.map V.int))->HT.lexLt ms ns=false)->Q (.ref p) (upd H p (.lst (bs.map V.ref)))
theorem oU(hc:X.calm=true):cv X (.builtin "sorted") Dv:=by
 intro N9 s σ H xs us Q I r h;obtain⟨d,Oa,rfl,hd,hn,q⟩:=h;obtain⟨u,rfl,rx⟩:=vals1 r;cases rx;obtain⟨z,y,ks,rel,o,es,ep,h1,h2,h3,h4,h5⟩:=(show bf X.prog X.w H s.heap d (.dT Oa) from qY I.br hd)
 have hl:ks.length=Oa.length:=(Paired.length rel).symm;have he:es.size=Oa.length:=by rw[<- hl,<- Tf,h4,SG]
 have kk:es.toList.map (·.key)=(ks.map (·.2.1)).map SN:=by rw[h4,Ti,Ti];rfl
 have tu:∀(a:Addr)(ns:List Int),H a=some (.tup (ns.map V.int))->ns≠[]->Srt.TI s.heap (.ref a) ns:=λa ns e ne=>by
  obtain⟨Ob,r1,p1,_⟩:=I.tuple (fJ.of e);exact⟨a,_,rfl,p1,intsAre_of r1,ne⟩
 have at_:∀i (h:i<ks.length),∃ns:List Int,H (ks[i]).2.1=some (.tup (ns.map V.int))/\ns≠[]:=λi h=>by
  have h':i<Oa.length:=by lia
  obtain⟨ns,e1,e2⟩:=hn Oa[i] (TZ h');have:=KT.at rel i h' h;rw[e1,vU] at this;exact⟨ns,this,e2⟩
 refine yM (I.ok.hd hc) y ⟨o,h1,h2,h3⟩ (by rwa[he]) (λi h=>?_) λh' tk out p c kp e le pm up=>?_
 .have hi:i<ks.length:=by lia
  obtain⟨ns,e1,e2⟩:=at_ i hi;have e3:es[i].key=.ref (ks[i]).2.1:=by
   have:=Yg kk (i:=i) (by simp;exact h);simpa using this
  rw[e3];exact⟨ns,tu _ ns e1 e2⟩
 .rw[kk] at pm;have pa:(out.toList.map adr).Perm (ks.map (·.2.1)):=by
   have:=pm.map adr
   rwa [Ti,show adr∘SN=id from rfl,Ys] at this
  have eo:out.toList=(out.toList.map adr).map SN:=by
   rw[Ti];refine(Ys _).symm.trans (Z5 λv hv=>?_);obtain⟨a,_,rfl⟩:=TF.mp (pm.mem_iff.mp hv);rfl
  have ln:(out.toList.map adr).length=Oa.length:=by rw[pa.length_eq,SG,hl]
  have ne:∀a∈out.toList.map adr,∀ns:List Int,H a=some (.tup (ns.map V.int))->ns≠[]:=λa ha ns e=>by
   obtain⟨k,hk,rfl⟩:=TF.mp (pa.mem_iff.mp ha);obtain⟨i,hi,rfl⟩:=WK hk;obtain⟨ms,e',ne⟩:=at_ i hi;rw[e] at e';rintro rfl;cases ms with
   | nil=>exact ne rfl
   | cons _ _=>cases e'
  refine⟨.ref p,_,I.laid (t':=tk) kp le (show bf X.prog X.w _ h' _ (.lst ((out.toList.map adr).map V.ref)) from ⟨by rwa[SG,ln],(out.toList.map adr).map SN,c,rO _,by rwa[<- eo]⟩),rfl,q _ (ks.map (·.2.1)) _ (I.br.fresh le) (by simp[hl]) (λi h h'=>?_) pa ?_⟩
  .rw[UJ];exact KT.at rel i h' ⋯
  .rw[eo] at up;have up:=Xa.mp up;exact V5 (λ{a b} ha hb up ns ms e1 e2=>up ns ms (tu _ _ e1 (ne a ha ns e1)) (tu _ _ e2 (ne b hb ms e2))) up
def uS:List PV->M PV
 | [.dR Oa]=>cM (∀z∈Oa,z.1≠[]) (M.ok (.lst ((cX (Oa.map (·.1))).map λns=>.tup (ns.map PV.int))))
 |_=>none
theorem dr.keys{H:Hp}:∀{Oa:KD}{us:List (List Key×V)},dr H Oa us->us.map (·.1)=Oa.map λz=>ky z.1
 | _,_,.nil=>rfl
 |_,_,.cons _ r=>by rw[S0,S0,r.keys]
theorem vz:jq E Dv uS:=by
 intro σ Hs H ps vs Q s r h;unfold uS at h
 split at h
 .rename_i Oa;obtain⟨v,rfl,rp⟩:=r.one;obtain⟨Qi,h⟩:=aq.cM h;cases rp with
  | @dR a o _ us hd rd =>
   refine⟨a,us,rfl,.inr ⟨o,s _ _ hd⟩,λu hu=>?_,λp as bs np hl hk pb up=>?_⟩
   .obtain⟨i,hi,rfl⟩:=WK hu;obtain⟨z,e1,e2⟩:=rd.at (Sy hi);exact⟨z.1,e2,Qi z (ZP e1)⟩
   .have g:=aW.kB s (xw hl hk);have ln:as.length=(Oa.map (·.1)).length:=by rw[hl,SG,rd.length]
    have hz:∀a k,(a,k)∈as.zip (Oa.map (·.1))->L2.kB Hs H as a=some (.tup (k.map V.int))/\k≠[]:=λa k q=>by
     obtain⟨i,hi,q⟩:=S9.mp q;rw[YI,UJ] at q;cases q;have Qc:i<as.length:=by simp at hi;lia
     have hu:i<us.length:=by lia
     have hkv:i<Oa.length:=by rwa[rd.length]
     refine⟨ya s (TZ Qc) ?_,Qi _ (TZ hkv)⟩;have:=hk i Qc hu;obtain⟨z,e1,e2⟩:=rd.at (Sy hu);rw[Sy hkv] at e1;cases e1;rwa[e2,vU] at this
    have s2:=g.sub;have kb:∀b∈bs,L2.kB Hs H as b=some (.tup ((Bj (L2.kB Hs H as) b).map V.int)):=λb hb=>by
     obtain⟨i,hi,e⟩:=S9.mp (pb.mem_iff.mp hb);have:=(hz as[i] ((Oa.map (·.1))[i]'(by rwa[<- ln])) (S9.mpr ⟨i,by rwa[UW,<- ln,Nat.min_self],by simp⟩)).1;rw[e] at this;rw[xI this];exact this
    have e:bs.map (Bj (L2.kB Hs H as))=cX (Oa.map (·.1)):=by
     refine Ak ((pb.map _).trans ?_) ?_ (rA _)
     .rw[keys_map ln hz];exact(fD _).symm
     .rw[Xa];exact V5 (λ{a b} ha hb q=>q _ _ (s2 _ _ (kb a ha)) (s2 _ _ (kb b hb))) up
    have h2:du (L2.kB Hs H as) H Q (.lst ((cX (Oa.map (·.1))).map λns=>.tup (ns.map PV.int))):=λw Oe H' g' r'=>h w Oe H' (g.trans g') r';refine du.lst h2 s2 ?_ p np;rw[<- e];refine sk ↑13 λa k q=>?_;obtain⟨i,hi,q⟩:=S9.mp q;rw[YI,UJ] at q;cases q;exact kb _ (TZ _)
 .exact h.elim
section
variable{E:XK}{pos p1 p2 Sv:Pos}{j:Nat}
end
section
variable{E:XK}{pos:Pos}{st:Stmt}{rest:List Stmt}{f:af->M Out}{g:af->M (List PV)}
end
section
variable{E:XK}{st:List Stmt}{g:af->M (List PV)}
end
section
variable{k n:Nat}{f:Addr}{fd:FuncData}{ps:List Str}{sem:List PV->M (List PV)}{p pos:Pos}{es:List Expr}{fs:af->M (List PV)}
end
section
variable{E:XK}{pos apos Oy:Pos}
end
section
variable{B H₀ Oe H':Hp}{env:af}{as:List Addr}
end
variable{js:List Nat}{ts:List Str}
section
variable{g:TG}{set:PV->af->M af}{fo:af->M (List PV)}{fs:List Str}
end
section
variable{ih:Nat}{D:Addr}{as:List Addr}{zs:List PV}{vs:List V}{B H₀ Oe H':Hp}{env:af}
end
section
variable{E:XK}{Pm:Stmt}{e2 e3 e4:Expr}{rest body:List Stmt}{ih ig:Nat}{g:TG}{set:PV->af->M af}{fo:af->M (List PV)}{g2:af->M PV}{u3:af->M Bool}{fb f:af->M Out}{Om PH O8:Stmt}
end
mutual
def u4:PV->Bool
 | .jz _=>false
 | .tup xs=>oZ xs
 | .lst xs=>oZ xs
 | .obj _ fs=>pS fs
 | .exc _ (some fs)=>pS fs
 | .dR _=>false
 |_=>true
def oZ:List PV->Bool
 | []=>true
 |p::r=>u4 p&&oZ r
def pS:List (Str×PV)->Bool
 | []=>true
 |p::r=>u4 p.2&&pS r
end
mutual
theorem Rep.kJ{Hs:Hp}{a:Addr}{ob:Obj}{ws:List V}(ha:Hs a=some (.jx ob (.lst ws))):∀{p:PV}{v:V},Rep Hs p v->u4 p=true->Rep (rem Hs a) p v
 | _,_,.dq,_=>.dq
 | _,_,.bl b,_=>.bl b
 | _,_,.int b,_=>.int b
 | _,_,.str b,_=>.str b
 | _,_,.fn b,_=>.fn b
 | _,_,.tup h r,n=>.tup (by rwa[h_ (λz=>by rw[z,ha] at h;cases h)]) (r.kJ ha n)
 | _,_,.lst h r,n=>.lst (by rwa[h_ (λz=>by rw[z,ha] at h;cases h)]) (r.kJ ha n)
 | _,_,.obj h r,n=>.obj (by rwa[h_ (λz=>by rw[z,ha] at h;cases h)]) (r.kJ ha n)
 | _,_,.wq h,n=>.wq (by rwa[h_ (λz=>by rw[z,ha] at h;cases h)])
 | _,_,.wW h h2 r,n=>.wW (by rwa[h_ (λz=>by rw[z,ha] at h;cases h)]) (by rwa[h_ (λz=>by rw[z,ha] at h2;cases h2)]) (r.kJ ha n)
 | _,_,.emp h,n=>.emp (by rwa[h_ (λz=>by rw[z,ha] at h;cases h)])
 | _,_,.jz _ _,n=>by cases n
 |_,_,.dR _ _,n=>by cases n
theorem aB.kJ{Hs:Hp}{a:Addr}{ob:Obj}{ws:List V}(ha:Hs a=some (.jx ob (.lst ws))):∀{p:List PV}{v:List V},aB Hs p v->oZ p=true->aB (rem Hs a) p v
 | _,_,.nil,_=>.nil
 | _,_,.cons h r,n=>by
  have n':=V0.mp (show (u4 _&&oZ _)=true from n);exact .cons (h.kJ ha n'.1) (r.kJ ha n'.2)
theorem gi.kJ{Hs:Hp}{a:Addr}{ob:Obj}{ws:List V}(ha:Hs a=some (.jx ob (.lst ws))):∀{p:List (Str×PV)}{v:List (Str×V)},gi Hs p v->pS p=true->gi (rem Hs a) p v
 | _,_,.nil,_=>.nil
 | _,_,.cons h r,n=>by
  have n':=V0.mp (show (u4 _&&pS _)=true from n);exact .cons (h.kJ ha n'.1) (r.kJ ha n'.2)
end
section
variable{a:Addr}
end
section
variable{o:Expr}{es:List Expr}{pos p:Pos}{k:Nat}{g:af->M PV}{fs:af->M (List PV)}{L:List (Addr×(List PV->M PV))}{K:SD}
end
end L2
namespace HT
open PySem PyProof.Rows
def qF(lt:Nat->Nat->Bool):Nat->Nat->Nat->Nat
 | 0,_,j=>j
 |n+1,i,j=>if lt i j then qF lt n (i+1) i else qF lt n (i+1) j
section
variable{prog:Program}{w:World}{A:Around}{E:Value->Shared->Prop}{I S ax:Addr}{R:Result->Shared->Prop}{items:Array Value}{lt:Nat->Nat->Bool}
theorem wx(hn:ax≠I)(hs:S≠I/\S≠ax)(hh:A.handled=none):∀(m i j:Nat)(t:Shared)(n:Nat)(v:Value),items.size=i+m->items[j]?=some v->j<i ->t.heap.get? S=some { cls:=.type "list",dict:=none,data:=.seq #[v,v] n,slots:=#[] }->(t.heap.IsListIter I ax i/\t.heap.IsList ax items) ->(∀i j u v h' tk,items[i]?=some u->items[j]?=some v->(∀c o,c≠I->c≠S->t.heap.get? c=some o->h'.get? c=some o)->∀Q E,Q (.bool (lt i j)) { t with heap:=h',toks:=tk }->wpAny ↑11 A.in1 (richCompare .Lt u v) Q E { t with heap:=h',toks:=tk }) ->(∀v h' tk,items[qF lt m i j]?=some v->(∀c o,c≠I->c≠S->t.heap.get? c=some o->h'.get? c=some o)->R (.ok (.ret v)) { t with heap:=h',toks:=tk }) ->codeAny ↑11 A (.builtin "min.loop" ⟨[.ref I,.none,.ref S],[]⟩) R t
 | 0,i,j,t,n,v,hsz,hv,hj,hS,hi,hc,h=>by
  have W:=Y0 (prog:=prog) (w:=w) (A:=A.in1) hh I ax hn items;obtain rfl:i=items.size:=by lia
  refine VU F.entry_min_loop ?_;rw[U3 F.plain_min_loop _];show wpAny _ A.in1 (seqItems? (.ref S) >>= _) _ _ t;refine Rz (TN hS rfl ?_);show wpAny _ A.in1 (tryCatch (pyNext (.ref I)) _ >>= _) _ _ t;refine Rz (We (W.done t _ _ hi λh' tk PM=>?_));have P5:=PM S _ (by simp[hs.1]) hS;show wpAny _ A.in1 (updateSeq S (λ_=>#[]) >>= _) _ _ _;refine Rz ?_;refine UT P5 rfl (Rz (Uw (SA ?_)));exact h v _ tk hv λc o h1 h2 e=>(S5 _ _ (UN h2)).trans (PM c o (by simp[h1]) e)
 | m+1,i,j,t,n,v,hsz,hv,hj,hS,hi,hc,h=>by
  have W:=Y0 (prog:=prog) (w:=w) (A:=A.in1) hh I ax hn items;have PR:(toString "min" ++ toString ".loop" : String)="min.loop" := by decide
  refine VU F.entry_min_loop ?_;rw[U3 F.plain_min_loop _];show wpAny _ A.in1 (seqItems? (.ref S) >>= _) _ _ t;refine Rz (TN hS rfl ?_);show wpAny _ A.in1 (tryCatch (pyNext (.ref I)) _ >>= _) _ _ t;refine Rz (We (W.item i t _ _ ⋯ hi λx h' tk hP Rb PM=>?_));have P5:=PM S _ (by simp[hs.1]) hS;show wpAny _ A.in1 (tryCatch (holding [x,x] (richCompare .Lt x v >>= _)) _ >>= _) _ _ _;refine Rz (We (UE (Rz (hc i j x v h' tk hP hv (λc o h1 h2 e=>PM c o (by simp[h1]) e) _ _ ?_))));refine Rz (UE (Us ?_));refine Rz (Uw (SA ?_));rw[qF] at h;cases k:lt i j with
  | true =>
   rw[k,if_pos rfl] at h;simp only[if_true];refine Rz ?_;refine UT P5 rfl (Rz (Uw ?_));rw[PR];refine SA ⟨Vl F.plain_min_loop _,wx hn hs hh m (i+1) i _ _ x ⋯ hP ⋯ (TL _ P5 rfl) (W.frame _ _ _ Rb λc hb o e=>?_) (λi' j' u' v' h2 QZ e1 e2 k2=>?_) λv' h2 QZ e1 k2=>?_⟩
   .exact(S5 _ _ (λz:S=c=>by subst z;simp at hb;rcases hb with z|z;exact hs.1 z;exact hs.2 z)).trans e
   .exact hc i' j' u' v' h2 QZ e1 e2 λc o h1 h3 e=>k2 c o h1 h3 ((S5 _ _ (UN h3)).trans (PM c o (by simp[h1]) e))
   .exact h v' h2 QZ e1 λc o h1 h3 e=>k2 c o h1 h3 ((S5 _ _ (UN h3)).trans (PM c o (by simp[h1]) e))
  | false =>
   rw[k,if_neg ↑12] at h;simp only[T5,if_false];refine Rz (Uw ?_);rw[PR];exact SA ⟨Vl F.plain_min_loop _,wx hn hs hh m (i+1) j _ _ v ⋯ hv ⋯ P5 Rb (λi' j' u' v' h2 QZ e1 e2 k2=>hc i' j' u' v' h2 QZ e1 e2 λc o h1 h3 e=>k2 c o h1 h3 (PM c o (by simp[h1]) e)) λv' h2 QZ e1 k2=>h v' h2 QZ e1 λc o h1 h3 e=>k2 c o h1 h3 (PM c o (by simp[h1]) e)⟩
theorem ze{t:Shared}{n:Nat}(hn:ax≠I)(hs:S≠I/\S≠ax)(hh:A.handled=none)(h0:0<items.size)(hS:t.heap.get? S=some { cls:=.type "list",dict:=none,data:=.seq #[] n,slots:=#[] })(hi:t.heap.IsListIter I ax 0/\t.heap.IsList ax items)(hc:∀i j u v h' tk,items[i]?=some u->items[j]?=some v->(∀c o,c≠I->c≠S->t.heap.get? c=some o->h'.get? c=some o)->∀Q E,Q (.bool (lt i j)) { t with heap:=h',toks:=tk }->wpAny ↑11 A.in1 (richCompare .Lt u v) Q E { t with heap:=h',toks:=tk })(h:∀v h' tk,items[qF lt (items.size-1) 1 0]?=some v->(∀c o,c≠I->c≠S->t.heap.get? c=some o->h'.get? c=some o)->R (.ok (.ret v)) { t with heap:=h',toks:=tk }):codeAny ↑11 A (.builtin "min.loop" ⟨[.ref I,.none,.ref S],[]⟩) R t:=by
 have W:=Y0 (prog:=prog) (w:=w) (A:=A.in1) hh I ax hn items;have PR:(toString "min" ++ toString ".loop" : String)="min.loop" := by decide
 refine VU F.entry_min_loop ?_;rw[U3 F.plain_min_loop _];show wpAny _ A.in1 (seqItems? (.ref S) >>= _) _ _ t;refine Rz (TN hS rfl ?_);show wpAny _ A.in1 (tryCatch (pyNext (.ref I)) _ >>= _) _ _ t;refine Rz (We (W.item 0 t _ _ h0 hi λv h' tk hP Rb PM=>?_));have P5:=PM S _ (by simp[hs.1]) hS;show wpAny _ A.in1 (updateSeq S (λ_=>#[v,v]) >>= _) _ _ _;refine Rz ?_;refine UT P5 rfl ?_;rw[PR];refine SA ⟨Vl F.plain_min_loop _,wx (lt:=lt) hn hs hh (items.size-1) 1 0 _ _ v ⋯ hP ↑12 (TL _ P5 rfl) (W.frame _ _ _ Rb λc hb o e=>?_) (λi j u v h2 QZ e1 e2 k2=>?_) λv h2 QZ e1 k2=>?_⟩
 .exact(S5 _ _ (λz:S=c=>by subst z;simp at hb;rcases hb with z|z;exact hs.1 z;exact hs.2 z)).trans e
 .exact hc i j u v h2 QZ e1 e2 λc o h1 h3 e=>k2 c o h1 h3 ((S5 _ _ (UN h3)).trans (PM c o (by simp[h1]) e))
 .exact h v h2 QZ e1 λc o h1 h3 e=>k2 c o h1 h3 ((S5 _ _ (UN h3)).trans (PM c o (by simp[h1]) e))
def Fh{s:Shared}{Q:Value->Shared->Prop}{l:Addr}(hl:s.heap.IsList l items)(h0:0<items.size)(hh:A.handled=none)(hc:∀i j u v h' tk,items[i]?=some u->items[j]?=some v->(∀c o,s.heap.get? c=some o->h'.get? c=some o)->∀Q E,Q (.bool (lt i j)) { s with heap:=h',toks:=tk }->wpAny ↑11 A.in1 (richCompare .Lt u v) Q E { s with heap:=h',toks:=tk })(h:∀v h' tk,items[qF lt (items.size-1) 1 0]?=some v->(∀c o,s.heap.get? c=some o->h'.get? c=some o)->Q v { s with heap:=h',toks:=tk }):wpAny ↑11 A (call (.builtin "min") [.ref l]) Q E s:=by
 have PR:(toString "min" ++ toString ".loop" : String)="min.loop" := by decide
 obtain⟨ob,eo,_⟩:=id hl;have OC:l<s.heap.objs.size:=SK eo;refine call_function_tree F.kind_min F.plain_min F.entry_min (F.args_min1 _) ?_;show wpAny _ A.in1 (VA "min" ["key","default"] 0 ⟨[],[]⟩ >>= _) _ _ s;refine Rz (Yq (show VA "min" ["key","default"] 0 ⟨[],[]⟩=pure [none,none] from rfl) ?_);refine Rz (SA ?_);refine Rz (Ww hl ?_);refine Rz (Ue ?_);rw[PR];have hsz:(s.heap.push { cls:=.type "list_iterator",data:=.fields #[.ref l,.int 0 0] }).objs.size=s.heap.objs.size+1:=TM ..;have n1:l≠s.heap.objs.size:=SW OC;have n2:s.heap.objs.size+1≠s.heap.objs.size:=Xo _;have n3:s.heap.objs.size+1≠l:=Uu (Vq OC);refine SA ⟨Vl F.plain_min_loop _,ze (lt:=lt) (I:=s.heap.objs.size) (ax:=l) (items:=items) n1 ⟨by rwa[hsz],by rwa[hsz]⟩ hh h0 (SH _ rfl) ⟨⟨_,Sw _ (SH _ rfl),rfl,rfl⟩,(hl.push _).push _⟩ (λi j u v h' tk e1 e2 k'=>?_) λv h' tk e1 k'=>?_⟩
 .exact hc i j u v h' tk e1 e2 λc o e=>k' c o (SW (SK e)) (by rw[hsz];exact SW (Vq (SK e))) (Sw _ (Sw _ e))
 .exact h v h' tk e1 λc o e=>k' c o (SW (SK e)) (by rw[hsz];exact SW (Vq (SK e))) (Sw _ (Sw _ e))
end
end HT
namespace L2
open PySem PySem.Spec PyProof.Rows
def yi:List (List Int)->List Int
 | []=>[]
 |x::r=>r.foldl (λb y=>if HT.lexLt y b then y else b) x
theorem ph(ks:List (List Int)):∀(m i j:Nat),ks.length=i+m->j<ks.length->HT.qF (λi j=>HT.lexLt (ks.getD i []) (ks.getD j [])) m i j<ks.length/\ks.getD (HT.qF (λi j=>HT.lexLt (ks.getD i []) (ks.getD j [])) m i j) []=(ks.drop i).foldl (λb y=>if HT.lexLt y b then y else b) (ks.getD j [])
 | 0,i,j,hl,hj=>by
  rw[Wj ⋯];exact⟨hj,rfl⟩
 | m+1,i,j,hl,hj=>by
  have hi:i<ks.length:=by lia
  have e:ks[i]=ks.getD i []:=by rw[SJ,Sy hi];rfl
  rw[Va hi,Wo,HT.qF,e];cases k:HT.lexLt (ks.getD i []) (ks.getD j []) with
  | true=>rw[if_pos rfl,if_pos rfl];exact ph ks m (i+1) i ⋯ hi
  |false=>rw[if_neg ↑12,if_neg ↑12];exact ph ks m (i+1) j ⋯ hj
def sC:List PV->M PV
 | [.lst xs]=>match rY xs with
  | some (k::ks)=>M.ok (.tup ((yi (k::ks)).map PV.int))
  | _=>none
 |_=>none
def Gi(K:SD):List V->Hp->VK->Prop:=λxs H Q=>∃(l:Addr)(as:List Addr)(ks:List (List Int)),xs=[.ref l]/\h9 K H l (as.map V.ref)/\as.length=ks.length/\(∀i a,as[i]?=some a->H a=some (.tup ((ks.getD i []).map V.int)))/\0<as.length ∧
 ∀a,as[HT.qF (λi j=>HT.lexLt (ks.getD i []) (ks.getD j [])) (as.length-1) 1 0]?=some a->Q (.ref a) H
variable{X:Cx}
def zK(hc:X.calm=true)(hu:X.A.units+64<cLine):cv X (.builtin "min") (Gi X.K):=by
 intro N9 s σ H xs us Q I r h;obtain⟨l,as,ks,rfl,hq,hl,ha,h0,q⟩:=h;cases r with
 | cons r1 r2 =>
  cases r2;cases (show _=SN l from r1);obtain⟨Ob,rv,p,hz⟩:=I.list hq;obtain rfl:=rP rv;have at_:∀{i:Nat}{u:Value},(as.map SN).toArray[i]?=some u->∃a,as[i]?=some a/\u=.ref a:=λ{i u} e=>by
   rw[ZE,Te] at e;cases e2:as[i]? with
   | none=>rw[e2] at e;cases e
   | some a=>rw[e2] at e;cases e;exact⟨a,rfl,rfl⟩
  refine HT.Fh (lt:=λi j=>HT.lexLt (ks.getD i []) (ks.getD j [])) p.isList (by simpa using h0) (I.ok.hd hc) (λi j u v h' tk e1 e2 kp Q' E' hq=>?_) λv h' tk e1 kp=>?_
  .obtain⟨a,ea,rfl⟩:=at_ e1;obtain⟨b,eb,rfl⟩:=at_ e2;have I':=I.kept (t':=tk) kp;obtain⟨Ob,r1,p1,_⟩:=I'.tuple (fJ.of (ha i a ea));obtain⟨Pw,r2,p2,_⟩:=I'.tuple (fJ.of (ha j b eb));have i1:IntsAre Ob.toArray.toList (ks.getD i []):=intsAre_of r1;have i2:IntsAre Pw.toArray.toList (ks.getD j []):=intsAre_of r2;exact HT.wb (A:=X.A.in1) p1 p2 i1 i2 (by show X.A.units+1<cLine;lia) hq
  .obtain⟨a,ea,rfl⟩:=at_ e1;exact⟨.ref a,H,I.kept kp,rfl,q a (by simpa using ea)⟩
theorem Fp{K:SD}{E:St->XK}:jq E (Gi K) sC:=by
 intro σ Hs H ps vs Q s r h;unfold sC at h
 split at h
 .rename_i xs
  split at h
  .rename_i k ks hk;cases r with
   | cons r1 r2 =>
    cases r2;cases r1 with
    | @lst l _ vs hl hx =>
     obtain⟨as,rfl,el,hz⟩:=sx hx hk;have at_:∀i a,as[i]?=some a->Hs a=some (.tup (((k::ks).getD i []).map V.int)):=λi a e=>by
      have hi:=(Tw.mp e).1;have:=hz a ((k::ks).getD i []) (S9.mpr ⟨i,by rw[UW];lia,by
       rw[YI,SJ,Sy ⋯];rw[(Tw.mp e).2];rfl⟩)
      first|exact this.1|exact this
     refine⟨l,as,k::ks,rfl,h9.of (s _ _ hl),el,λi a e=>s _ _ (at_ i a e),by rw[el];exact Wk _,λa e=>?_⟩;obtain⟨b1,b2⟩:=ph (k::ks) ((k::ks).length-1) 1 0 (by simp;lia) (Wk _);rw[el] at e;have:=at_ _ a e;rw[b2] at this;exact h (.ref a) Hs H (.refl s) (.tup this (aB.tZ _))
  .exact h.elim
 .exact h.elim
def FX(a v:Value):argsOk "max" ⟨[a],[(Tp "default",v)]⟩:=by unfold argsOk;kernel_rfl
section
variable{prog:Program}{w:World}{A:Around}{R:Result->Shared->Prop}{I:Addr}{fp wr:List Addr}{n:Nat}{P:Nat->Value->Prop}{St:Nat->Heap->Prop}
def NC(P:Nat->Value->Prop)(bt:Nat->Nat->Bool)(j:Nat)(b:Array Value):Prop:=match j with
 | 0=>b=#[]
 |j+1=>∃v,P (argBest bt j) v/\b=#[v,v]
theorem Di(W:Walks prog w A.in1 I fp wr n P St)(bt:Nat->Nat->Bool)(hcmp:CmpOf prog w A.in1 .Gt P bt)(S:Addr)(hSf:S ∉ fp)(d:Value){V:Value->Prop}(v0:n=0->V d)(v1:∀v,0<n->P (argBest bt (n-1)) v->V v):∀(k j:Nat)(s:Shared)(b:Array Value)(c:Nat),j+k=n->St j s.heap->NC P bt j b->s.heap.get? S=some { cls:=.type "list",dict:=none,data:=.seq b c,slots:=#[] } ->(∀v h' tk,V v->(∀b o,b ∉ wr->b≠S->s.heap.get? b=some o->h'.get? b=some o)->R (.ok (.ret v)) { s with heap:=h',toks:=tk }) ->codeAny ↑11 A (.builtin "max.loop" ⟨[.ref I,.none,.ref S],[("default",d)]⟩) R s:=by
 have nw:S ∉ wr:=λh=>hSf (W.sub _ h);have nm:(toString "max" ++ toString ".loop" : String)="max.loop" := by decide
 intro k
 induction k with
 | zero =>
  intro j s b c hk st hb hS hR;refine VU F.entry_max_loop ?_;rw[U3 F.plain_max_loop _];show wpAny _ A.in1 (seqItems? (.ref S) >>= _) _ _ s;refine Rz (TN hS rfl ?_);show wpAny _ A.in1 (tryCatch (pyNext (.ref I)) _ >>= _) _ _ s;refine Rz (We (W.done s _ _ ((show j=n by lia)▸st) λh' tk kp=>?_));cases j with
  | zero =>
   cases (show b=#[] from hb);exact Rz (U9 (SA (hR d h' tk (v0 ⋯) λb o nb _ e=>kp b o nb e)))
  | succ j =>
   obtain⟨v,pv,rfl⟩:=hb;show wpAny _ A.in1 (updateSeq S (λ_=>#[]) >>= _) _ _ _;refine Rz (UT (kp S _ nw hS) rfl (Rz (Uw (SA ?_))));exact hR v _ tk (v1 v ⋯ (by rwa[show n-1=j by lia])) λb o nb nS e=>(S5 _ _ (UN nS)).trans (kp b o nb e)
 | succ k ih =>
  intro j s b c hk st hb hS hR;refine VU F.entry_max_loop ?_;rw[U3 F.plain_max_loop _];show wpAny _ A.in1 (seqItems? (.ref S) >>= _) _ _ s;refine Rz (TN hS rfl ?_);show wpAny _ A.in1 (tryCatch (pyNext (.ref I)) _ >>= _) _ _ s;refine Rz (We (W.item j s _ _ ⋯ st λv h' tk hP Oc kp=>?_));have P5:=kp S _ nw hS;have up:∀u,(∀b o,b∈fp->h'.get? b=some o->(h'.update S (Vd λ_=>u)).get? b=some o):=λu b o hb e=>(S5 _ _ (λz:S=b=>hSf (z▸hb))).trans e;cases j with
  | zero =>
   cases (show b=#[] from hb);show wpAny _ A.in1 (updateSeq S (λ_=>#[v,v]) >>= _) _ _ _;refine Rz (UT P5 rfl ?_);rw[nm];exact SA ⟨Vl F.plain_max_loop _,ih 1 _ _ _ ⋯ (W.frame _ _ _ Oc λb hb o e=>up _ b o hb e) ⟨v,hP,rfl⟩ (TL _ P5 rfl) λu h2 t2 hv Sk=>hR u h2 t2 hv λb o nb nS e=>Sk b o nb nS ((S5 _ _ (UN nS)).trans (kp b o nb e))⟩
  | succ j =>
   obtain⟨u,pu,rfl⟩:=hb;show wpAny _ A.in1 (tryCatch (holding [v,v] (richCompare .Gt v u >>= _)) _ >>= _) _ _ _;refine Rz (We (UE (Rz (hcmp (j+1) (argBest bt j) v u _ _ _ hP pu ?_))));refine Rz (UE (Us (Rz (Uw (SA ?_)))));cases hb:bt (j+1) (argBest bt j) with
   | true =>
    rw[if_pos rfl];refine Rz (UT P5 rfl (Rz (Uw ?_)));rw[nm];exact SA ⟨Vl F.plain_max_loop _,ih (j+1+1) _ _ _ ⋯ (W.frame _ _ _ Oc λb hb o e=>up _ b o hb e) ⟨v,by simp only[argBest,hb,if_true];exact hP,rfl⟩ (TL _ P5 rfl) λu h2 t2 hv Sk=>hR u h2 t2 hv λb o nb nS e=>Sk b o nb nS ((S5 _ _ (UN nS)).trans (kp b o nb e))⟩
   | false =>
    rw[if_neg Tq];refine Rz (Uw ?_);rw[nm];exact SA ⟨Vl F.plain_max_loop _,ih (j+1+1) _ _ _ ⋯ Oc ⟨u,by simp only[argBest,hb,T5,if_false];exact pu,rfl⟩ P5 λu h2 t2 hv Sk=>hR u h2 t2 hv λb o nb nS e=>Sk b o nb nS (kp b o nb e)⟩
end
def lK(ns:List Int)(d:Int):Int:=match ns with
 | []=>d
 |n::r=>dy (λi j=>decide (i>j)) r n
variable{d:Int}{H:Hp}
def zd(hc:X.calm=true){N9:List (Addr×Obj)}{s:Shared}{σ:St}{Q:VK}{a:Addr}{ns:List Int}{t:Tok}(I:Inv X N9 σ H s)(hq:jC X.K H false a (ns.map V.int))(q:Q (.int (lK ns d)) H):wpAny ↑8 X.A (call (.builtin "max") [.ref a] [(Tp "default",.int d t)]) (EP X N9 σ Q) X.xe s:=by
 obtain⟨Ob,rv,p,hz⟩:=I.row hq;have RL:Ob.length=ns.length:=by have:=rv.length;simpa using this.symm
 obtain⟨oa,na,ea,_⟩:=p.obj;have OC:a<s.heap.objs.size:=SK ea;refine kmk_tree F.kind_max F.plain_max F.entry_max (FX _ _) ?_;show wpAny _ X.A.in1 (VA "max" ["key","default"] 0 ⟨[],[(Tp "default",.int d t)]⟩ >>= _) _ _ s;refine Rz (Yq (show VA "max" ["key","default"] 0 ⟨[],[(Tp "default",.int d t)]⟩=pure [none,some (.int d t)] from rfl) ?_);refine Rz (SA ?_);refine Rz (Ve p ?_);refine Rz (Ue ?_);rw[show (toString "max" ++ toString ".loop" : String)="max.loop" by decide];have ne:a≠s.heap.objs.size:=SW OC;refine SA ⟨Vl F.plain_max_loop _,Di (Walks.tuple (A:=X.A.in1) (I.ok.hd hc) s.heap.objs.size a ne Ob.toArray) _ (Z9 (λi=>ns.getD i 0) (λi v hv=>qj rv i v hv)) _ ?_ (.int d t) (V:=λv=>∃t,v=.int (lK ns d) t) (λh0=>?_) (λv h0 hv=>?_) Ob.toArray.size 0 _ #[] 0 ⋯ ⟨⟨_,Sw _ (SH _ rfl),rfl,rfl⟩,eO.push (b:=false) (eO.push (b:=false) p _) _⟩ rfl (SH _ rfl) λv h' tk hv kp=>?_⟩
 .rw[TM];intro m;rcases SQ.mp m with z|z
  .exact absurd z (Xo _)
  .exact absurd (S7.mp z) (Uu (Vq OC))
 .have:ns=[]:=List.eq_nil_of_length_eq_zero (by rw[<- RL];simpa using h0);subst this;exact⟨t,rfl⟩
 .cases ns with
  | nil=>simp[Wd.mp RL] at h0
  | cons n r =>
   obtain⟨t,e⟩:=qj rv _ _ hv;have e2:=vW (λi j=>decide (i>j)) n r;rw[show Ob.toArray.size-1=r.length by simp[RL],e2] at e;exact⟨t,e⟩
 .refine⟨.int _,H,I.kept (t':=tk) (λc x e'=>?_),hv,q⟩;have lt:=SK e';exact kp c x (by simp;exact SW lt) (by rw[TM];exact SW (Vq lt)) (Sw _ (Sw _ e'))
variable{f:af->M PV}
section
variable{E:St->XK}{e:Expr}{p pos kp p0:Pos}{tk:Tok}
def Hm(d:Int):Option (List Int)->M PV
 | some ns=>M.ok (.int (lK ns d))
 |none=>none
def maxD(d:Int):PV->M PV
 | .tup xs=>Hm d (jS xs)
 |_=>none
def uD(d:Int)(f:af->M PV):af->M PV:=λenv=>(f env).bind (maxD d)
def Eg(hc:X.calm=true)(hg:Gl X "max")(hm:X.mg "max"=none)(he:PE X e (tE E f))(h1:autoParam (starEach [e] X.env=(false,eval e X.env)::starEach [] X.env) aR._auto_1):PE X (.Call (.Name "max" p) [e] [⟨some "default",.Constant (.int d) tk p0,kp⟩] pos) (tE E (uD d f)):=by
 intro N9 s σ H Q I h;refine Wi (iy I hg hm v9 ?_ ↑12 ↑12);have h':oY (tE E f) Bv σ H λvs H1=>∃a ns,vs=[.ref a]/\jC X.K H1 false a (ns.map V.int)/\Q (.int (lK ns d)) H1:=by
  refine oE h λB H₀ Hs H1 env p v sr rp hp=>?_;cases rp with
  | @tup a xs vs ha rl =>
   have Qj:aq (Hm d (jS xs)) _ _:=hp;cases en:jS xs with
   | none=>rw[en] at Qj;exact Qj.elim
   | some ns =>
   rw[en] at Qj;rw[oS en] at rl;exact⟨a,ns,rfl,by rw[<- rl.ints];exact fJ.of (sr.gr.sub _ _ ha),Qj _ _ _ (.refl sr.gr.sub) (.int _)⟩
  | _=>exact hp.elim
 refine callWith_builtin_kwB (by rw[h1];rfl) rfl (evalArgs_kw2 rfl (ck ((cL he i5 h1) pos N9 s σ H _ I h') λus s1 ⟨vs,H1,I1,r1,a,ns,e1,hq,q1⟩=>?_) h1);subst e1;obtain⟨u,rfl,ru⟩:=vals1 r1;cases ru;refine ck ((FL xp IY) pos N9 s1 σ H1 (λzs H2=>zs=[.int d]/\H2=H1) I1 ⟨rfl,rfl⟩) λws s2 ⟨zs,H2,I2,r2,e2,e3⟩=>?_;subst e2 e3;obtain⟨z,rfl,rz⟩:=vals1 r2;obtain⟨t,rfl⟩:=rz;exact zd hc I2 hq q1
end
section
variable{E:St->XK}{ke ve:Expr}{px:Pos}{g:af->M PV}
def IS(p q:PV):M PV:=match z8 p with
 | some k=>M.ok (.dR [(k,q)])
 |none=>none
def JR(f g:af->M PV):af->M PV:=λenv=>(f env).bind λp=>(g env).bind λq=>IS p q
def DY(hu:X.A.units<cLine)(hk:PE X ke (tE E f))(hv:PE X ve (tE E g)):PE X (.Dict [some ke] [ve] px) (tE E (JR f g)):=by
 intro N9 s σ H Q I q;refine ck (CM hu hk hv N9 s σ H (λv H'=>∃p us,v=.ref p/\H' p=some (.dT us)/\∀o,Q v (upd H' p (.jx o (.dT us)))) I ?_) λv s1 ⟨x,H1,I1,r1,p,us,e,hd,q1⟩=>?_
 .obtain⟨B,H₀,Hs,env,sr,q⟩:=q;intro p n;have sf:=(sr.free n).1;have g0:aW Hs H Hs (upd H p (.dT [])):=aW.side sr.gr.sub n;have sr0:=sr.grow g0;refine⟨B,H₀,Hs,env,sr0,(aq.bind q).imp (λpk hp v Oj H1 g1 rk=>?_) λe he=>he.grow g0⟩;have QA:=sr0.grow g1;refine⟨B,H₀,Oj,env,QA,(aq.bind hp).imp (λpv hq u Ol H2 g2 rv=>?_) λe he=>he.grow (g0.trans g1)⟩;unfold IS at hq
  split at hq
  .rename_i k hk;obtain⟨b,rfl,hb⟩:=ue (rk.mono g2.st) hk;have Am:H2 p=some (.dT []):=g2.al _ _ (g1.al _ _ ay);have Py:Ol p=none:=g2.nw _ _ (g1.nw _ _ sf ay (λ_=>nofun)) (g1.al _ _ ay) (λ_=>nofun);have gg:=g0.trans (g1.trans g2);refine⟨u,b,ky k,rfl,gg.sub _ _ hb,Am,p,_,rfl,ay,λo=>?_⟩;have st:aQ Ol (upd Ol p (.jx o (.dT [(ky k,u)]))):=λc w e=>by rwa[au (λz=>by rw[z,Py] at e;cases e)]
   refine hq (.ref p) (upd Ol p (.jx o (.dT [(ky k,u)]))) _ ⟨λc w e=>st c w (gg.st c w e),λc w e=>?_,λc w e=>?_,λa w e1 e2 e3=>?_⟩ (.dR ay (.cons (rv.mono st) .nil))
   .have nc:c≠p:=λz=>by rw[z,n] at e;cases e
    rw[au nc,au nc];exact gg.al c w e
   .by_cases z:c=p
    .subst z;rw[ay] at e ⊢;exact e
    .rw[au z] at e;rw[au z,au z];exact gg.sub c w e
   .have nc:a≠p:=λz=>by rw[z,n] at e2;cases e2
    rw[au nc];exact gg.nw a w e1 e2 e3
  .exact hq.elim
 .subst e;obtain⟨o,I2⟩:=I1.fz hd;exact⟨_,_,I2,r1,q1 o⟩
end
def aB.last{xs:List PV}{vs:List V}{p:PV}(r:aB H xs vs)(e:xs.getLast?=some p):∃v,vs[vs.length-1]?=some v/\Rep H p v:=by
 rw[List.getLast?_eq_getElem?] at e;obtain⟨v,h1,h2⟩:=r.get e;exact⟨v,by rwa[<- r.length],h2⟩
theorem aB.dropLast{H:Hp}{xs:List PV}{vs:List V}(r:aB H xs vs):aB H xs.dropLast vs.dropLast:=by
 rw[ZK,ZK,r.length];exact r.take _
theorem aq.aa{i:Nat}{env:af}{Q:PV->Prop}{F:EX->Prop}(h:aq (aa i env) Q F):∃p,env[i]?=some (some (.sh p))/\Q p:=by
 unfold L2.aa at h
 split at h
 .exact⟨_,by assumption,h⟩
 .exact h.elim
section
variable{E:XK}{ce:Expr}{pos pos':Pos}{i j k l:Nat}{x:Str}{sem:List PV->M PV}
def Ab(i l j k:Nat)(sem:List PV->M PV):af->M Out:=λenv=>(ownAt l env).bind λxs=>(eB xs.getLast?).bind λp=>(aa j env).bind λa=>(aa k env).bind λb=>(sem [a,p,b,.int 1]).bind λq=>M.ok (.nx ((env.set l (some (.ow xs.dropLast))).set i (some (.sh q))))
def HF(hc:PE X ce (wB (dY 4 sem) [] (λ_=>E) (oY (Cr j) (oY (K9 X.K "list" Lh (Cr l)) (oY (Cr k) (oY (tC (.int 1)) Bv))))))(hN:X.N.Nodup)(hi:X.N[i]?=some x)(hx:Loc X.env.scope x)(hs:autoParam (swapsWith ce (some (.Name x pos')) pos.line X.env=pure false) aR._auto_1)(hf:autoParam ↑1 aF._auto_1):PS X (.Assign [.Name x pos'] ce pos) (tS E (Ab i l j k sem)):=by
 refine(tN hN hi hx hc hs hf).imp λD σ H q=>?_;obtain⟨B,H₀,Hs,env,sr,q⟩:=q;obtain⟨xs,ex,q⟩:=aq.own (aq.bind q);obtain⟨p,ep,q⟩:=aq.opt (aq.bind q);obtain⟨a,ea,q⟩:=aq.aa (aq.bind q);obtain⟨b,eb,q⟩:=aq.aa (aq.bind q);obtain⟨c,vs,h1,h2,h3,h4,h5⟩:=sr.ow l xs ex;obtain⟨va,s1,r1⟩:=sr.sh j a ea;obtain⟨vb,s2,r2⟩:=sr.sh k b eb;obtain⟨v,ev,rv⟩:=h5.last ep;have QA:=sr.put ex h1 h5.dropLast;refine⟨va,s1,.ref c,h1,.inl ⟨rfl,vs,h9.of h2⟩,c,vs,v,rfl,rfl,h2,ev,vb,s2,rfl,Hs,[a,p,b,.int 1],QA.gr.sub,.cons r1 (.cons rv (.cons r2 (.cons (.int 1) .nil))),(aq.bind q).imp (λr hr u Oe H' g rp=>?_) λe he=>he.grow QA.gr⟩;exact hr _ Oe H' ((QA.grow g).set rp)
end
end L2
namespace RH
inductive Tr where
 | e
 | l (k:Nat)
 |n (a b:Tr)
def ins:Nat->Nat->Tr->Option Tr
 | _,k,.e=>some (.l k)
 | 0,_,_=>none
 | f+1,k,.l j=>if j=k then none else
  if j%2=0 then (if k%2=0 then (ins f (k/2) (.l (j/2))).map λa=>.n a .e else some (.n (.l (j/2)) (.l (k/2))))
  else if k%2=0 then some (.n (.l (k/2)) (.l (j/2))) else (ins f (k/2) (.l (j/2))).map λb=>.n .e b
 |f+1,k,.n a b=>if k%2=0 then (ins f (k/2) a).map λa=>.n a b else (ins f (k/2) b).map λb=>.n a b
def Mem:Nat->Tr->Prop
 | _,.e=>False
 | k,.l j=>k=j
 |k,.n a b=>if k%2=0 then Mem (k/2) a else Mem (k/2) b
theorem oR:∀{f k:Nat}{t t':Tr},ins f k t=some t'->¬ Mem k t/\∀j,Mem j t' ↔ j=k\/Mem j t
 | f,k,.e,t',h=>by
  have:t'=.l k:=by cases f<;>(simp only[ins] at h;injection h with h;exact h.symm)
  subst this;exact⟨λq=>q,λj=>⟨.inl,λq=>q.elim id λq=>q.elim⟩⟩
 | 0,_,.l _,_,h=>by simp[ins] at h
 | 0,_,.n _ _,_,h=>by simp[ins] at h
 | f+1,k,.l j,t',h=>by
  simp only[ins] at h
  split at h
  .cases h
  .rename_i ne;refine⟨λq=>ne (Eq.symm q),λi=>?_⟩
   split at h
   .rename_i hj
    split at h
    .rename_i hk;obtain⟨a,ha,rfl⟩:=Td.mp h;have:=(oR ha).2 (i/2);show (if i%2=0 then Mem (i/2) a else Mem (i/2) .e) ↔ i=k\/i=j
     by_cases hi:i%2=0
     .rw[if_pos hi,this];show i/2=k/2\/i/2=j/2 ↔ _;lia
     .rw[if_neg hi];exact⟨λq=>q.elim,λq=>by lia⟩
    .rename_i hk;cases h;show (if i%2=0 then i/2=j/2 else i/2=k/2) ↔ i=k\/i=j
     by_cases hi:i%2=0
     .rw[if_pos hi];lia
     .rw[if_neg hi];lia
   .rename_i hj
    split at h
    .rename_i hk;cases h;show (if i%2=0 then i/2=k/2 else i/2=j/2) ↔ i=k\/i=j
     by_cases hi:i%2=0
     .rw[if_pos hi];lia
     .rw[if_neg hi];lia
    .rename_i hk;obtain⟨a,ha,rfl⟩:=Td.mp h;have:=(oR ha).2 (i/2);show (if i%2=0 then Mem (i/2) .e else Mem (i/2) a) ↔ i=k\/i=j
     by_cases hi:i%2=0
     .rw[if_pos hi];exact⟨λq=>q.elim,λq=>by lia⟩
     .rw[if_neg hi,this];show i/2=k/2\/i/2=j/2 ↔ _;lia
 | f+1,k,.n a b,t',h=>by
  simp only[ins] at h
  split at h
  .rename_i hk;obtain⟨c,hc,rfl⟩:=Td.mp h;obtain⟨q1,q2⟩:=oR hc;refine⟨?_,λi=>?_⟩
   .show ¬ (if k%2=0 then Mem (k/2) a else Mem (k/2) b);rwa[if_pos hk]
   .show (if i%2=0 then Mem (i/2) c else Mem (i/2) b) ↔ i=k\/(if i%2=0 then Mem (i/2) a else Mem (i/2) b)
    by_cases hi:i%2=0
    .rw[if_pos hi,if_pos hi,q2];exact or_congr ⋯ Iff.rfl
    .rw[if_neg hi,if_neg hi];exact⟨.inr,λq=>q.elim (λe=>by lia) id⟩
  .rename_i hk;obtain⟨c,hc,rfl⟩:=Td.mp h;obtain⟨q1,q2⟩:=oR hc;refine⟨?_,λi=>?_⟩
   .show ¬ (if k%2=0 then Mem (k/2) a else Mem (k/2) b);rwa[if_neg hk]
   .show (if i%2=0 then Mem (i/2) a else Mem (i/2) c) ↔ i=k\/(if i%2=0 then Mem (i/2) a else Mem (i/2) b)
    by_cases hi:i%2=0
    .rw[if_pos hi,if_pos hi];exact⟨.inr,λq=>q.elim (λe=>by lia) id⟩
    .rw[if_neg hi,if_neg hi,q2];exact or_congr ⋯ Iff.rfl
def build:List Nat->Tr->Option Tr
 | [],t=>some t
 | k::r,t=>match ins 64 k t with
  | some t'=>build r t'
  |none=>none
theorem uQ:∀{l:List Nat}{t t':Tr},build l t=some t'->l.Nodup/\∀k∈l,¬ Mem k t
 | [],_,_,_=>⟨List.nodup_nil,λ_ h=>nomatch h⟩
 | k::r,t,t',h=>by
  simp only[build] at h
  split at h
  .rename_i t1 e;obtain⟨a,b⟩:=oR e;obtain⟨c,d⟩:=uQ h;refine⟨Vv.mpr ⟨λm=>d k m ((b k).mpr (.inl rfl)),c⟩,λj hj=>?_⟩;rcases SQ.mp hj with rfl|hj
   .exact a
   .exact λq=>d j hj ((b j).mpr (.inr q))
  .cases h
theorem Ca{α β:Type}{f:α->β}:∀{l:List α},(l.map f).Nodup->∀{x y:α},x∈l->y∈l->f x=f y->x=y
 | [],_,_,_,h,_,_=>nomatch h
 | a::l,nd,x,y,hx,hy,e=>by
  rw[S0,Vv] at nd;rcases SQ.mp hx with h|h<;>rcases SQ.mp hy with k|k
  .rw[h,k]
  .exact absurd (TF.mpr ⟨y,k,by rw[<- e,h]⟩) nd.1
  .exact absurd (TF.mpr ⟨x,h,by rw[e,k]⟩) nd.1
  .exact Ca nd.2 h k e
def kR:Nat->Nat->List (List Nat)
 | 0,_=>[[]]
 |n+1,b=>(S1 b).flatMap λx=>(kR n (b/(x+1))).map (x::·)
def box:List Nat->Nat
 | []=>1
 |x::r=>(x+1)*box r
theorem ot:∀xs,0<box xs
 | []=>Nat.one_pos
 |x::r=>Nat.mul_pos (Wk x) (ot r)
theorem lV:∀{xs:List Nat}{b:Nat},box xs<=b->xs∈kR xs.length b
 | [],_,_=>S7.mpr rfl
 | x::r,b,h=>by
  have h':(x+1)*box r<=b:=h;have p:=ot r;refine aaR.mpr ⟨x,Uo.mpr ?_,TF.mpr ⟨r,lV ((Nat.le_div_iff_mul_le (Wk x)).mpr (by rw[W6];exact h')),rfl⟩⟩;have:=Vy (x+1) p;lia
def step(acc h:Nat):Nat :=
 let acc:=(acc+h*14029467366897019727)%18446744073709551616
 let acc:=acc*2147483648%18446744073709551616+acc/8589934592
 acc*11400714785074694791%18446744073709551616
def DO(xs:List Nat):Nat:=xs.foldl step 2870177450012600261
def good(n b:Nat):Bool:=(build ((kR n b).map DO) .e).isSome
def Kl:good 1 240=true:=by decide +kernel
def good2:good 2 240=true:=by decide +kernel
def good3:good 3 240=true:=by decide +kernel
def LN:good 4 240=true:=by decide +kernel
def DS{xs ys:List Nat}(hl:xs.length=ys.length)(h4:xs.length<=4)(hx:box xs<=240)(hy:box ys<=240)(e:DO xs=DO ys):xs=ys:=by
 have key:∀n,n<=4->good n 240=true
  | 0,_=>rfl
  | 1,_=>Kl
  | 2,_=>good2
  | 3,_=>good3
  | 4,_=>LN
 have g:=key xs.length h4;obtain⟨t',h⟩:=V2.mp (show (build ((kR xs.length 240).map DO) .e).isSome=true from g);exact Ca (uQ h).1 (lV hx) (by rw[hl];exact lV hy) e
end RH
namespace RH
open PySem
def fin(xs:List Nat):Nat:=(DO xs+(xs.length ^^^ (2870177450012600261 ^^^ 3527539)))%18446744073709551616
def uG(n b:Nat):Bool:=(kR n b).all λxs=>fin xs != 18446744073709551615
def NU:uG 1 240=true:=by decide +kernel
def NM:uG 2 240=true:=by decide +kernel
def NW:uG 3 240=true:=by decide +kernel
def NG:uG 4 240=true:=by decide +kernel
def wN:∀k:Nat,k<240->hashInt (k:Int)=(k:Int):=by
 have:(S1 240).all (λk=>decide (hashInt ((k:Nat):Int)=((k:Nat):Int)))=true:=by decide +kernel
 intro k hk;exact of_decide_eq_true (Uq.mp this k (Uo.mpr hk))
theorem Aq:∀{xs:List Nat}{b:Nat},box xs<=b->∀x∈xs,x<b
 | y::r,b,h,x,hx=>by
  have h':(y+1)*box r<=b:=h;have p:=ot r;rcases SQ.mp hx with e|e
  .have:=Vy (y+1) p;lia
  .exact Aq (xs:=r) (Ug (Nat.le_mul_of_pos_left _ (Wk y)) h') x e
def sgn(a:Nat):Int:=if (a==18446744073709551616-1)=true then 1546275796 else if a<9223372036854775808 then (a:Int) else (a:Int)-18446744073709551616
theorem fold_eq:∀(xs:List Nat)(acc:Nat),(∀x∈xs,x<240)->(xs.map λk=>hashInt ((k:Nat):Int)).foldl (λacc h=>((acc+(h%((2^64:Nat):Int)).toNat*14029467366897019727)%2^64*2^31%2^64+(acc+(h%((2^64:Nat):Int)).toNat*14029467366897019727)%2^64/2^33)*11400714785074694791%2^64) acc=xs.foldl step acc
 | [],_,_=>rfl
 | x::r,acc,h=>by
  have hx:=h x SS;rw[S0,Wo,Wo,wN x hx,show (((x:Nat):Int)%((2^64:Nat):Int)).toNat=x by lia];exact fold_eq r _ λy hy=>h y (SO _ hy)
variable{xs:List Nat}
def Cq(h:∀x∈xs,x<240):WJ (xs.map λk=>hashInt ((k:Nat):Int))=sgn (fin xs):=by
 have e:=fold_eq xs 2870177450012600261 h;unfold WJ sgn fin DO;rw[<- e,SG];rfl
theorem C4{a:Nat}(na:a≠18446744073709551615):sgn a=if a<9223372036854775808 then (a:Int) else (a:Int)-18446744073709551616:=by
 unfold sgn;rw[if_neg (by simp;lia)]
theorem EY{a b:Nat}(ha:a<18446744073709551616)(hb:b<18446744073709551616)(na:a≠18446744073709551615)(nb:b≠18446744073709551615)(e:sgn a=sgn b):a=b:=by
 rw[C4 na,C4 nb] at e
 by_cases p:a<9223372036854775808<;>by_cases q:b<9223372036854775808
 .rw[if_pos p,if_pos q] at e;lia
 .rw[if_pos p,if_neg q] at e;lia
 .rw[if_neg p,if_pos q] at e;lia
 .rw[if_neg p,if_neg q] at e;lia
theorem Fb{a:Nat}(ha:a<18446744073709551616)(na:a≠18446744073709551615):reduceHash (sgn a)=sgn a:=by
 have r:-9223372036854775808<=sgn a/\sgn a<9223372036854775808/\sgn a≠-1:=by
  unfold sgn;rw[if_neg (by simp;lia)]
  split<;>lia
 unfold reduceHash;rw[if_pos (by simp;lia),if_neg (by simp;lia)]
def Ep{prog:Program}{w:World}{ys:List Nat}(hl:xs.length=ys.length)(h4:xs.length<=4)(hx:box xs<=240)(hy:box ys<=240)(e:tupleKeyHash (intKind prog w) (xs.map λk=>((k:Nat):Int))=tupleKeyHash (intKind prog w) (ys.map λk=>((k:Nat):Int))):xs=ys:=by
 have nm:∀zs:List Nat,zs.length<=4->box zs<=240->fin zs≠18446744073709551615:=λzs h4 hz=>by
  have key:∀n,n<=4->uG n 240=true
   | 0,_=>by decide +kernel
   | 1,_=>NU
   | 2,_=>NM
   | 3,_=>NW
   | 4,_=>NG
  have:=Uq.mp (key zs.length h4) zs (lV hz);simpa using this
 have lt:∀zs:List Nat,fin zs<18446744073709551616:=λzs=>aa5 _ ↑12;have hh:∀zs:List Nat,zs.length<=4->box zs<=240->tupleKeyHash (intKind prog w) (zs.map λk=>((k:Nat):Int))=sgn (fin zs):=λzs h4 hz=>by
  have t:=Cq (Aq hz);unfold tupleKeyHash;rw[Ti];show reduceHash (WJ (zs.map λk=>hashInt ((k:Nat):Int)))=_;rw[t,Fb (lt zs) (nm zs h4 hz)]
 rw[hh xs h4 hx,hh ys ⋯ hy] at e;have f:=EY (lt xs) (lt ys) (nm xs h4 hx) (nm ys ⋯ hy) e;refine DS hl h4 hx hy ?_;unfold fin at f;rw[hl] at f;have a:DO xs<18446744073709551616\/xs=[]:=by
  cases xs with
  | nil=>exact .inr rfl
  | cons x r =>
   refine .inl ?_;have key:∀(r:List Nat)(acc:Nat),acc<18446744073709551616->r.foldl step acc<18446744073709551616:=by
    intro r
    induction r with
    | nil=>exact λ_ h=>h
    | cons y r ih=>exact λacc _=>ih _ (aa5 _ ↑12)
   exact key _ _ ↑12
 have b:DO ys<18446744073709551616:=by
  have key:∀(r:List Nat)(acc:Nat),acc<18446744073709551616->r.foldl step acc<18446744073709551616:=by
   intro r
   induction r with
   | nil=>exact λ_ h=>h
   | cons y r ih=>exact λacc _=>ih _ (aa5 _ ↑12)
  exact key _ _ ↑12
 rcases a with a|a
 .generalize (ys.length ^^^ (2870177450012600261 ^^^ 3527539))=c at f;lia
 .subst a;have:ys=[]:=Wd.mp hl.symm;rw[this]
end RH
namespace L2
open PySem PySem.Spec PyProof.Rows
variable{w:World}
section
variable{prog:Program}{A:Around}{E:Value->Shared->Prop}{s:Shared}{d:Addr}{es:Array DictEntry}{ep:Nat}
theorem sJ{M:Model}{body:DictEntry->PUnit->Sem (ForInStep PUnit)}:∀(l:List DictEntry){Q:PUnit->Shared->Prop},(∀e∈l,∀{Q':ForInStep PUnit->Shared->Prop},Q' (.yield Y_) s->wpAny M A (body e Y_) Q' E s)->Q Y_ s->wpAny M A (forIn l Y_ body) Q E s
 | [],Q,_,q=>by
  rw[Wa];exact SA q
 | e::r,Q,h,q=>by
  rw[Wq];refine Rz (h e SS ?_);exact sJ r (λe he=>h e (SO _ he)) q
theorem E2{Q:Value->Shared->Prop}(nd:(d==sysModules)=false)(x:gK s.heap d es ep)(ne:0<es.size)(hk:∀e∈es.toList,∃b,e.key=.ref b/\s.TypeIs (.ref b) "tuple")(hh:∀e∈es.toList,¬ (es.filter λx=>x.hash==e.hash).size>1)(hn:es.size<=sizeLine)(q:∀h' Q6,(∀b o,s.heap.get? b=some o->h'.get? b=some o)->gK h' s.heap.objs.size es Q6->Q (.ref s.heap.objs.size) { s with heap:=h' }):wpAny ↑11 A (call (.type "dict") [.ref d]) Q E s:=by
 have ld:d<s.heap.objs.size:=by obtain⟨o,a,_⟩:=x;exact SK a
 refine callType_codes (Q₁:=λob s₁=>ob=.ref s.heap.objs.size/\s₁={ s with heap:=s.heap.push { cls:=.type "dict",data:=.dict #[] } }) F.kt_called_dict (F.kt_typeCall_dict_1 _) F.entry_dict_init (kt_code_dict_new _ ⟨rfl,rfl⟩) λob s₁ e=>?_;obtain⟨rfl,rfl⟩:=e;have e0:(s.heap.push { cls:=.type "dict",data:=.dict #[] }).get? s.heap.objs.size=some { cls:=.type "dict",data:=.dict #[] }:=SH _ rfl;refine⟨⟨_,e0,rfl⟩,F.args_dict_init_2 _ _,?_⟩;have x':gK (s.heap.push { cls:=.type "dict",data:=.dict #[] }) d es ep:=x.keep λo e=>Sw _ e;have t':aa6 { s with heap:=s.heap.push { cls:=.type "dict",data:=.dict #[] } } (.ref d) "dict" := x'.ty (s:={ s with heap:=s.heap.push { cls:=.type "dict",data:=.dict #[] } });obtain⟨o,x1,x2,x3⟩:=x';unfold Builtin.«dict.__init__»;refine Rz ?_;unfold Builtin.Dict.selfAndRest;refine Rz (Xh ⟨_,e0,rfl⟩ ?_);show wpAny _ _ (pure s.heap.objs.size >>= λz=>pure (z,[SN d])) _ _ _;refine Rz (SA (SA ?_));show wpAny _ _ (YJ "dict.__init__" s.heap.objs.size (.ref d) [] .none) _ _ _;unfold YJ;refine Rz (WD t' ?_);rw[if_neg ↑13];refine Rz ?_;unfold Builtin.Dict.merge;refine Rz ?_;unfold Builtin.Dict.readDirectly;refine Rz (Wb (T := "dict") (b:=true) t' (by rw[isSubtype_type];kernel_rfl) ?_);rw[if_neg ↑13];refine Rz (Zy t' F.slot_dict_iter.lookup (SA ?_));rw[if_pos ↑13];refine Rz ?_;show wpAny _ _ (pure d) _ _ _;refine SA ?_;unfold Builtin.Dict.mergeDict;rw[if_neg (λe=>Uu ld (beq_iff_eq.mp e))];refine Rz ?_;unfold Xi;rw[if_neg (by rw[nd];exact Tq)];refine SA ?_;refine Rz (Vr x1 x3 ?_);have Bc:(decide (es.size<=8)&&es.all λe=>(keyPart e.key).isSome)=false:=by
  cases h:es.all λe=>(keyPart e.key).isSome with
  | false=>exact Bool.and_false _
  | true =>
   have h0:=Array.all_eq_true.mp h 0 ne;obtain⟨b,eb,_⟩:=hk es[0] (by rw[Xv];exact Array.getElem_mem ne);rw[eb] at h0;cases h0
 simp only[Bc,ZW,if_true];refine Rz (Vr e0 rfl ?_);rw[if_pos (by rfl)];refine Rz ?_;unfold Builtin.Dict.entriesForEmpty;refine Rz (Vr x1 x3 ?_);refine Rz ?_;rw[<- Array.forIn_toList];refine sJ es.toList (λe he Q' q'=>?_) (SA ?_)
 .obtain⟨b,eb,tb⟩:=hk e he;have tb':aa6 { s with heap:=s.heap.push { cls:=.type "dict",data:=.dict #[] } } (.ref b) "tuple" := by
   obtain⟨o,ho,hc⟩:=tb;exact⟨o,Sw _ ho,hc⟩
  rw[eb];refine Rz ?_;unfold Builtin.Dict.quietEq;refine Rz (Zy tb' F.slot_tuple_eq.lookup (SA ?_));rw[if_pos (by rfl),if_neg (hh e he)];exact SA q'
 .have em:(!es.isEmpty)=true:=by
   rw[Bool.not_eq_true',Array.isEmpty_eq_false_iff];intro z;rw[z] at ne;exact U6 _ ne
  rw[if_pos em];refine Rz (wpAny_updateDictKeysTo e0 rfl ?_ (show es.size<=sizeLine+1 by lia));refine SA ?_;refine Rz ?_;unfold Builtin.Dict.addKeywords;refine Rz ?_;rw[Wa];refine SA (SA ?_);have e1:=TL (Obj.mapDictKeys λ_=>es) e0 rfl;refine SA ⟨rfl,q _ _ (λb o e=>?_) ⟨_,e1,?_,rfl⟩⟩
  .exact(S5 _ _ (Uu (SK e))).trans (Sw _ e)
  .exact⟨rfl,rfl,rfl⟩
end
abbrev pP(P:Program)(w:World)(k:List Key):Int:=(tupleKind (bP P w)).hash k
def Hg{l:List DictEntry}(nd:(l.map (·.hash)).Nodup)(h:Int):(l.filter λx=>x.hash==h).length<=1:=by
 induction l with
 | nil=>exact SX _
 | cons a r ih =>
  rw[S0,Vv] at nd
  by_cases e:(a.hash==h)=true
  .rw[YK (p:=λ(x:DictEntry)=>x.hash==h) e];have:r.filter (λx=>x.hash==h)=[]:=List.filter_eq_nil_iff.mpr λb hb q=>nd.1 (TF.mpr ⟨b,hb,by rw[beq_iff_eq.mp q,beq_iff_eq.mp e]⟩);rw[this];exact SE _
  .rw[YL (p:=λ(x:DictEntry)=>x.hash==h) e];exact ih nd.2
def HZ(P:Program)(w:World):List V->Hp->VK->Prop:=λxs H Q=>∃d us,xs=[.ref d]/\Rd H d (.dT us)/\us≠[]/\(us.map λu=>pP P w u.1).Nodup/\∀p,H p=none->Q (.ref p) (upd H p (.dT us))
variable{X:Cx}
theorem wO:cv X (.type "dict") (HZ X.prog X.w):=by
 intro N9 s σ H xs us Q I r h;obtain⟨d,Oa,rfl,hd,ne,hn,q⟩:=h;obtain⟨u,rfl,rx⟩:=vals1 r;cases rx;obtain⟨z,y,ks,rel,o,es,ep,h1,h2,h3,h4,h5⟩:=(show bf X.prog X.w H s.heap d (.dT Oa) from qY I.br hd)
 have hl:ks.length=Oa.length:=(Paired.length rel).symm;have he:es.size=Oa.length:=by rw[<- hl,<- Tf,h4,SG]
 have hs:(es.toList.map (·.hash)).Nodup:=by
  have:es.toList.map (·.hash)=Oa.map λu=>pP X.prog X.w u.1:=by
   rw[h4,Ti];clear h4 h5 hl he hn ne hd q z
   induction rel with
   | nil=>rfl
   | @cons p q ps qs hq t ih=>rw[S0,S0,ih,hq.1];rfl
  rwa[this]
 refine E2 y ⟨o,h1,h2,h3⟩ (by rw[he];exact Z6.mpr ne) (λe hm=>?_) (λe hm=>?_) (by rwa[he]) λh' Q6 kp x'=>?_
 .rw[h4] at hm;obtain⟨k,hk,rfl⟩:=TF.mp hm;obtain⟨i,hi,rfl⟩:=S9.mp hk;have ht:=KT.at rel i ⋯ hi;refine⟨ks[i].2.1,rfl,?_⟩;obtain⟨_,Ob,_,tt⟩:=(show bf X.prog X.w H s.heap ks[i].2.1 _ from I.br _ _ ht)
  exact tt.typeIs
 .have:=Hg hs e.hash;rw[<- Tf,Array.toList_filter];lia
 .obtain⟨o',g1,g2,g3⟩:=x';exact⟨.ref s.heap.objs.size,_,I.laid (a:=s.heap.objs.size) (o:=.dT Oa) (t':=s.toks) kp (SE _) ⟨z,beq_eq_false_iff_ne.mpr (UN (SW I.big)),ks,Paired.imp' (λa b c=>⟨c.1,by rw[au (bB c.2.1 (I.br.fresh (SE _)))];exact c.2.1,c.2.2⟩) rel,o',es,Q6,g1,g2,g3,h4,h5⟩,rfl,q _ (I.br.fresh (SE _))⟩
variable{P:Program}
def xX(ns:List Int):pP P w (ky ns)=tupleKeyHash (intKind P w) ns:=by
 show tupleKeyHash (bP P w) (ky ns)=_;unfold tupleKeyHash ky;rw[Ti];rfl
def IE(n:Nat)(k:List Int):Prop:=k.length=n/\n<=4/\(∀x∈k,0<=x)/\RH.box (k.map WH)<=240
variable{n:Nat}
def El{ks:List (List Int)}(nd:ks.Nodup)(h:∀k∈ks,IE n k):(ks.map λk=>pP P w (ky k)).Nodup:=by
 unfold List.Nodup;rw[Xa];refine V5 (λ{x y} hx hy ne e=>ne ?_) nd;obtain⟨lx,l4,px,bx⟩:=h x hx;obtain⟨ly,_,py,b2⟩:=h y hy;have cast:∀k:List Int,(∀x∈k,0<=x)->(k.map WH).map (λj=>((j:Nat):Int))=k:=λk p=>by
  rw[Ti];exact(Z5 λx hx=>V9 (p x hx)).trans (Ys _)
 rw[xX,xX,<- cast x px,<- cast y py] at e;have:=RH.Ep (by rw[SG,SG,lx,ly]) (by rwa[SG,lx]) bx b2 e;rw[<- cast x px,<- cast y py,this]
def D6:bootBuiltins "dict"=some (.type "dict"):=by decide +kernel
variable{f:af->M PV}{x:Str}
section
variable{E:XK}{e:Expr}{i:Nat}{p pos pos' Oy:Pos}
def B8(Oa:KD):Prop:=Oa≠[]/\(Oa.map (·.1)).Nodup/\∃n,∀z∈Oa,IE n z.1
open Classical in
def A8(i:Nat)(env:af):PV->M Out
 | .dR Oa=>if B8 Oa then M.ok (.nx (env.set i (some (.dw Oa)))) else none
 |_=>none
def Ae(i:Nat)(f:af->M PV):af->M Out:=λenv=>(f env).bind (A8 i env)
def DG(hN:X.N.Nodup)(hi:X.N[i]?=some x)(hx:Loc X.env.scope x)(hg:Gl X "dict")(hm:X.mg "dict"=none)(he:PE X e (tE (λ_=>E) f))(h1:autoParam (starEach [e] X.env=(false,eval e X.env)::starEach [] X.env) aR._auto_1)(OM:autoParam ((backTo Oy (starEach [] X.env)).any (·.1)=false) aR._auto_1)(hs:autoParam (swapsWith (.Call (.Name "dict" p) [e] [] Oy) (some (.Name x pos')) pos.line X.env=pure false) aR._auto_1)(hf:autoParam ↑1 aF._auto_1):PS X (.Assign [.Name x pos'] (.Call (.Name "dict" p) [e] [] Oy) pos) (tS E (Ae i f)):=by
 refine(tN hN hi hx (nr wO hg hm D6 (cL he i5 h1) ↑12 ↑12 h1 OM) hs hf).imp λD σ H q=>iK q λB H₀ Hs H1 env p v sr rp hp=>?_;cases rp with
 | @dR a o Oa us hd rd =>
  simp only[A8] at hp
  by_cases ok:B8 Oa
  .rw[if_pos ok] at hp;obtain⟨ne,nd,n,Bc⟩:=ok;have ku:=rd.keys;refine⟨a,us,rfl,.inr ⟨o,sr.gr.sub _ _ hd⟩,λz=>?_,?_,λp n'=>?_⟩
   .subst z;rw[VY] at ku;exact ne (XR.mp ku.symm)
   .have:(us.map λu=>pP X.prog X.w u.1)=(Oa.map (·.1)).map λk=>pP X.prog X.w (ky k):=by
     rw[Ti];have:=congrArg (List.map λk=>pP X.prog X.w k) ku;rwa[Ti,Ti] at this
    rw[this];exact El nd λk hk=>by
     obtain⟨z,hz,rfl⟩:=TF.mp hk;exact Bc z hz
   .exact hp _ Hs _ (sr.Nf (sr.free n').1 (sr.free n').2 (sr.held n') rd)
  .rw[if_neg ok] at hp;exact hp.elim
 |_=>exact hp.elim
end
variable{α β:Type}
variable{x0:Option SV}
variable{p:PV}
variable{k:Nat}{i:Int}
variable{j:Int}
variable{xs:List PV}
variable{body:af->M Out}
section
open PySem.SeqAt (shaped noMix noMixAll)
def M.aH(a:α)(f:α->M β):M.bind (M.ok a) f=f a:=T6 rfl rfl
def M.AZ(e:EX)(f:α->M β):M.bind (some (Except.error e)) f=some (.error e):=T6 rfl rfl
def M.bind_none(f:α->M β):M.bind none f=none:=T6 rfl rfl
def M.bind_some(a:α)(f:α->M β):M.bind (some (Except.ok a)) f=f a:=T6 rfl rfl
def M.bind_assoc{γ:Type}(x:M α)(f:α->M β)(g:β->M γ):M.bind (M.bind x f) g=M.bind x λa=>M.bind (f a) g:=by
 cases x with
 | none=>rfl
 |some x=>cases x<;>rfl
def ar{c:Prop}[Decidable c]{x:M α}(h:c):cM c x=x:=if_pos h
def G1(a:α):JX (M.ok a)=M.ok a:=T6 rfl rfl
def sH(x:PV):eB (some x)=M.ok x:=T6 rfl rfl
def vB(g:af->M Out)(env:af):Dp g (.nx env)=g env:=T6 rfl rfl
def uB(g:af->M Out)(p:PV):Dp g (.rt p)=M.ok (.rt p):=T6 rfl rfl
def EA(b:Bool):wa (.bl b)=M.ok b:=T6 rfl rfl
def FT(p:PV):JL (.rt p)=M.ok p:=T6 rfl rfl
def F1(e:af):JL (.nx e)=M.ok .dq:=T6 rfl rfl
def tI(xs:List Int):PV:=.tup (xs.map PV.int)
def lI(xs:List Int):PV:=.lst (xs.map PV.int)
def yg(xs:List Int):bX (tI xs)=some (xs.map PV.int):=T6 rfl rfl
def EO(xs:List Int):bX (lI xs)=some (xs.map PV.int):=T6 rfl rfl
def Cv(xs:List PV):bX (.tup xs)=some xs:=T6 rfl rfl
def Dr(xs:List PV):bX (.lst xs)=some xs:=T6 rfl rfl
def A0(xs:List PV):bX (.jz xs)=some xs:=T6 rfl rfl
def Fo(xs:List Int):vT (tI xs)=M.ok (.int xs.length):=by simp[vT,tI,bX,eB]
def Fm(xs:List Int):vT (lI xs)=M.ok (.int xs.length):=by simp[vT,lI,bX,eB]
def CC(xs:List PV):vT (.tup xs)=M.ok (.int xs.length):=T6 rfl rfl
def C0(xs:List PV):vT (.lst xs)=M.ok (.int xs.length):=T6 rfl rfl
def CV(xs:List PV):vT (.jz xs)=M.ok (.int xs.length):=T6 rfl rfl
def vt(xs:List Bool):vg [.lst (xs.map PV.bl)]=M.ok (.bl (xs.all id)):=by simp[vg,all1,uX,eB]
def fK{inj h:α->PV}{rest:af}(xs:List α)(H:∀a∈xs,f (some (.sh (inj a))::rest)=M.ok (h a)):bI (bL 0) none f (xs.map inj) (x0::rest)=M.ok (xs.map h):=by
 induction xs generalizing x0 with
 | nil=>rfl
 | cons a r ih =>
  rw[S0,bI];show M.bind (M.ok ((x0::rest).set 0 (some (.sh (inj a))))) _=_;rw[M.aH,Vf];show M.bind (f _) _=_;rw[H a SS,M.aH,ih λb hb=>H b (SO _ hb)];rfl
def qp{p q h:α->PV}{rest:af}{x1:Option SV}(xs:List α)(H:∀a∈xs,f (some (.sh (p a))::some (.sh (q a))::rest)=M.ok (h a)):bI (bT 0 1) none f (xs.map λa=>.tup [p a,q a]) (x0::x1::rest)=M.ok (xs.map h):=by
 induction xs generalizing x0 x1 with
 | nil=>rfl
 | cons a r ih =>
  rw[S0,bI];show M.bind (M.ok (((x0::x1::rest).set 0 (some (.sh (p a)))).set 1 (some (.sh (q a))))) _=_;rw[M.aH,Vf,WR,Vf];show M.bind (f _) _=_;rw[H a SS,M.aH,ih λb hb=>H b (SO _ hb)];rfl
def Dt{p q s h:α->PV}{rest:af}{x1 x2:Option SV}(xs:List α)(H:∀a∈xs,f (some (.sh (p a))::some (.sh (q a))::some (.sh (s a))::rest)=M.ok (h a)):bI (lN 0 1 2) none f (xs.map λa=>.tup [p a,q a,s a]) (x0::x1::x2::rest)=M.ok (xs.map h):=by
 induction xs generalizing x0 x1 x2 with
 | nil=>rfl
 | cons a r ih =>
  rw[S0,bI];show M.bind (M.ok ((((x0::x1::x2::rest).set 0 (some (.sh (p a)))).set 1 (some (.sh (q a)))).set 2 (some (.sh (s a))))) _=_;rw[M.aH,Vf,WR,Vf,WR,WR,Vf];show M.bind (f _) _=_;rw[H a SS,M.aH,ih λb hb=>H b (SO _ hb)];rfl
def lD{f:α->PV}{g:β->PV}{q:PV}(xs:List α)(ys:List β)(hp:bX p=some (xs.map f))(hq:bX q=some (ys.map g)):zip2 [p,q]=M.ok ((xs.zip ys).map λz=>.tup [f z.1,g z.2]):=by
 simp only[zip2,hp,hq];congr 2;rw[List.zipWith_map,List.zip_eq_zipWith,List.map_zipWith]
def pd{γ:Type}{f:α->PV}{g:β->PV}{h:γ->PV}{q r:PV}(xs:List α)(ys:List β)(zs:List γ)(hp:bX p=some (xs.map f))(hq:bX q=some (ys.map g))(hr:bX r=some (zs.map h)):w5 [p,q,r]=M.ok ((xs.zip (ys.zip zs)).map λz=>.tup [f z.1,g z.2.1,h z.2.2]):=by
 simp only[w5,hp,hq,hr];congr 2;clear hp hq hr
 induction xs generalizing ys zs with
 | nil=>cases ys<;>cases zs<;>rfl
 | cons a r ih =>
  cases ys with
  | nil=>rfl
  | cons b s =>
   cases zs with
   | nil=>rfl
   |cons c t=>simp only[S0,ju,UX,ih]
def yr{f:α->PV}(xs:List α):gW (xs.map f)=(xs.zipIdx).map λz=>.tup [.int (z.2:Int),f z.1]:=by
 unfold gW;rw[List.mapIdx_eq_zipIdx_map,List.zipIdx_map,Ti];rfl
theorem qo{set:PV->af->M af}{body:af->M Out}{α:Type}{inj:α->PV}(J:List α->af->Prop)(H:∀a r env,J (a::r) env->∃e' Od,set (inj a) env=M.ok e'/\body e'=M.ok (.nx Od)/\J r Od):∀(xs:List α)(env:af),J xs env->∃Od,jG set body (xs.map inj) env=M.ok (.nx Od)/\J [] Od
 | [],env,h=>⟨env,rfl,h⟩
 | a::r,env,h=>by
  obtain⟨e',Od,h1,h2,h3⟩:=H a r env h;obtain⟨QG,h4,h5⟩:=qo J H r Od h3;refine⟨QG,?_,h5⟩;rwa[S0,jG,h1,M.aH,h2,M.aH]
theorem rD{u:af->M Bool}{b:af->M Out}(J:af->Prop)(m:af->Nat)(H:∀env,J env->(u env=M.ok false)\/(u env=M.ok true/\∃Od,b env=M.ok (.nx Od)/\J Od/\m Od<m env))(env:af)(h:J env):∃Od,jK u b env=M.ok (.nx Od)/\J Od/\u Od=M.ok false:=by
 have key:∀(n:Nat)(env:af),J env->m env<n->∃Od,cB u b n env=M.ok (.nx Od)/\J Od/\u Od=M.ok false:=by
  intro n
  induction n with
  | zero=>intro env _ hn;lia
  | succ n ih =>
   intro env h hn;rcases H env h with hu|⟨hu,Od,hb,hj,hm⟩
   .exact⟨env,by rw[cB,hu,M.aH];rfl,h,hu⟩
   .obtain⟨QG,h1,h2,h3⟩:=ih Od hj ⋯;exact⟨QG,by rwa[cB,hu,M.aH,if_pos rfl,hb,M.aH],h2,h3⟩
 obtain⟨Od,h1,h2,h3⟩:=key (m env+1) env h (UG _);refine⟨Od,?_,h2,h3⟩;rw[yZ (n:=m env+1) (by rw[h1];exact λz=>nomatch z),h1]
theorem log2_small(h:i.natAbs<2^k)(hk:k<=9000):i.natAbs.log2<67108864:=by
 by_cases z:i.natAbs=0
 .rw[z];decide
 .have:=(aaU z).mpr h;lia
def cO{l:Nat}(hi:i.natAbs<2^k)(hj:j.natAbs<2^l)(hk:autoParam (k<=9000) aD._auto_1)(hl:autoParam (l<=9000) aD._auto_1):eU (.int i) (.int j)=M.ok (.int (i*j)):=by
 rw[eU,ar ⟨log2_small hi hk,log2_small hj hl⟩]
theorem mE(h0:j≠0)(h:j.natAbs<2^9000):cG (.int i) (.int j)=M.ok (.int (i.fdiv j)):=by
 show cM _ _=_;refine ar (decide_eq_true ⟨h0,(aaU ⋯).mpr h⟩)
def CY(h0:j≠0):gy (.int i) (.int j)=M.ok (.int (i.fmod j)):=by
 show cM _ _=_;exact ar (decide_eq_true h0)
theorem cA(h0:0<j)(h:j<2^64):cG (.int i) (.int j)=M.ok (.int (i/j)):=by
 rw[mE ⋯ (S8 (show j.natAbs<2^64 by lia) (U4 ↑12 ↑12)),VM _ ⋯]
theorem bG(h0:0<j):gy (.int i) (.int j)=M.ok (.int (i%j)):=by
 rw[CY ⋯,Int.fmod_eq_emod_of_nonneg _ ⋯]
def aX{j:Nat}{x:PV}(hs:bX p=some xs)(h:xs[j]?=some x):aA p (.int (j:Int))=M.ok x:=by
 cases p with
 | tup ys=>cases hs;simp only[aA,tX h,eB]
 | lst ys=>cases hs;simp only[aA,tX h,eB]
 | jz ys=>cases hs;simp only[aA,tX h,eB]
 |_=>cases hs
section
variable{b:String->Bool}{ob oe:Addr->Option Bool}
def G8(xs:List Int):BO b ob oe (tI xs)=M.ok (.bl (b "tuple")):=T6 rfl rfl
def JC(xs:List Int):BO b ob oe (lI xs)=M.ok (.bl (b "list")):=T6 rfl rfl
def DV(xs:List PV):BO b ob oe (.tup xs)=M.ok (.bl (b "tuple")):=T6 rfl rfl
def EG(xs:List PV):BO b ob oe (.lst xs)=M.ok (.bl (b "list")):=T6 rfl rfl
def Ew(i:Int):BO b ob oe (.int i)=M.ok (.bl (b "int")):=T6 rfl rfl
def GP(i:Bool):BO b ob oe (.bl i)=M.ok (.bl (b "bool")):=T6 rfl rfl
def Ey:BO b ob oe .dq=M.ok (.bl (b "NoneType")):=T6 rfl rfl
def FN(x:Str):BO b ob oe (.str x)=M.ok (.bl (b "str")):=T6 rfl rfl
def Fz:BO b ob oe .emp=M.ok (.bl (b "dict")):=T6 rfl rfl
end
def DX(i j:Int):nv (.int i) (.int j)=M.ok (.bl (!decide (i=j))):=by
 simp only[nv,n5,dat,Ft,shaped,U_,VB,noMix];rw[ar ⟨rfl,rfl,trivial⟩];unfold same;rw[M.aH];congr
def Fv(i j:Int):nH (.int i) (.int j)=M.ok (.bl (decide (i=j))):=by
 simp only[nH,n5,dat,Ft,shaped,U_,VB,noMix];rw[ar ⟨rfl,rfl,trivial⟩];unfold same;rw[M.aH];congr
def Iy(i j:Bool):nv (.bl i) (.bl j)=M.ok (.bl (!decide (i=j))):=by
 simp only[nv,n5,dat,Ft,shaped,U_,VB,noMix];rw[ar ⟨rfl,rfl,trivial⟩];unfold same;rw[M.aH];congr
def Hj(i j:Bool):nH (.bl i) (.bl j)=M.ok (.bl (decide (i=j))):=by
 simp only[nH,n5,dat,Ft,shaped,U_,VB,noMix];rw[ar ⟨rfl,rfl,trivial⟩];unfold same;rw[M.aH];congr
def mY(xs:List Int):mP (xs.map PV.int)=some (xs.map Vg):=by
 induction xs with
 | nil=>rfl
 |cons a r ih=>simp[mP,dat,ih]
def jF(xs:List Int):Xb (xs.map Vg)=true:=by
 induction xs with
 | nil=>rfl
 |cons a r ih=>simp[Xb,U_,ih]
def lh(xs:List Int):XH (xs.map Vg)=0:=by
 induction xs with
 | nil=>rfl
 |cons a r ih=>simp[XH,VB,ih]
theorem noMix_ints:∀(xs ys:List Int),noMixAll (xs.map Vg) (ys.map Vg)=true
 | [],[]=>by simp[noMixAll]
 | [],_::_=>by simp[noMixAll]
 | _::_,[]=>by simp[noMixAll]
 |a::r,b::s=>by simp[noMixAll,noMix,noMix_ints r s]
theorem same_ints:∀(xs ys:List Int),sameAll (xs.map Vg) (ys.map Vg)=decide (xs=ys)
 | [],[]=>by simp[sameAll]
 | [],_::_=>by simp[sameAll]
 | _::_,[]=>by simp[sameAll]
 | a::r,b::s=>by
  simp only[S0,sameAll,same_ints r s];unfold same;rw[XE];simp
def sv(xs:List (List Int)):mP (xs.map tI)=some (xs.map λr=>.tuple (r.map Vg)):=by
 induction xs with
 | nil=>rfl
 |cons a r ih=>simp[mP,dat,tI,mY] at ih ⊢;simp[ih]
def nG(xs:List (List Int)):Xb (xs.map λr=>.tuple (r.map Vg))=true:=by
 induction xs with
 | nil=>rfl
 |cons a r ih=>simp[Xb,U_,ih,jF]
def iW(xs:List (List Int)):XH (xs.map λr=>.tuple (r.map Vg))<=1:=by
 induction xs with
 | nil=>exact SX _
 |cons a r ih=>simp[XH,VB,lh,ih]
theorem k9:∀(xs ys:List (List Int)),noMixAll (xs.map λr=>.tuple (r.map Vg)) (ys.map λr=>.tuple (r.map Vg))=true
 | [],[]=>by simp[noMixAll]
 | [],_::_=>by simp[noMixAll]
 | _::_,[]=>by simp[noMixAll]
 |a::r,b::s=>by simp[noMixAll,noMix,noMix_ints,k9 r s]
theorem m_:∀(xs ys:List (List Int)),sameAll (xs.map λr=>.tuple (r.map Vg)) (ys.map λr=>.tuple (r.map Vg))=decide (xs=ys)
 | [],[]=>by simp[sameAll]
 | [],_::_=>by simp[sameAll]
 | _::_,[]=>by simp[sameAll]
 | a::r,b::s=>by
  simp only[S0,sameAll,m_ r s];unfold same;rw[same_ints,XE];simp
def Dg(xs ys:List Int):nH (tI xs) (tI ys)=M.ok (.bl (decide (xs=ys))):=by
 simp only[nH,n5,dat,tI,mY,XI,Ft];rw[ar (by simp[shaped,U_,VB,jF,lh,noMix,noMix_ints])];unfold same;rw[same_ints];rfl
def p_(xs ys:List Int):nv (tI xs) (tI ys)=M.ok (.bl (!decide (xs=ys))):=by
 simp only[nv,n5,dat,tI,mY,XI,Ft];rw[ar (by simp[shaped,U_,VB,jF,lh,noMix,noMix_ints])];unfold same;rw[same_ints];rfl
def F3(i j:Int):z_ (.int i) (.int j)=M.ok (.bl (decide (i<j))):=T6 rfl rfl
def FO(i j:Int):AI (.int i) (.int j)=M.ok (.bl (decide (i<=j))):=T6 rfl rfl
def EJ(i j:Int):DK (.int i) (.int j)=M.ok (.bl (decide (j<i))):=T6 rfl rfl
def Ei(i j:Int):J0 (.int i) (.int j)=M.ok (.bl (decide (j<=i))):=T6 rfl rfl
def BE(i j:Int):gH (.int i) (.int j)=M.ok (.int (i+j)):=T6 rfl rfl
def Cf(i j:Int):nP (.int i) (.int j)=M.ok (.int (i-j)):=T6 rfl rfl
theorem gu{n:Int}(h:0<=n)(h2:n<2^62):nU [.int n]=M.ok ((S1 n.toNat).map λ(i:Nat)=>.int (i:Int)):=by
 show cM (-(2^62)<=n/\n<2^62) _=_;rw[ar ⋯];simp
def eS{set:PV->af->M af}{inj:α->PV}{k:Out->M β}{r:M β}(xs:List α)(J:List α->af->Prop){env:af}(h:J xs env)(H:∀a r env,J (a::r) env->∃e' Od,set (inj a) env=M.ok e'/\body e'=M.ok (.nx Od)/\J r Od)(hk:∀Od,J [] Od->k (.nx Od)=r):M.bind (jG set body (xs.map inj) env) k=r:=by
 obtain⟨Od,e,h'⟩:=qo J H xs env h;rw[e,M.aH];exact hk Od h'
def aP(h:n<=1000):n<=sizeLine:=Vz (ni h)
def tupK(ps:List PV):M PV:=cM (ps.length<=sizeLine) (M.ok (.tup ps))
def lstK(ps:List PV):M PV:=cM (ps.length<=sizeLine) (M.ok (.lst ps))
def FI(fs:af->M (List PV))(env:af):kX fs env=(fs env).bind tupK:=rfl
def FY(fs:af->M (List PV))(env:af):qM fs env=(fs env).bind lstK:=rfl
def Jl:tupK []=M.ok (.tup []):=ar (aP (show 0<=1000 by decide))
def Iw:lstK []=M.ok (.lst []):=ar (aP (show 0<=1000 by decide))
def JG(a:PV):tupK [a]=M.ok (.tup [a]):=ar (aP (show 1<=1000 by decide))
def Jd(a:PV):lstK [a]=M.ok (.lst [a]):=ar (aP (show 1<=1000 by decide))
def Jp(a b:PV):tupK [a,b]=M.ok (.tup [a,b]):=ar (aP (show 2<=1000 by decide))
def IQ(a b:PV):lstK [a,b]=M.ok (.lst [a,b]):=ar (aP (show 2<=1000 by decide))
def Hd(a b c:PV):tupK [a,b,c]=M.ok (.tup [a,b,c]):=ar (aP (show 3<=1000 by decide))
def Hr(a b c:PV):lstK [a,b,c]=M.ok (.lst [a,b,c]):=ar (aP (show 3<=1000 by decide))
def G5(a b c d:PV):tupK [a,b,c,d]=M.ok (.tup [a,b,c,d]):=ar (aP (show 4<=1000 by decide))
def Ja(a b c d:PV):lstK [a,b,c,d]=M.ok (.lst [a,b,c,d]):=ar (aP (show 4<=1000 by decide))
def Ia(a b c d e:PV):tupK [a,b,c,d,e]=M.ok (.tup [a,b,c,d,e]):=ar (aP (show 5<=1000 by decide))
def Jg(a b c d e:PV):lstK [a,b,c,d,e]=M.ok (.lst [a,b,c,d,e]):=ar (aP (show 5<=1000 by decide))
def IV(a b c d e f:PV):tupK [a,b,c,d,e,f]=M.ok (.tup [a,b,c,d,e,f]):=ar (aP (show 6<=1000 by decide))
def HS(a b c d e f:PV):lstK [a,b,c,d,e,f]=M.ok (.lst [a,b,c,d,e,f]):=ar (aP (show 6<=1000 by decide))
end
def iI(m:M α)(Q:α->Prop):Prop:=∃a,m=M.ok a/\Q a
section
variable{γ:Type}{Q Q':α->Prop}{m:M α}
def iI.eq{a:α}(h:iI m λx=>x=a):m=M.ok a:=by obtain⟨b,e,rfl⟩:=h;exact e
def Tn(J:af->Prop)(B:af->Prop)(R:PV->Prop):Out->Prop
 | .nx e=>J e
 | .ct e=>J e
 | .bk e=>B e
 |.rt p=>R p
theorem iI.A_{set:PV->af->M af}{body:af->M Out}{inj:γ->PV}{B:af->Prop}{R:PV->Prop}(J:List γ->af->Prop)(H:∀a r env,J (a::r) env->iI (M.bind (set (inj a) env) body) (Tn (J r) B R)):∀(xs:List γ)(env:af),J xs env->iI (jG set body (xs.map inj) env) λo=>(∃e,o=.nx e/\(J [] e\/B e))\/∃p,o=.rt p/\R p
 | [],env,h=>⟨_,rfl,.inl ⟨_,rfl,.inl h⟩⟩
 | a::r,env,h=>by
  obtain⟨o,e,q⟩:=H a r env h;rw[S0,jG,<- M.bind_assoc,e,M.aH];cases o with
  | nx e'=>exact iI.A_ J H r e' q
  | ct e'=>exact iI.A_ J H r e' q
  | bk e'=>exact⟨_,rfl,.inl ⟨_,rfl,.inr q⟩⟩
  |rt p=>exact⟨_,rfl,.inr ⟨_,rfl,q⟩⟩
def iI.loop{R:β->Prop}{set:PV->af->M af}{inj:γ->PV}{k:Out->M β}{xs:List γ}{env:af}(J:List γ->af->Prop)(h:J xs env)(H:∀a r env,J (a::r) env->iI (M.bind (set (inj a) env) body) (Tn (J r) (λ_=>False) λ_=>False))(hk:∀Od,J [] Od->iI (k (.nx Od)) R):iI (M.bind (jG set body (xs.map inj) env) k) R:=by
 obtain⟨o,e,q⟩:=iI.A_ J H xs env h;rw[e,M.aH];rcases q with ⟨e',rfl,q|q⟩|⟨p,_,q⟩
 .exact hk e' q
 .exact q.elim
 .exact q.elim
end
def KC(i:Nat)(env:af)(xs:List PV)(p:PV):M Out:=if xs.length<sizeLine then M.ok (.nx (env.set i (some (.ow (xs++[p]))))) else none
def hX(i:Nat)(f:af->M PV)(env:af):jc i f env=(ownAt i env).bind λxs=>(f env).bind λp=>KC i env xs p:=by
 unfold jc ownAt;rcases env[i]? with _|_|(_|_|_)<;>rfl
def gY{i:Nat}{env:af}(h:xs.length<1000):KC i env xs p=M.ok (.nx (env.set i (some (.ow (xs++[p]))))):=if_pos (ni (Vz h))
def yl(C:Addr)(m:Str)(sem:List PV->M PV)(p:PV)(x:M (List PV)):M PV:=match p with
 | .obj C' fl=>cM (C'=C/\fl.lookup m=none) (x.bind λps=>sem (.obj C' fl::ps))
 |_=>none
def gE(C:Addr)(m:Str)(sem:List PV->M PV)(g:af->M PV)(fs:af->M (List PV))(env:af):bV C m sem g fs env=(g env).bind λp=>yl C m sem p (fs env):=rfl
variable{sem:List PV->M PV}{C:Addr}
def sI{m:Str}{fl:List (Str×PV)}{x:M (List PV)}(h:fl.lookup m=none):yl C m sem (.obj C fl) x=x.bind λps=>sem (.obj C fl::ps):=ar ⟨rfl,h⟩
def BR(ok:Addr->Bool)(f:Str)(p:PV):M PV:=match p with
 | .obj C fs=>cM (ok C=true) (eB (fs.lookup f))
 |_=>none
def lY(ok:Addr->Bool)(f:Str)(g:af->M PV)(env:af):fq ok f g env=(g env).bind (BR ok f):=rfl
def p8{ok:Addr->Bool}{f:Str}{fs:List (Str×PV)}{x:PV}(h:ok C=true)(hl:fs.lookup f=some x):BR ok f (.obj C fs)=M.ok x:=by
 show cM _ _=_;rw[ar h,hl];rfl
def kn(xs:List Int)(x:Int):xs.map PV.int++[.int x]=(xs++[x]).map PV.int:=by simp
def j_{f:α->PV}(xs:List α)(h:bX p=some (xs.map f)):yy [p]=M.ok (xs.zipIdx.map λz=>.tup [.int (z.2:Int),f z.1]):=by
 show MX p=_;unfold MX;rw[h];show M.ok (gW _)=_;rw[yr]
def HE(xs:List Int):yy [lI xs]=M.ok (xs.zipIdx.map λz=>.tup [.int (z.2:Int),.int z.1]):=j_ xs rfl
def n_{f:α->PV}(xs:List α):yy [.lst (xs.map f)]=M.ok (xs.zipIdx.map λz=>.tup [.int (z.2:Int),f z.1]):=j_ xs rfl
def N4{us:List α}(h:us.length=1):∃a,us=[a]:=by
 cases us with
 | nil=>cases h
 | cons a t=>cases t with
  | nil=>exact⟨a,rfl⟩
  |cons b t=>cases h
def ln2{us:List α}(h:us.length=2):∃a b,us=[a,b]:=by
 cases us with
 | nil=>cases h
 |cons a t=>obtain⟨b,rfl⟩:=N4 (Za h);exact⟨a,b,rfl⟩
def NS{us:List α}(h:us.length=3):∃a b c,us=[a,b,c]:=by
 cases us with
 | nil=>cases h
 |cons a t=>obtain⟨b,c,rfl⟩:=ln2 (Za h);exact⟨a,b,c,rfl⟩
def yd(K:SD):Bool:=K.all λp=>match p.2.cls with
 | .type t=>t != "list"
 |_=>true
def Ax{K:SD}(h:yd K=true){a:Addr}{o:Obj}(e:K.lookup a=some o):o.cls≠.type "list" := by
 induction K with
 | nil=>cases e
 | cons p r ih =>
  obtain⟨b,u⟩:=p;rw[yd,List.all_cons,Ui] at h;rw[U0] at e;cases q:a==b with
  | true =>
   rw[q] at e;cases e;intro z;have h1:=h.1;simp only[z] at h1;exact absurd h1 ↑12
  |false=>rw[q] at e;exact ih h.2 e
theorem rE{H:Hp}:∀ns:List Int,aB H (ns.map PV.int) (ns.map V.int)
 | []=>.nil
 |i::r=>.cons (.int i) (rE r)
def wZ{l:PySem.W.OpenLaw}{q:Program}{loose:List Str}{XP:(Str->Option Value)->Heap->Prop}{YP:World->Heap->Prop}{d:DefRec}{K:Params->SD}(hn:l.most=some n)(Rx:n<=sizeLine)(hdf:d.params.defaults=[])(hr:bU k callerA)(hY:∀(w:World)(h:Heap),YP w h->(K w.params).In h)(hK:∀w:World,yd (K w.params)=true)(F:∀(w:World)(mg:Str->Option Value)(fa:Addr)(h:Heap),(K w.params).In h->h.Ns mainGlobals mg->mg d.name=some (.ref fa) ->∃ fd:FuncData,(∀(s:Shared)(u:Value),BindsTo s fd ⟨[u],[]⟩ [(x,u)]) ∧∀base:Heap,(K w.params).In base->base.Ns mainGlobals mg->aT l.prog w (K w.params) mg base (cu l.prog w) k fa fd [x] (dY 1 sem))(RB:∀ns:List Int,ns.length<=n->(∀i∈ns,XS i<=1048576)->sem [.jz (ns.map PV.int)]=M.ok (.bl true)):PySem.W.WalkO q loose XP YP l.row.toRowW d [] (λf vs=>PySem.call f vs):=by
 intro w s₀ s₁ mg mb G Y fa o pm cd doc dV kV ho hd O7 hD hmg hg args vals as zP hlay hrd hwl Qd;obtain rfl:dV=.none:=PySem.W.Dflts.none hD hdf;obtain rfl:kV=.none:=PySem.W.Dflts.noKw hD;obtain⟨a,vs,ns,rfl,rfl,hobj,hints,hlen⟩:=Att.zA hn zP hwl;have RY:∀i∈ns,XS i<=1048576:=λi hi=>by
  have h1:=PySem.W.layableW_arg hlay _ (S7.mpr rfl);have h2:=PySem.W.layableW_item h1 (.int i) (TF.mpr ⟨i,hi,rfl⟩);exact intBits_le_of_layable h2
 have KX:=hY w _ Y;obtain⟨fd,hb,hF⟩:=F w mg fa _ KX G.T.g hmg;have hs:=RB ns hlen RY;refine PySem.W.enter_call (YZ (Cm KX G.T.g G.T.b G.T.builtins G.T.nolimit hg hobj hints (Ug hlen Rx) hr hF hb (λH hO hS=>⟨rfl,H,[.jz (ns.map PV.int)],λ_ _ e=>e,?_,?_⟩) λH e s' z=>?_) λr s' hq=>?_)
 .rcases hS with (hS|⟨ob,hS⟩)|⟨ob,Ob,m,e1,e2,_⟩
  .rcases hO a with z|⟨ob,xs,z⟩
   .rw[z] at hS;cases hS
   .rw[z] at hS;cases hS
  .exact .cons (.jz hS (rE ns)) .nil
  .exact absurd e2 (Ax (hK w) e1)
 .rw[hs];intro v Oe H' g r;cases r;rfl
 .obtain⟨ea,T,C,dd,Hc,_,_,_,_,_,_,_,_,z⟩:=z;exact z
 .obtain⟨rfl,h2,h3,h4⟩:=hq;exact⟨.inl ⟨.bool true,.bool true,[],rfl,λ_=>rfl,.bool true,Att.zB l _,λ_=>⟨List.Pairwise.nil,λ_ hm=>(nomatch hm)⟩⟩,h2,h3,h4⟩
abbrev DM(x q:Str)(t:Stmt)(s:Value)(c:Addr):FuncData:=UR x q (gP t) (eM t) (aZ t) .none .none .none s none (.ref c) .none
def bh.of{K:SD}{q:Str}{t:Stmt}{dv kV doc pm:Value}{an:Option Addr}{Ov ct:Value}{f:Addr}(h1:K.lookup f=some ⟨.type "function",none,.func (UR x q (gP t) (eM t) (aZ t) dv kV doc pm an Ov ct),⟨[]⟩⟩)(h2:VG K Ov q=true)(h3:Vn K (.ref f)=true):bh K x q t dv f (UR x q (gP t) (eM t) (aZ t) dv kV doc pm an Ov ct):=⟨⟨_,_,_,_,_,_,_,_,_,rfl,h1,h2⟩,h3⟩
section
variable{P:List α->Prop}
def NQ(h:∀a b,P [a,b]):∀us,us.length=2->P us:=λus hl=>by obtain⟨a,b,rfl⟩:=ln2 hl;exact h a b
end
def dM.of{N P:List Str}{sc:Scope}(h1:autoParam (sc.kind=.function) aR._auto_1)(h2:autoParam (sc.isCoroutine=false) aR._auto_1)(h3:autoParam (sc.isGenerator=false) aR._auto_1)(h4:autoParam (N.Nodup) aN._auto_1)(h5:autoParam (N.take P.length=P) aR._auto_1)(h6:autoParam (∀x∈P,sc.names.lookup x=some .local\/sc.names.lookup x=some .cell) aN._auto_1)(h7:autoParam (∀y∈sc.names,y.2≠.free) aN._auto_1):dM N P sc:=⟨h1,h2,h3,h4,h5,h6,h7⟩
def aO{pos:Pos}{i:Nat}(hN:X.N.Nodup)(hi:autoParam (X.N[i]?=some x) aR._auto_1)(hx:autoParam (Loc X.env.scope x) aG._auto_1)(hf:autoParam ↑1 aG._auto_1):PG X (.Name x pos) (aE i):=FV hN hi hx hf
def Ee:Nat->(List Value->Prop)->Prop
 | 0,P=>P []
 |n+1,P=>∀a,Ee n λl=>P (a::l)
theorem sX:∀{n:Nat}{P:List Value->Prop},Ee n P->∀us:List Value,us.length=n->P us
 | 0,_,h,[],_=>h
 |n+1,_,h,a::r,e=>sX (h a) r (Za e)
variable{ps:List Str}{mg:Str->Option Value}
section
variable{K:SD}{h:Heap}{q:Str}{t:Stmt}{m:Nat}{tO:List PV->M (List PV)}
def jV(P:Program)(w:World)(base:Heap)(X:K.In h)(G:h.Ns mainGlobals mg)(a c:Addr)(s:Value)(ok:bh K x q t .none a (DM x q t s c)->aT P w K mg base (cu P w) n a (DM x q t s c) ps (dY m (bq m sem)))(h1:autoParam (K.lookup a=some ⟨.type "function",none,.func (DM x q t s c),⟨[]⟩⟩) aK._auto_1)(h2:autoParam (VG K (.ref c) q=true) aK._auto_1)(h3:autoParam (Vn K (.ref a)=true) aK._auto_1)(h4:autoParam (PySem.W.nsIn K mainGlobals x=some (some (.ref a))) aK._auto_1)(h5:autoParam (ps.length=m) aR._auto_1)(h6:Ee ps.length λus=>bindArgs (DM x q t s c) ⟨us,[]⟩=pure (ps.zip us):=by (repeat intro _);rfl):d_ P w K mg base n x m sem :=
 ⟨⟨a,_,ps,aa7 X G h4,h3,h5,.all (sX h6),ok (.of h1 h2 h3)⟩⟩
def Eb(P:Program)(w:World)(base:Heap)(cc:mn K C)(a c:Addr)(s:Value)(ok:bh K x q t .none a (DM x q t s c)->aT P w K mg base (cu P w) n a (DM x q t s c) ps (dY m (bq m sem)))(h1:autoParam (K.lookup a=some ⟨.type "function",none,.func (DM x q t s c),⟨[]⟩⟩) aK._auto_1)(h2:autoParam (VG K (.ref c) q=true) aK._auto_1)(h3:autoParam (Vn K (.ref a)=true) aK._auto_1)(h4:autoParam (T_ K (.ref C) x=some (some (.ref a))) aK._auto_1)(h5:autoParam (YS K (.ref a)=true) aK._auto_1)(h6:Ee ps.length λus=>bindArgs (DM x q t s c) ⟨us,[]⟩=pure (ps.zip us):=by (repeat intro _);rfl):oB P w K mg base C n x m sem :=
 ⟨⟨a,_,ps,cc,⟨h4,h5,h3⟩,.all (sX h6),ok (.of h1 h2 h3)⟩⟩
end
def bh.gL{K:SD}{base:Heap}{qual:Str}{st:Stmt}{dv:Value}{f:Addr}{fd:FuncData}{g:af->M Out}(F:bh K x qual st dv f fd)(N:List Str)(hb:N.Nodup->∀(Ov:Value)(A:Around)(outer:List Env)(s:Shared)(H:Hp)(E:XK),bU k (A.deeper (envOfC qual (aZ st) s.heap.objs.size f Ov))->gB ((lJ (cu P w) P w K mg base N qual (aZ st) f Ov A outer s H E).out λ_=>E) (λ_=>E)->mW ((lJ (cu P w) P w K mg base N qual (aZ st) f Ov A outer s H E).out λ_=>E) (eM st) (tS E g))(S:dM N ps (aZ st):=by exact .of):aT P w K mg base (cu P w) (k+1) f fd ps (dY ps.length (bq ps.length (az N.length g))):=F.NY S (hb S.nd)
end L2
namespace vX
open PySem L2 PyProof.Rows
def av:Addr:=405
def aC:Addr:=232
abbrev cI(i:Int):af->M PV:=λ_=>M.ok (.int i)
def i8:af->M Out :=
 (aj (retS (BL (wY (λa=>jU a "int") lR lR (aa 0)) (Ii (wY (λa=>jU a "bool") lR lR (aa 0)))))
 ao)
def eR:List PV->M PV:=bq 1 (az 1 i8)
def jM:af->M Out :=
 (aj (kF (sy (gM (cR (wY (λa=>["list","tuple"].any λt=>jU a t) lR lR (aa 0)))) (cR (ai nv (ah dz (ae (aa 0) ak)) (aa 1)))) (aj (retS (λ_=>M.ok (.bl false)))
 ao) ao)
 (aj (retS (ah vg (ae (cH (cq (itemsOf (aa 0)) (bL 0) none (ah eR (ae (aa 0) ak)) 1 [])) ak)))
 ao))
def gC:List PV->M PV:=bq 2 (az 2 jM)
def jT:af->M Out :=
 (aj (a_ 2 (kX (ae (aa 0) (ae (cI 1) (ae (cI 0) ak)))))
 (aj (a_ 3 (kX (ae (aa 1) (ae (cI 0) (ae (cI 1) ak)))))
 (aj (jK (cR (ai nv (ai aA (aa 3) (cI 0)) (cI 0))) (aj (a_ 4 (ai cG (ai aA (aa 2) (cI 0)) (ai aA (aa 3) (cI 0))))
 (aj (a_ 5 (kX (ae (ai nP (ai aA (aa 2) (cI 0)) (ai eU (aa 4) (ai aA (aa 3) (cI 0)))) (ae (ai nP (ai aA (aa 2) (cI 1)) (ai eU (aa 4) (ai aA (aa 3) (cI 1)))) (ae (ai nP (ai aA (aa 2) (cI 2)) (ai eU (aa 4) (ai aA (aa 3) (cI 2)))) ak)))))
 (aj (a_ 2 (aa 3))
 (aj (a_ 3 (aa 5))
 ao)))))
 (aj (kF (cR (ai z_ (ai aA (aa 2) (cI 0)) (cI 0))) (aj (retS (kX (ae (kA (ai aA (aa 2) (cI 0))) (ae (kA (ai aA (aa 2) (cI 1))) (ae (kA (ai aA (aa 2) (cI 2))) ak)))))
 ao) ao)
 (aj (retS (aa 2))
 ao)))))
def fy:List PV->M PV:=bq 2 (az 6 jT)
def eW:af->M Out :=
 (aj (a_ 1 (cI 1))
 (aj (iz (itemsOf (aa 0)) (bL 2) (aj (a_ 1 (ai eU (ai cG (aa 1) (ai aA (ah fy (ae (aa 1) (ae (aa 2) ak))) (cI 0))) (aa 2)))
 ao))
 (aj (retS (aa 1))
 ao)))
def e9:List PV->M PV:=bq 1 (az 3 eW)
def jf:af->M Out :=
 (aj (retS (ah cw (ae (cH (cq (kL nU (ae (aa 0) ak)) (bL 0) none (yu (cR (ai nH (aa 0) (aa 1))) (cI 1) (cI 0)) 1 [1])) ak)))
 ao)
def ji:List PV->M PV:=bq 2 (az 2 jf)
def fw:af->M Out :=
 (aj (retS (BL (ah eR (ae (aa 0) ak)) (fN AI AI (aa 1) (aa 0) (aa 2))))
 ao)
def fk:List PV->M PV:=bq 3 (az 3 fw)
def fP:af->M Out :=
 (aj (kF (cR (ai DK (ah dz (ae (aa 0) ak)) (cI 6))) (aj (λ_=>none)
 ao) ao)
 (aj (kF (cR (ai nH (ah dz (ae (aa 0) ak)) (cI 0))) (aj (λ_=>none)
 ao) ao)
 (aj (iz (kL yy (ae (aa 0) ak)) (bT 1 2) (aj (kF (gM (cR (ah fk (ae (aa 2) (ae (cI 2) (ae (cI 360) ak)))))) (aj (λ_=>none)
 ao) ao)
 ao))
 ao)))
def fR:List PV->M PV:=bq 1 (az 3 fP)
def fe:af->M Out :=
 (aj (kF (cR (ai DK (ah dz (ae (aa 0) ak)) (cI 8))) (aj (λ_=>none)
 ao) ao)
 (aj (iz (kL yy (ae (aa 0) ak)) (bT 2 3) (aj (kF (gM (cR (ah gC (ae (aa 3) (ae (aa 1) ak))))) (aj (λ_=>none)
 ao) ao)
 ao))
 ao))
def eX:List PV->M PV:=bq 2 (az 4 fe)
def fS:af->M Out :=
 (aj (kF (cR (ai zO (aa 1) (λ_=>M.ok .dq))) (aj (retS (ai eU (kX (ae (cI 1) ak)) (ah dz (ae (aa 0) ak))))
 ao) ao)
 (aj (iz (kL nU (ae (ah (xQ λi j=>if j>i then j else i) (ae (ah dz (ae (aa 0) ak)) (ae (ah dz (ae (aa 1) ak)) ak))) ak)) (bL 2) (aj (kF (sy (cR (ai J0 (aa 2) (ah dz (ae (aa 0) ak)))) (cR (ai J0 (aa 2) (ah dz (ae (aa 1) ak))))) (aj (λ_=>none)
 ao) ao)
 (aj (kF (gM (cR (ah fk (ae (ai aA (aa 1) (aa 2)) (ae (cI 1) (ae (cI 1000) ak)))))) (aj (λ_=>none)
 ao) ao)
 ao)))
 (aj (retS (ah cw (ae (aa 1) ak)))
 ao)))
def fQ:List PV->M PV:=bq 2 (az 3 fS)
def lH:af->M Out :=
 (aj (retS (ah cw (ae (cH (cq (kL zip2 (ae (aa 0) (ae (aa 1) ak))) (bT 0 1) none (ai gy (aa 0) (aa 1)) 2 [])) ak)))
 ao)
def j6:List PV->M PV:=bq 2 (az 2 lH)
def me:af->M Out :=
 (aj (retS (ah cw (ae (cH (cq (kL zip2 (ae (aa 0) (ae (aa 2) ak))) (bT 0 1) none (ai gH (ai eU (aa 2) (aa 0)) (ai eU (aa 3) (aa 1))) 2 [1,3])) ak)))
 ao)
def j0:List PV->M PV:=bq 4 (az 4 me)
def et:af->M Out :=
 (aj (a_ 5 (ah j0 (ae (ai aA (aa 1) (cI 0)) (ae (aa 2) (ae (ai aA (aa 3) (cI 0)) (ae (aa 4) ak))))))
 (aj (retS (kX (ae (ah j6 (ae (aa 5) (ae (aa 0) ak))) (ae (ah j0 (ae (ai aA (aa 1) (cI 1)) (ae (aa 2) (ae (ai aA (aa 3) (cI 1)) (ae (aa 4) ak))))) ak))))
 ao))
def dc:List PV->M PV:=bq 5 (az 6 et)
def dS:af->M Out :=
 (aj (a_ 3 (ai aA (ai aA (ai aA (aa 1) (aa 2)) (cI 0)) (aa 2)))
 (aj (retS (yu (cR (ai nH (aa 3) (cI 0))) (ai aA (aa 0) (aa 2)) (aa 3)))
 ao))
def cY:List PV->M PV:=bq 3 (az 4 dS)
def iX:af->M Out :=
 (aj (mD 3 (gO ak))
 (aj (iz (kL yy (ae (aa 1) ak)) (bT 4 5) (aj (a_ 6 (ah cY (ae (aa 0) (ae (aa 1) (ae (aa 4) ak)))))
 (aj (a_ 7 (ai aA (ai aA (aa 2) (cI 0)) (aa 4)))
 (aj (a_ 8 (ah fy (ae (aa 6) (ae (aa 7) ak))))
 (aj (jc 3 (ah dc (ae (aa 0) (ae (aa 5) (ae (ai aA (aa 8) (cI 1)) (ae (aa 2) (ae (ai aA (aa 8) (cI 2)) ak)))))))
 (aj (a_ 2 (ah dc (ae (aa 0) (ae (aa 2) (ae (ai cG (aa 6) (ai aA (aa 8) (cI 0))) (ae (aa 5) (ae (kA (ai cG (aa 7) (ai aA (aa 8) (cI 0)))) ak)))))))
 ao))))))
 (aj (mT [3] (retS (kX (ae (aa 3) (ae (ai aA (aa 2) (cI 1)) ak)))))
 ao)))
def iZ:List PV->M PV:=bq 3 (az 9 iX)
def iT:af->M Out :=
 (aj (iz (kL yP (ae (aa 3) (ae (ah dz (ae (aa 0) ak)) ak))) (bL 4) (aj (a_ 5 (ai cG (ai aA (ai aA (aa 2) (cI 0)) (aa 4)) (ah cY (ae (aa 0) (ae (aa 1) (ae (aa 4) ak))))))
 (aj (a_ 2 (ah dc (ae (aa 0) (ae (aa 2) (ae (cI 1) (ae (ai aA (aa 1) (aa 4)) (ae (kA (aa 5)) ak)))))))
 ao)))
 (aj (retS (aa 2))
 ao))
def eP:List PV->M PV:=bq 4 (az 6 iT)
def gk:af->M Out :=
 (aj (iz (kL Af (ae (ai nP (ah dz (ae (aa 1) ak)) (cI 1)) (ae (kA (cI 1)) (ae (kA (cI 1)) ak)))) (bL 2) (aj (a_ 3 (ai aA (aa 1) (aa 2)))
 (aj (a_ 0 (ah j0 (ae (aa 0) (ae (cI 1) (ae (aa 3) (ae (kA (ai cG (ai aA (aa 0) (aa 2)) (ai aA (aa 3) (aa 2)))) ak))))))
 ao)))
 (aj (retS (aa 0))
 ao))
def gG:List PV->M PV:=bq 2 (az 4 gk)
def fG:af->M Out :=
 (aj (kF (cR (ai z_ (aa 1) (ah dz (ae (aa 0) ak)))) (aj (retS (ai aA (aa 0) (aa 1)))
 ao) ao)
 (aj (retS (cI 0))
 ao))
def cF:List PV->M PV:=bq 2 (az 2 fG)
def dD:af->M Out :=
 (aj (mD 2 (gO ak))
 (aj (a_ 3 (ai gH (ai gy (aa 0) (cI 2147483629)) (cI 17)))
 (aj (iz (kL nU (ae (aa 1) ak)) (bL 4) (aj (a_ 3 (ai gy (ai gH (ai gH (ai eU (aa 3) (cI 48271)) (ai eU (cI 7919) (aa 4))) (cI 1)) (cI 2147483647)))
 (aj (jc 2 (ai cG (aa 3) (cI 5)))
 ao)))
 (aj (mT [2] (retS (aa 2)))
 ao))))
def dE:List PV->M PV:=bq 2 (az 5 dD)
def dG:af->M Out :=
 (aj (mD 2 (gO ak))
 (aj (a_ 3 (aa 0))
 (aj (iz (itemsOf (aa 1)) (bL 4) (aj (jc 2 (ai gy (aa 3) (aa 4)))
 (aj (a_ 3 (ai cG (aa 3) (aa 4)))
 ao)))
 (aj (mT [2] (retS (aa 2)))
 ao))))
def dI:List PV->M PV:=bq 2 (az 5 dG)
def fY:af->M Out :=
 (aj (mD 1 (gO ak))
 (aj (a_ 2 (cI 192))
 (aj (a_ 3 (ai aA (qM (ae (ai cG (aa 0) (cI 8)) (ae (ai aA (ah dE (ae (ai cG (aa 0) (cI 8)) (ae (cI 1) ak))) (cI 0)) ak))) (ai gy (ai cG (aa 0) (cI 4)) (cI 2))))
 (aj (iz (kL nU (ae (ai gH (cI 1) (ai gy (aa 0) (cI 4))) ak)) (bL 4) (aj (kF (cR (ai DK (aa 2) (cI 1))) (aj (a_ 5 (ah (xQ λi j=>if j<i then j else i) (ae (cI 15) (ae (ai nP (aa 2) (cI 1)) ak))))
 (aj (jc 1 (ai gH (cI 2) (ai gy (aa 3) (aa 5))))
 (aj (a_ 3 (ai cG (aa 3) (aa 5)))
 (aj (a_ 2 (uF 1 (ai cG (aa 2) (ai aA (aa 1) (kA (cI 1))))))
 ao)))) ao)
 ao))
 (aj (mT [1] (retS (aa 1)))
 ao)))))
def fX:List PV->M PV:=bq 1 (az 6 fY)
def eZ:af->M Out :=
 (aj (mD 2 (gO ak))
 (aj (iz (kL nU (ae (ai gy (ah cF (ae (aa 0) (ae (cI 1) ak))) (cI 9)) ak)) (bL 3) (aj (mD 4 (gO ak))
 (aj (kF (cR (ai nH (ai gy (ai cG (ah cF (ae (aa 0) (ae (cI 1) ak))) (cI 9)) (cI 2)) (cI 1))) (aj (jc 2 (ah dI (ae (ah cF (ae (aa 0) (ae (ai gH (cI 2) (aa 3)) ak))) (ae (aa 1) ak))))
 (aj (λenv=>M.ok (.ct env))
 ao)) ao)
 (aj (iz (kL zip2 (ae (ah dE (ae (ai gH (ah cF (ae (aa 0) (ae (ai gH (cI 2) (aa 3)) ak))) (ai eU (cI 7919) (aa 3))) (ae (ah dz (ae (aa 1) ak)) ak))) (ae (aa 1) ak))) (bT 5 6) (aj (jc 4 (ai aA (qM (ae (cI 0) (ae (ai gy (ai cG (aa 5) (cI 3)) (aa 6)) (ae (ai cG (aa 6) (cI 2)) (ae (ai nP (ai gy (ai cG (aa 5) (cI 3)) (aa 6)) (aa 6)) ak))))) (ai gy (aa 5) (cI 4))))
 ao))
 (aj (mT [4] (jc 2 (aa 4)))
 ao)))))
 (aj (mT [2] (retS (aa 2)))
 ao)))
def fc:List PV->M PV:=bq 2 (az 7 eZ)
def cj:af->M Out :=
 (aj (retS (ah cw (ae (cH (cq (kL w5 (ae (aa 1) (ae (aa 2) (ae (aa 0) ak)))) (lN 0 1 2) none (ai gy (ai gH (aa 0) (ai eU (aa 3) (aa 1))) (aa 2)) 3 [3])) ak)))
 ao)
def aL:List PV->M PV:=bq 4 (az 4 cj)
def gR:af->M Out :=
 (aj (Ae 3 (aa 1))
 (aj (mD 4 (wI 3))
 (aj (jK (vo 4 (cR (ai nv (aa 4) (qM ak)))) (aj (Ab 5 4 0 2 aL)
 (aj (kF (cR (Lu true 3 (aa 5))) (aj (Dl 3 (aa 5) (λ_=>M.ok (.bl true)))
 (aj (jc 4 (aa 5))
 ao)) ao)
 ao)))
 (aj (LW 3 (retS (aa 3)))
 ao))))
def fE:List PV->M PV:=bq 3 (az 6 gR)
def cT:af->M Out :=
 (aj (mD 2 (gO (ae (JR (ah cw (ae (cH (cq (itemsOf (aa 0)) (bL 0) none (cI 0) 1 [])) ak)) (λ_=>M.ok (.bl true))) ak)))
 (aj (iz (itemsOf (aa 1)) (bL 3) (aj (jc 2 (ah fE (ae (aa 0) (ae (M6 2 (kA (cI 1))) (ae (aa 3) ak)))))
 ao))
 (aj (mT [2] (retS (aa 2)))
 ao)))
def cP:List PV->M PV:=bq 2 (az 4 cT)
def fj:af->M Out :=
 (aj (a_ 3 (cH (cq (itemsOf (ah uS (ae (aa 1) ak))) (bL 0) (some (pQ (cR (ai nH (uD 0 (lq (aa 0) BY (jE (aa 1)))) (cI 0))) (cR (ai DK (ai aA (aa 0) (aa 1)) (cI 0))))) (aa 0) 1 [2])))
 (aj (kF (cR (ai nH (aa 3) (qM ak))) (aj (retS (qM (ae (ai aA (aa 0) (aa 2)) (ae (ah cw (ae (cH (cq (itemsOf (aa 0)) (bL 0) none (cI 0) 1 [])) ak)) ak))))
 ao) ao)
 (aj (retS (qM (ae (ai aA (ai aA (aa 3) (cI 0)) (aa 2)) (ae (ai aA (aa 3) (cI 0)) ak))))
 ao)))
def dU:List PV->M PV:=bq 3 (az 4 fj)
def gN:af->M Out :=
 (aj (a_ 3 (cI 1))
 (aj (a_ 4 (ah aL (ae (aa 0) (ae (aa 2) (ae (aa 2) (ae (cI 0) ak))))))
 (aj (jK (cR (ai (vp true) (aa 4) (aa 1))) (aj (a_ 3 (ai gH (aa 3) (cI 1)))
 (aj (a_ 4 (ah aL (ae (aa 0) (ae (aa 4) (ae (aa 2) (ae (cI 1) ak))))))
 ao)))
 (aj (retS (aa 3))
 ao))))
def gQ:List PV->M PV:=bq 3 (az 5 gN)
def dj:af->M Out :=
 (aj (kF (sy (gM (cR (wY (λa=>jU a "tuple") lR lR (aa 0)))) (sy (cR (ai nv (ah dz (ae (aa 0) ak)) (ah dz (ae (aa 4) ak)))) (cR (ai nv (ai aA (aa 0) (aa 1)) (ai aA (aa 2) (aa 1)))))) (aj (retS (λ_=>M.ok (.bl false)))
 ao) ao)
 (aj (a_ 5 (ah cw (ae (cH (cq (itemsOf (aa 3)) (bL 0) none (cI 0) 1 [])) ak)))
 (aj (iz (kL yy (ae (aa 0) ak)) (bT 6 7) (aj (kF (sy (pQ (cR (ai DK (aa 6) (aa 1))) (cR (ai nv (aa 7) (cI 0)))) (pQ (cR (ai z_ (aa 6) (aa 1))) (gM (cR (fN AI z_ (cI 0) (aa 7) (ai aA (aa 2) (aa 6))))))) (aj (retS (λ_=>M.ok (.bl false)))
 ao) ao)
 (aj (a_ 5 (ah aL (ae (aa 3) (ae (aa 5) (ae (ai aA (aa 4) (aa 6)) (ae (aa 7) ak))))))
 ao)))
 (aj (retS (ai nH (ah (xv λi j=>decide (i>j)) (ae (aa 5) ak)) (cI 0)))
 ao))))
def c_:List PV->M PV:=bq 5 (az 8 dj)
def jo:af->M Out :=
 (aj (sG (ah fR (ae (aa 1) ak)))
 (aj (sG (ah eX (ae (aa 2) (ae (ah dz (ae (aa 1) ak)) ak))))
 (aj (kW 0 aC "dial_sizes" (ah cw (ae (aa 1) ak)))
 (aj (kW 0 aC "lever_settings" (ah cw (ae (cH (cq (itemsOf (aa 2)) (bL 0) none (ah j6 (ae (aa 0) (ae (aa 1) ak))) 1 [1])) ak)))
 (aj (kW 0 aC "lever_prices" (ah fQ (ae (aa 2) (ae (aa 3) ak))))
 (aj (kW 0 aC "least_round" (ah e9 (ae (aa 1) ak)))
 ao))))))
def gZ:Addr->List PV->M (List (Str×PV)):=uc 4 (za 4 jo aC)
def bR:af->M Out :=
 (aj (retS (fq (λc=>c==aC) "dial_sizes" (aa 0)))
 ao)
def bu:List PV->M PV:=bq 1 (az 1 bR)
def cy:af->M Out :=
 (aj (retS (fq (λc=>c==aC) "lever_settings" (aa 0)))
 ao)
def bS:List PV->M PV:=bq 1 (az 1 cy)
def e7:af->M Out :=
 (aj (a_ 1 (bV aC "sizes" bu (fq (λc=>c==av) "vault" (aa 0)) ak))
 (aj (retS (ah cw (ae (cH (cq (kL nU (ae (ah dz (ae (aa 1) ak)) ak)) (bL 0) none (ah cY (ae (aa 2) (ae (fq (λc=>c==av) "made_rows" (aa 1)) (ae (aa 0) ak)))) 1 [0,1])) ak)))
 ao))
def e6:List PV->M PV:=bq 1 (az 2 e7)
def f9:af->M Out :=
 (aj (retS (cH (cq (itemsOf (fq (λc=>c==av) "made_rows" (aa 0))) (bL 0) none (ai aA (aa 0) (cI 0)) 1 [])))
 ao)
def gc:List PV->M PV:=bq 1 (az 1 f9)
def dJ:af->M Out :=
 (aj (retS (ah cw (ae (cH (cq (kL yy (ae (fq (λc=>c==av) "idle_rows" (aa 0)) ak)) (bT 0 1) none (ai aA (aa 1) (aa 0)) 2 [])) ak)))
 ao)
def dC:List PV->M PV:=bq 1 (az 1 dJ)
def f6:af->M Out :=
 (aj (retS (ah xH (ae (fq (λc=>c==av) "idle_rows" (aa 0)) ak)))
 ao)
def fZ:List PV->M PV:=bq 1 (az 1 f6)
def jH:af->M Out :=
 (aj (retS (ai eU (kX (ae (cI 0) ak)) (ah dz (ae (bV aC "sizes" bu (aa 0) ak) ak))))
 ao)
def iQ:List PV->M PV:=bq 1 (az 1 jH)
def fV:af->M Out :=
 (aj (a_ 2 (bV aC "sizes" bu (aa 0) ak))
 (aj (kF (sy (gM (cR (wY (λa=>jU a "tuple") lR lR (aa 1)))) (gM (cR (ah gC (ae (aa 1) (ae (ah dz (ae (aa 2) ak)) ak)))))) (aj (retS (λ_=>M.ok (.bl false)))
 ao) ao)
 (aj (retS (ah vg (ae (cH (cq (kL zip2 (ae (aa 1) (ae (aa 2) ak))) (bT 0 1) none (fN AI z_ (cI 0) (aa 0) (aa 1)) 2 [])) ak)))
 ao)))
def f7:List PV->M PV:=bq 2 (az 3 fV)
def ef:af->M Out :=
 (aj (kF (gM (cR (ah f7 (ae (aa 0) (ae (aa 1) ak))))) (aj (λ_=>none)
 ao) ao)
 ao)
def eE:List PV->M PV:=bq 2 (az 2 ef)
def gz:af->M Out :=
 (aj (retS (kX (ae (aa 1) (ae (ai eU (kX (ae (cI 0) ak)) (ah dz (ae (bV aC "levers" bS (aa 0) ak) ak))) ak))))
 ao)
def eQ:List PV->M PV:=bq 2 (az 2 gz)
def e_:af->M Out :=
 (aj (a_ 2 (bV aC "levers" bS (aa 0) ak))
 (aj (retS (kX (ae (ai aA (aa 2) (aa 1)) (ae (ah ji (ae (ah dz (ae (aa 2) ak)) (ae (aa 1) ak))) ak))))
 ao))
def fg:List PV->M PV:=bq 2 (az 3 e_)
def cQ:af->M Out :=
 (aj (a_ 3 (bV av "steps" e6 (aa 0) ak))
 (aj (a_ 4 (bV av "rows" gc (aa 0) ak))
 (aj (kF (sy (gM (cR (wY (λa=>jU a "tuple") lR lR (aa 3)))) (sy (gM (cR (wY (λa=>jU a "list") lR lR (aa 4)))) (cR (ai nv (ah dz (ae (aa 3) ak)) (ah dz (ae (aa 1) ak)))))) (aj (retS (λ_=>M.ok (.bl false)))
 ao) ao)
 (aj (a_ 5 (cH (cq (kL nU (ae (ah dz (ae (aa 1) ak)) ak)) (bL 0) none (ah dU (ae (aa 1) (ae (aa 2) (ae (aa 0) ak)))) 1 [1,2])))
 (aj (retS (BL (ai nH (aa 3) (ah cw (ae (cH (cq (itemsOf (aa 5)) (bL 0) none (ai aA (aa 0) (cI 0)) 1 [])) ak))) (ai nH (aa 4) (cH (cq (itemsOf (aa 5)) (bL 0) none (ai aA (aa 0) (cI 1)) 1 [])))))
 ao)))))
def bY:List PV->M PV:=bq 3 (az 6 cQ)
def cS:af->M Out :=
 (aj (mD 4 (gO ak))
 (aj (iz (kL yy (ae (aa 2) ak)) (bT 5 6) (aj (jc 4 (ah gQ (ae (aa 1) (ae (ai aA (aa 3) (aa 5)) (ae (aa 6) ak)))))
 ao))
 (aj (a_ 7 (bV av "spans" dC (aa 0) ak))
 (aj (a_ 8 (bV av "idle" fZ (aa 0) ak))
 (aj (mT [4] (kF (sy (gM (cR (wY (λa=>jU a "tuple") lR lR (aa 7)))) (sy (cR (ai nv (aa 7) (ah cw (ae (aa 4) ak)))) (sy (gM (cR (wY (λa=>jU a "list") lR lR (aa 8)))) (cR (ai nv (ah dz (ae (aa 8) ak)) (ah dz (ae (aa 2) ak))))))) (aj (retS (λ_=>M.ok (.bl false)))
 ao) ao))
 (aj (iz (kL yy (ae (aa 8) ak)) (bT 5 6) (aj (mT [4] (kF (gM (cR (ah c_ (ae (aa 6) (ae (aa 5) (ae (aa 4) (ae (aa 1) (ae (aa 2) ak)))))))) (aj (retS (λ_=>M.ok (.bl false)))
 ao) ao))
 ao))
 (aj (retS (λ_=>M.ok (.bl true)))
 ao)))))))
def cU:List PV->M PV:=bq 4 (az 9 cS)
def i4:af->M Out :=
 (aj (a_ 2 (bV aC "sizes" bu (aa 1) ak))
 (aj (a_ 3 (cH (cq (itemsOf (aa 2)) (bL 0) none (ah eQ (ae (aa 1) (ae (ah iQ (ae (aa 1) ak)) ak))) 1 [1])))
 (aj (mD 4 (gO ak))
 (aj (iz (kL nU (ae (ah dz (ae (bV aC "levers" bS (aa 1) ak) ak)) ak)) (bL 5) (aj (a_ 6 (ah iZ (ae (aa 2) (ae (aa 3) (ae (ah fg (ae (aa 1) (ae (aa 5) ak))) ak)))))
 (aj (a_ 3 (ai aA (aa 6) (cI 0)))
 (aj (jc 4 (uF 4 (ah gG (ae (ai aA (aa 6) (cI 1)) (ae (aa 4) ak)))))
 ao))))
 (aj (kW 0 av "vault" (aa 1))
 (aj (kW 0 av "made_rows" (cH (cq (kL yy (ae (aa 3) ak)) (bT 0 1) none (ah eP (ae (aa 2) (ae (aa 3) (ae (aa 1) (ae (ai gH (aa 0) (cI 1)) ak))))) 2 [2,3])))
 (aj (mT [4] (kW 0 av "idle_rows" (aa 4)))
 ao)))))))
def g8:Addr->List PV->M (List (Str×PV)):=uc 2 (za 7 i4 av)
def bF:af->M Out :=
 (aj (sG (ah eE (ae (fq (λc=>c==av) "vault" (aa 0)) (ae (aa 1) ak))))
 (aj (retS (ah eP (ae (bV aC "sizes" bu (fq (λc=>c==av) "vault" (aa 0)) ak) (ae (fq (λc=>c==av) "made_rows" (aa 0)) (ae (ah eQ (ae (fq (λc=>c==av) "vault" (aa 0)) (ae (aa 1) ak))) (ae (cI 0) ak))))))
 ao))
def bj:List PV->M PV:=bq 2 (az 2 bF)
def eY:af->M Out :=
 (aj (retS (ai aA (bV av "brought_down" bj (aa 0) (ae (aa 1) ak)) (cI 0)))
 ao)
def e8:List PV->M PV:=bq 2 (az 2 eY)
def cx:af->M Out :=
 (aj (a_ 2 (bV av "brought_down" bj (aa 0) (ae (aa 1) ak)))
 (aj (kF (cR (ai nv (ai aA (aa 2) (cI 0)) (ah iQ (ae (fq (λc=>c==av) "vault" (aa 0)) ak)))) (aj (retS (λ_=>M.ok .dq))
 ao) ao)
 (aj (retS (ah gG (ae (ah cw (ae (cH (cq (itemsOf (ai aA (aa 2) (cI 1))) (bL 0) none (kA (aa 0)) 1 [])) ak)) (ae (fq (λc=>c==av) "idle_rows" (aa 0)) ak))))
 ao)))
def bC:List PV->M PV:=bq 2 (az 3 cx)
def bN:af->M Out :=
 (aj (kF (cR (ai nv (bV av "least" e8 (aa 0) (ae (aa 4) ak)) (ah sC (ae (cH (cq (keysOf (aa 3)) (bL 0) none (ah aL (ae (aa 1) (ae (aa 2) (ae (aa 0) (ae (cI 1) ak))))) 1 [1,4])) ak)))) (aj (retS (λ_=>M.ok (.bl false)))
 ao) ao)
 (aj (a_ 5 (bV av "pulls_to" bC (aa 0) (ae (aa 4) ak)))
 (aj (kF (cR (ai (vp true) (aa 4) (aa 3))) (aj (retS (ai zO (aa 5) (λ_=>M.ok .dq)))
 ao) ao)
 (aj (kF (sy (gM (cR (wY (λa=>jU a "tuple") lR lR (aa 5)))) (cR (ai nv (ah dz (ae (aa 5) ak)) (ah dz (ae (aa 2) ak))))) (aj (retS (λ_=>M.ok (.bl false)))
 ao) ao)
 (aj (a_ 6 (ah cw (ae (cH (cq (itemsOf (aa 1)) (bL 0) none (cI 0) 1 [])) ak)))
 (aj (iz (kL w5 (ae (aa 2) (ae (aa 5) (ae (bV av "spans" dC (aa 0) ak) ak)))) (lN 7 8 9) (aj (kF (sy (cR (wY (λa=>jU a "bool") lR lR (aa 8))) (gM (cR (fN AI z_ (cI 0) (aa 8) (aa 9))))) (aj (retS (λ_=>M.ok (.bl false)))
 ao) ao)
 (aj (a_ 6 (ah aL (ae (aa 1) (ae (aa 6) (ae (aa 7) (ae (aa 8) ak))))))
 ao)))
 (aj (retS (ai nH (aa 6) (aa 4)))
 ao)))))))
def bM:List PV->M PV:=bq 5 (az 10 bN)
def AQ:af->M Out :=
 (aj (a_ 1 (ah fX (ae (ah cF (ae (aa 0) (ae (cI 0) ak))) ak)))
 (aj (a_ 2 (ah fc (ae (aa 0) (ae (aa 1) ak))))
 (aj (a_ 3 (ah cP (ae (aa 1) (ae (aa 2) ak))))
 (aj (a_ 4 (ai aA (aa 3) (kA (cI 1))))
 (aj (a_ 5 (ah (jD av g8 []) (ae (ah (jD aC gZ [.dq]) (ae (aa 1) (ae (aa 2) ak))) ak)))
 (aj (kF (sy (gM (cR (ah bY (ae (aa 5) (ae (aa 1) (ae (aa 4) ak)))))) (gM (cR (ah cU (ae (aa 5) (ae (aa 1) (ae (aa 2) (ae (aa 3) ak)))))))) (aj (retS (λ_=>M.ok (.bl false)))
 ao) ao)
 (aj (iz (kL yy (ae (ai gH (lq (aa 0) (jE (cI 10)) (jE (cI 18))) (qM (ae (cI 0) ak))) ak)) (bT 6 7) (aj (a_ 8 (ah cw (ae (ah dI (ae (ai gH (ai cG (aa 7) (cI 3)) (ai eU (cI 48271) (aa 6))) (ae (aa 1) ak))) ak)))
 (aj (kF (cR (ai nH (ai gy (aa 7) (cI 3)) (cI 0))) (aj (a_ 8 (ai aA (ah uS (ae (aa 4) ak)) (ai gy (ai cG (aa 7) (cI 3)) (ah D7 (ae (aa 4) ak)))))
 ao) ao)
 (aj (kF (gM (cR (ah bM (ae (aa 5) (ae (aa 1) (ae (aa 2) (ae (aa 4) (ae (aa 8) ak)))))))) (aj (retS (λ_=>M.ok (.bl false)))
 ao) ao)
 ao))))
 (aj (retS (ah bY (ae (aa 5) (ae (aa 1) (ae (aa 4) ak)))))
 ao))))))))
def sd:List PV->M PV:=bq 1 (az 9 AQ)
end vX
namespace vX
open PySem L2 PyProof.Rows
local macro_rules|`(tactic| walk_at "s")=>`(tactic| exact⟨rfl,rfl,rfl,by decide +kernel,rfl,by decide +kernel,by decide +kernel⟩)
local macro_rules|`(tactic| walk_at "l")=>`(tactic| first|exact .inl rfl|exact .inr rfl)
local macro_rules|`(tactic| walk_at "pp")=>do
 let mut st:Array (Array Lean.Term):=#[#[]]
 for k in "( mW _ _ ( tS _ ( aj _ _ ) ) ) ( AD 0 0 ) ( mW _ _ ( tS _ ao ) ) ( Eh ) ( PE _ _ ( tE _ ( aa _ ) ) ) ( vr _ ) ( PA _ _ ( tL _ ( ae _ _ ) ) ) ( Fe 0 0 0 ) ( PA _ _ ( tL _ ak ) ) ( HC ) ( PE _ _ ( tE _ ( ai gH _ _ ) ) ) ( oK F6 Ij 0 0 ) ( PE _ _ ( tE _ ( ai nP _ _ ) ) ) ( oK Jm HY 0 0 ) ( PE _ _ ( tE _ ( ai eU _ _ ) ) ) ( oK FJ Jx 0 0 ) ( PE _ _ ( tE _ ( ai cG _ _ ) ) ) ( oK CG Cb 0 0 ) ( PE _ _ ( tE _ ( ai gy _ _ ) ) ) ( oK E6 Ek 0 0 ) ( PE _ _ ( tE _ ( ai aA _ _ ) ) ) ( Hh 0 0 0 ) ( PT _ _ ( tT _ ( cR ( ai nH _ _ ) ) ) ) ( je ( An ( bU.units 1 ) ) Gm 0 0 ( eJ _ ) ) ( PE _ _ ( tE _ ( ai nH _ _ ) ) ) ( kQ ( An ( bU.units 1 ) ) Gm 0 0 ( eJ _ ) ) ( PT _ _ ( tT _ ( cR ( ai nv _ _ ) ) ) ) ( je ( CW ( bU.units 1 ) ) Gg 0 0 ( eJ _ ) ) ( PE _ _ ( tE _ ( ai nv _ _ ) ) ) ( kQ ( CW ( bU.units 1 ) ) Gg 0 0 ( eJ _ ) ) ( PT _ _ ( tT _ ( cR ( ai z_ _ _ ) ) ) ) ( je uH o8 0 0 ( eJ _ ) ) ( PE _ _ ( tE _ ( ai z_ _ _ ) ) ) ( kQ uH o8 0 0 ( eJ _ ) ) ( PT _ _ ( tT _ ( cR ( ai AI _ _ ) ) ) ) ( je pB kZ 0 0 ( eJ _ ) ) ( PE _ _ ( tE _ ( ai AI _ _ ) ) ) ( kQ pB kZ 0 0 ( eJ _ ) ) ( PT _ _ ( tT _ ( cR ( ai DK _ _ ) ) ) ) ( je Gy Dc 0 0 ( eJ _ ) ) ( PE _ _ ( tE _ ( ai DK _ _ ) ) ) ( kQ Gy Dc 0 0 ( eJ _ ) ) ( PT _ _ ( tT _ ( cR ( ai J0 _ _ ) ) ) ) ( je GJ B_ 0 0 ( eJ _ ) ) ( PE _ _ ( tE _ ( ai J0 _ _ ) ) ) ( kQ GJ B_ 0 0 ( eJ _ ) ) ( PT _ _ ( tT _ ( cR ( ai zO _ _ ) ) ) ) ( je Bs DF 0 0 ( eJ _ ) ) ( PE _ _ ( tE _ ( ai zO _ _ ) ) ) ( kQ Bs DF 0 0 ( eJ _ ) ) ( PT _ _ ( tT _ ( gM _ ) ) ) ( GU 0 ) ( PT _ _ ( tT _ ( cR ( ah _ _ ) ) ) ) ( t7 0 ) ( PT _ _ ( tT _ ( cR ( wY _ _ _ _ ) ) ) ) ( t7 0 ) ( PT _ _ ( tT _ ( cR ( bV _ _ _ _ _ ) ) ) ) ( t7 0 ) ( PT _ _ ( tT _ ( cR ( aa _ ) ) ) ) ( t7 0 ) ( PS _ _ ( tS _ ( retS _ ) ) ) ( I_ 0 ) ( PS _ _ ( tS _ ( kF _ _ _ ) ) ) ( Kj 0 0 0 ) ( PS _ _ ( tS _ ( jc _ _ ) ) ) ( yL rfl 5 0 ) ( PS _ _ ( tS _ ( mD _ _ ) ) ) ( F8 1 rfl 4 0 ) ( PE _ _ ( tO _ ( gO _ ) ) ) ( IZ 0 ) ( PS _ _ ( tS _ ( mT _ _ ) ) ) ( JN _ 0 ) ( PS _ _ ( tS _ ( sG _ ) ) ) ( Fc 0 ) ( PE _ _ ( tE _ ( kX _ ) ) ) ( Hl 0 ) ( PE _ _ ( tE _ ( qM _ ) ) ) ( H0 0 ) ( PE _ _ ( tE _ ( kA _ ) ) ) ( He 0 ) ( PE _ _ ( tE _ ( yu _ _ _ ) ) ) ( Jz 0 0 0 ) ( PE _ _ ( tE _ ( fq _ _ _ ) ) ) ( HQ 0 1 rfl ) ( PE _ _ ( tE _ ( ah dz _ ) ) ) ( eg zW IX 2 1 PySem.boot_len 0 ) ( PE _ _ ( tE _ ( ah cw _ ) ) ) ( rZ qH Cp 2 1 gF 0 ) ( PE _ _ ( tE _ ( ah xH _ ) ) ) ( rZ sW FA 2 1 lE 0 ) ( PE _ _ ( tE _ ( ah vg _ ) ) ) ( eg ( yV rfl ) HK 2 1 IC 0 ) ( PE _ _ ( tE _ ( ah ( jD _ _ _ ) _ ) ) ) ( Hf.make 1 1 3 2 6 0 ) ( PE _ _ ( tE _ ( ah _ _ ) ) ) ( d_.call 1 1 3 2 6 0 ) ( PE _ _ ( tE _ ( bV _ _ _ _ ak ) ) ) ( oB.J6 1 1 3 6 0 ) ( PE _ _ ( tE _ ( bV _ _ _ _ _ ) ) ) ( oB.call 1 1 3 6 0 0 )".splitOn " " do
  if k=="(" then st:=st.push #[]
  else
   let t:Lean.Term<-if k==")" then do
     let a:=st.back!
     st:=st.pop
     if a.size==1 then pure a[0]! else `($(a[0]!) $(a.extract 1 a.size)*)
    else if k=="_" then `(_) else if k=="0" then `(?_) else if k=="1" then `(by assumption) else if k=="2" then `(by rfl) else if k=="3" then `(by lia) else if k=="4" then `(by walk_at "l") else if k=="5" then `(by first|exact .inl rfl|exact .inr (.inl rfl)) else if k=="6" then `(by first|assumption|exact xU) else pure (Lean.mkIdent k.toName)
   st:=st.modify (st.size-1) (·.push t)
 let a:=st[0]!
 let mut c:Array (Lean.TSyntax `Lean.Parser.Tactic.tacticSeq):=#[]
 for i in [0:a.size/2] do c:=c.push (<-`(tacticSeq|((with_reducible show $(a[2*i]!));refine $(a[2*i+1]!))))
 `(tactic|all_goals repeat' (first $[|$c]*|((with_reducible show starEach _ _=_);exact Le rfl)|((with_reducible show PE _ _ (tE _ (λ_=>M.ok (.int _))));first|exact Jj|exact oC (Kq (by rfl) (by assumption)) λ_=>.int _)|((with_reducible show PE _ _ (tE _ (λ_=>M.ok (.bl _))));exact Ky)|((with_reducible show PE _ _ (tE _ (λ_=>M.ok .dq)));exact Iv)|((with_reducible show PE _ _ (tE _ (λ_=>M.ok (.str _))));exact pv_str)|((with_reducible show oh _);exact λ_ _=>rfl)|((with_reducible show PS _ _ (tS _ (a_ _ _)));refine HW ?_ ?_ ?_ ?_ ?_ ?_;assumption;exact rfl;(first|exact .inl rfl|exact .inr rfl);rotate_left;rfl;(first|exact .inl rfl|exact .inr rfl|assumption))))
def top(i:Nat):Stmt:=PySem.Challenge.pw_dialvault_k22_steps_of_small_vaults.main.body.getD i (.Pass ⟨0,0,0,0⟩)
structure Txt (K:SD) (mg:Str->Option Value):Prop where
 KH:mg "all"=none
 v7:mg "bool"=none
 Du:mg "dict"=none
 bQ:mg "enumerate"=none
 GN:mg "int"=none
 bg:mg "isinstance"=none
 GI:mg "len"=none
 qd:mg "list"=none
 yj:mg "max"=none
 BX:mg "min"=none
 eG:mg "range"=none
 pT:mg "sorted"=none
 jj:mg "tuple"=none
 p6:mg "zip"=none
 qB:∃u,mg "LEAST_PRICE"=some u/\RelV (.int 1) u
 sR:∃u,mg "LEAST_SIZE"=some u/\RelV (.int 2) u
 sL:∃u,mg "MOST_DIALS"=some u/\RelV (.int 6) u
 qD:∃u,mg "MOST_LEVERS"=some u/\RelV (.int 8) u
 t4:∃u,mg "MOST_PRICE"=some u/\RelV (.int 1000) u
 vk:∃u,mg "MOST_SIZE"=some u/\RelV (.int 360) u
 oA:mn K av
 lA:mn K aC
 hG:bW K av "idle_rows"
 gT:bW K av "made_rows"
 kO:bW K av "vault"
 gI:bW K aC "dial_sizes"
 fO:bW K aC "least_round"
 fI:bW K aC "lever_prices"
 ee:bW K aC "lever_settings"
 sM:∀C,(C==aC)=true->mn K C/\bW K C "dial_sizes"
 vn:∀C,(C==av)=true->mn K C/\bW K C "idle_rows"
 qO:∀C,(C==aC)=true->mn K C/\bW K C "least_round"
 oW:∀C,(C==aC)=true->mn K C/\bW K C "lever_prices"
 mK:∀C,(C==aC)=true->mn K C/\bW K C "lever_settings"
 vE:∀C,(C==av)=true->mn K C/\bW K C "made_rows"
 FK:∀C,(C==av)=true->mn K C/\bW K C "vault"
local macro_rules|`(tactic| walk_at "t")=>`(tactic| (have z:=‹Txt _ _›;cases z))
variable{P:Program}{w:World}{K:SD}{mg:Str->Option Value}{base:Heap}{f:Addr}{fd:FuncData}{dv:Value}
def vJ(F:bh K "is_whole" "is_whole" (top 9) dv f fd)(T:Txt K mg)  : aT P w K mg base (cu P w) 1 f fd ["thing"] (dY 1 eR) :=
 F.gL ["thing"] λnd _ _ _ _ _ _ hr O=>by
 unfold i8;walk_at "t";walk_at "pp";refine(wu ?_ (wR ?_));walk_at "pp";refine(hZ (T := "int") (by rfl) T.bg (dO (v:=.ty "int") (by rfl) T.GN Hi rfl) ↑12 iF iF ?_);walk_at "pp";refine(Hk ?_);walk_at "pp";refine(hZ (T := "bool") (by rfl) T.bg (dO (v:=.ty "bool") (by rfl) T.v7 xN rfl) ↑12 iF iF ?_);walk_at "pp"
def uP:((["number"]:List Str)++([]:List Str)).Nodup:=by decide +kernel
def zo(F:bh K "is_row" "is_row" (top 10) dv f fd)(T:Txt K mg)(OP:d_ P w K mg base 1 "is_whole" 1 (az 1 i8)):aT P w K mg base (cu P w) 2 f fd ["thing","length"] (dY 2 gC) :=
 F.gL ["thing","length"] λnd _ _ _ _ _ _ hr O=>by
 unfold jM;walk_at "t";walk_at "pp";refine(hU ?_ (iA ?_)).pt;walk_at "pp";refine(FW (Ts:=["list","tuple"]) (by rfl) T.bg (C2 (cL (dO (v:=.ty "list") (by rfl) T.qd lE rfl) (cL (dO (v:=.ty "tuple") (by rfl) T.jj gF rfl) i5))) (fun σ H R h=>⟨by show 2<=sizeLine;decide,h⟩) ↑12 iF ?_);walk_at "pp";refine(cC (bo (g:=(aE 0)) (ts:=["number"]) (fs:=[]) (js:=[]) (cl:=[]) rfl rfl rfl rfl rfl rfl .nil .nil (dP ?_) cJ (λ_ _ _ _ _=>(aO (i:=0) uP)) (λ_=>bb) ba (λ_ _ _ _ _=>?_)));walk_at "pp"
def zg(F:bh K "common" "common" (top 11) dv f fd)(T:Txt K mg)  : aT P w K mg base (cu P w) 1 f fd ["one","other"] (dY 2 fy) :=
 F.gL ["one","other","row","behind","times","rest"] λnd _ _ _ _ _ _ hr O=>by
 unfold jT;walk_at "t";walk_at "pp";refine(pM O ?_ ?_);walk_at "pp"
def oJ(F:bh K "multiple_of" "multiple_of" (top 12) dv f fd)(T:Txt K mg)(Pd:d_ P w K mg base 1 "common" 2 (az 6 jT)):aT P w K mg base (cu P w) 2 f fd ["numbers"] (dY 1 e9) :=
 F.gL ["numbers","multiple","number"] λnd _ _ _ _ _ _ hr O=>by
 unfold eW;walk_at "t";walk_at "pp";refine(bO (g:=(aE 2)) O rfl (dP ?_) cJ (aO (i:=2) nd) bb ?_);walk_at "pp"
def qP:((["other"]:List Str)++(["place"]:List Str)).Nodup:=by decide +kernel
def u_(F:bh K "unit_row" "unit_row" (top 13) dv f fd)(T:Txt K mg)  : aT P w K mg base (cu P w) 1 f fd ["length","place"] (dY 2 ji) :=
 F.gL ["length","place"] λnd _ _ _ _ _ _ hr O=>by
 unfold jf;walk_at "t";walk_at "pp";refine(cC (bo (g:=(aE 0)) (ts:=["other"]) (fs:=["place"]) (js:=[1]) rfl rfl rfl rfl rfl rfl (.cons rfl .nil) ↑4 (dW (by rfl) T.eG ?_) fF (λ_ _ _ _ _=>(aO (i:=0) qP)) (λ_=>bb) ba (λ_ _ _ _ _=>?_)));walk_at "pp"
def ua(F:bh K "is_within" "is_within" (top 22) dv f fd)(T:Txt K mg)(OP:d_ P w K mg base 1 "is_whole" 1 (az 1 i8)):aT P w K mg base (cu P w) 2 f fd ["thing","least","most"] (dY 3 fk) :=
 F.gL ["thing","least","most"] λnd _ _ _ _ _ _ hr O=>by
 unfold fw;walk_at "t";walk_at "pp";refine(wu ?_ (wR ?_));walk_at "pp";refine(vV pB kZ pB kZ ?_ ?_ ?_);walk_at "pp"
def qU(F:bh K "need_sizes" "need_sizes" (top 23) dv f fd)(T:Txt K mg)(OH:d_ P w K mg base 2 "is_within" 3 (az 3 fw)):aT P w K mg base (cu P w) 3 f fd ["sizes"] (dY 1 fR) :=
 F.gL ["sizes","dial","size"] λnd _ _ _ _ _ _ hr O=>by
 unfold fP;walk_at "t";walk_at "pp";exact gX;walk_at "pp";exact gX;walk_at "pp";refine(bO (g:=(jB K 2 (bA (aE 1) (bA (aE 2) jw)))) O rfl (jn (by rfl) T.bQ ?_) f_ (dQ (n:=2) rfl (aJ (aO (i:=1) nd) (aJ (aO (i:=2) nd) cK))) dh ?_);walk_at "pp";exact gX;walk_at "pp"
def pU(F:bh K "need_levers" "need_levers" (top 24) dv f fd)(T:Txt K mg)(Pe:d_ P w K mg base 2 "is_row" 2 (az 2 jM)):aT P w K mg base (cu P w) 3 f fd ["levers","dials"] (dY 2 eX) :=
 F.gL ["levers","dials","place","lever"] λnd _ _ _ _ _ _ hr O=>by
 unfold fe;walk_at "t";walk_at "pp";exact gX;walk_at "pp";refine(bO (g:=(jB K 2 (bA (aE 2) (bA (aE 3) jw)))) O rfl (jn (by rfl) T.bQ ?_) f_ (dQ (n:=2) rfl (aJ (aO (i:=2) nd) (aJ (aO (i:=3) nd) cK))) dh ?_);walk_at "pp";exact gX;walk_at "pp"
def qv(F:bh K "prices_for" "prices_for" (top 25) dv f fd)(T:Txt K mg)(OH:d_ P w K mg base 2 "is_within" 3 (az 3 fw)):aT P w K mg base (cu P w) 3 f fd ["levers","prices"] (dY 2 fQ) :=
 F.gL ["levers","prices","place"] λnd _ _ _ _ _ _ hr O=>by
 unfold fS;walk_at "t";walk_at "pp";refine(bO (g:=(aE 2)) O rfl (dW (by rfl) T.eG ?_) fF (aO (i:=2) nd) bb ?_);walk_at "pp";refine(eg (zJ rfl) yf (by rfl) T.yj v9 ?_);walk_at "pp";refine(hU ?_ (iA ?_)).pt;walk_at "pp";exact gX;walk_at "pp";exact gX;walk_at "pp"
def pZ:((["number","size"]:List Str)++([]:List Str)).Nodup:=by decide +kernel
def AR(F:bh K "rests" "rests" (top 26) dv f fd)(T:Txt K mg)  : aT P w K mg base (cu P w) 1 f fd ["numbers","sizes"] (dY 2 j6) :=
 F.gL ["numbers","sizes"] λnd _ _ _ _ _ _ hr O=>by
 unfold lH;walk_at "t";walk_at "pp";refine(cC (bo (g:=(jB K 2 (bA (aE 0) (bA (aE 1) jw)))) (ts:=["number","size"]) (fs:=[]) (js:=[]) (cl:=[]) rfl rfl rfl rfl rfl rfl .nil .nil (tf (by rfl) T.p6 ?_) oo (λ_ _ _ _ _=>(dQ (n:=2) rfl (aJ (aO (i:=0) pZ) (aJ (aO (i:=1) pZ) cK)))) (λ_=>dh) gJ (λ_ _ _ _ _=>?_)));walk_at "pp"
def qb:((["one","two"]:List Str)++(["times","others"]:List Str)).Nodup:=by decide +kernel
def AF(F:bh K "mixed" "mixed" (top 31) dv f fd)(T:Txt K mg)  : aT P w K mg base (cu P w) 1 f fd ["row","times","other","others"] (dY 4 j0) :=
 F.gL ["row","times","other","others"] λnd _ _ _ _ _ _ hr O=>by
 unfold me;walk_at "t";walk_at "pp";refine(cC (bo (g:=(jB K 2 (bA (aE 0) (bA (aE 1) jw)))) (ts:=["one","two"]) (fs:=["times","others"]) (js:=[1,3]) rfl rfl rfl rfl rfl rfl (.cons rfl (.cons rfl .nil)) (.cons rfl rfl ↑9 rfl rfl ↑4) (tf (by rfl) T.p6 ?_) oo (λ_ _ _ _ _=>(dQ (n:=2) rfl (aJ (aO (i:=0) qb) (aJ (aO (i:=1) qb) cK)))) (λ_=>dh) gJ (λ_ _ _ _ _=>?_)));walk_at "pp"
def qJ(F:bh K "mixed_made" "mixed_made" (top 32) dv f fd)(T:Txt K mg)(Pz:d_ P w K mg base 1 "mixed" 4 (az 4 me))(PB:d_ P w K mg base 1 "rests" 2 (az 2 lH)):aT P w K mg base (cu P w) 2 f fd ["sizes","made","times","other","others"] (dY 5 dc) :=
 F.gL ["sizes","made","times","other","others","doing"] λnd _ _ _ _ _ _ hr O=>by
 unfold et;walk_at "t";walk_at "pp"
def sV(F:bh K "step_size" "step_size" (top 35) dv f fd)(T:Txt K mg)  : aT P w K mg base (cu P w) 1 f fd ["sizes","made_rows","dial"] (dY 3 cY) :=
 F.gL ["sizes","made_rows","dial","notch"] λnd _ _ _ _ _ _ hr O=>by
 unfold dS;walk_at "t";walk_at "pp"
def vA(F:bh K "taken_in" "taken_in" (top 36) dv f fd)(T:Txt K mg)(Oo:d_ P w K mg base 1 "step_size" 3 (az 4 dS))(Pd:d_ P w K mg base 1 "common" 2 (az 6 jT))(OA:d_ P w K mg base 2 "mixed_made" 5 (az 6 et)):aT P w K mg base (cu P w) 3 f fd ["sizes","made_rows","left"] (dY 3 iZ) :=
 F.gL ["sizes","made_rows","left","wider","dial","made","step","notch","found"] λnd _ _ _ _ _ _ hr O=>by
 unfold iX;walk_at "t";walk_at "pp";refine(bO (g:=(jB K 2 (bA (aE 4) (bA (aE 5) jw)))) O rfl (jn (by rfl) T.bQ ?_) f_ (dQ (n:=2) rfl (aJ (aO (i:=4) nd) (aJ (aO (i:=5) nd) cK))) dh ?_);walk_at "pp"
def we(F:bh K "lowered" "lowered" (top 37) dv f fd)(T:Txt K mg)(Oo:d_ P w K mg base 1 "step_size" 3 (az 4 dS))(OA:d_ P w K mg base 2 "mixed_made" 5 (az 6 et)):aT P w K mg base (cu P w) 3 f fd ["sizes","made_rows","made","first"] (dY 4 eP) :=
 F.gL ["sizes","made_rows","made","first","dial","times"] λnd _ _ _ _ _ _ hr O=>by
 unfold iT;walk_at "t";walk_at "pp";refine(bO (g:=(aE 4)) O rfl (yF (by rfl) T.eG ?_) Al (aO (i:=4) nd) bb ?_);walk_at "pp"
def vD(F:bh K "in_spans" "in_spans" (top 38) dv f fd)(T:Txt K mg)(Pz:d_ P w K mg base 1 "mixed" 4 (az 4 me)):aT P w K mg base (cu P w) 2 f fd ["pulls","idle_rows"] (dY 2 gG) :=
 F.gL ["pulls","idle_rows","lever","row"] λnd _ _ _ _ _ _ hr O=>by
 unfold gk;walk_at "t";walk_at "pp";refine(bO (g:=(aE 2)) O rfl (zR (by rfl) T.eG ?_) Cy (aO (i:=2) nd) bb ?_);walk_at "pp"
def sP(F:bh K "_law_cell" "_law_cell" (top 41) dv f fd)(T:Txt K mg)  : aT P w K mg base (cu P w) 1 f fd ["_law_script","_law_k"] (dY 2 cF) :=
 F.gL ["_law_script","_law_k"] λnd _ _ _ _ _ _ hr O=>by
 unfold fG;walk_at "t";walk_at "pp"
def qa(F:bh K "_law_stream" "_law_stream" (top 42) dv f fd)(T:Txt K mg)  : aT P w K mg base (cu P w) 1 f fd ["_law_cell_here","_law_many"] (dY 2 dE) :=
 F.gL ["_law_cell_here","_law_many","_law_found","_law_number","_law_k"] λnd _ _ _ _ _ _ hr O=>by
 unfold dD;walk_at "t";walk_at "pp";refine(bO (g:=(aE 4)) O rfl (dW (by rfl) T.eG ?_) fF (aO (i:=4) nd) bb ?_);walk_at "pp"
def qh(F:bh K "_law_digits" "_law_digits" (top 43) dv f fd)(T:Txt K mg)  : aT P w K mg base (cu P w) 1 f fd ["_law_cell_here","_law_bases"] (dY 2 dI) :=
 F.gL ["_law_cell_here","_law_bases","_law_found","_law_left","_law_base"] λnd _ _ _ _ _ _ hr O=>by
 unfold dG;walk_at "t";walk_at "pp";refine(bO (g:=(aE 4)) O rfl (dP ?_) cJ (aO (i:=4) nd) bb ?_);walk_at "pp"
def qx(F:bh K "_law_sizes" "_law_sizes" (top 44) dv f fd)(T:Txt K mg)(Ou:d_ P w K mg base 1 "_law_stream" 2 (az 5 dD)):aT P w K mg base (cu P w) 2 f fd ["_law_cell_here"] (dY 1 fX) :=
 F.gL ["_law_cell_here","_law_sizes_here","_law_left","_law_number","_law_k","_law_base"] λnd _ _ _ _ _ _ hr O=>by
 unfold fY;walk_at "t";walk_at "pp";refine(bO (g:=(aE 4)) O rfl (dW (by rfl) T.eG ?_) fF (aO (i:=4) nd) bb ?_);walk_at "pp";refine(eg (yX rfl) yf (by rfl) T.BX DE ?_);walk_at "pp";refine(xF 1 ?_);walk_at "pp"
def pE(F:bh K "_law_levers" "_law_levers" (top 45) dv f fd)(T:Txt K mg)(OE:d_ P w K mg base 1 "_law_cell" 2 (az 2 fG))(Ot:d_ P w K mg base 1 "_law_digits" 2 (az 5 dG))(Ou:d_ P w K mg base 1 "_law_stream" 2 (az 5 dD)):aT P w K mg base (cu P w) 2 f fd ["_law_script","_law_sizes_here"] (dY 2 fc) :=
 F.gL ["_law_script","_law_sizes_here","_law_levers_here","_law_k","_law_row","_law_number","_law_size"] λnd _ _ _ _ _ _ hr O=>by
 unfold eZ;walk_at "t";walk_at "pp";refine(bO (g:=(aE 3)) O rfl (dW (by rfl) T.eG ?_) fF (aO (i:=3) nd) bb ?_);walk_at "pp";exact uM;walk_at "pp";refine(bO (g:=(jB K 2 (bA (aE 5) (bA (aE 6) jw)))) O rfl (tf (by rfl) T.p6 ?_) oo (dQ (n:=2) rfl (aJ (aO (i:=5) nd) (aJ (aO (i:=6) nd) cK))) dh ?_);walk_at "pp"
def fM:((["_law_here","_law_there","_law_size"]:List Str)++(["_law_times"]:List Str)).Nodup:=by decide +kernel
def qS(F:bh K "_law_added" "_law_added" (top 46) dv f fd)(T:Txt K mg)  : aT P w K mg base (cu P w) 1 f fd ["_law_sizes_here","_law_one","_law_other","_law_times"] (dY 4 aL) :=
 F.gL ["_law_sizes_here","_law_one","_law_other","_law_times"] λnd _ _ _ _ _ _ hr O=>by
 unfold cj;walk_at "t";walk_at "pp";refine(cC (bo (g:=(jB K 3 (bA (aE 0) (bA (aE 1) (bA (aE 2) jw))))) (ts:=["_law_here","_law_there","_law_size"]) (fs:=["_law_times"]) (js:=[3]) rfl rfl rfl rfl rfl rfl (.cons rfl .nil) ↑4 (xu (by rfl) T.p6 ?_) vM (λ_ _ _ _ _=>(dQ (n:=3) rfl (aJ (aO (i:=0) fM) (aJ (aO (i:=1) fM) (aJ (aO (i:=2) fM) cK))))) (λ_=>x9) wK (λ_ _ _ _ _=>?_)));walk_at "pp"
def ui(F:bh K "_law_more" "_law_more" (top 47) dv f fd)(T:Txt K mg)(Og:d_ P w K mg base 1 "_law_added" 4 (az 4 cj)):aT P w K mg base (cu P w) 2 f fd ["_law_sizes_here","_law_before","_law_row"] (dY 3 fE) :=
 F.gL ["_law_sizes_here","_law_before","_law_row","_law_doings","_law_fresh","_law_one"] λnd _ _ _ _ _ _ hr O=>by
 unfold gR;walk_at "t";walk_at "pp";refine(DG (i:=3) nd rfl ↑9 (by rfl) T.Du ?_);walk_at "pp";exact(zz (i:=3) rfl (by rfl) T.qd rfl ↑3);walk_at "pp";refine(pM O ?_ ?_);walk_at "pp";refine(Fu 4 ?_);walk_at "pp";exact(HF (Og.raw hr ⋯ (by rfl) O (cL (iE (i:=0) rfl ↑3) (cL (IU YF PySem.F.slot_list_pop PySem.F.type_list_pop GY (iE (i:=4) rfl ↑3)) (cL (iE (i:=2) rfl ↑3) (cL xp i5))))) nd rfl ↑9);walk_at "pp";refine(GZ (i:=3) (tj hr.u1) rfl ↑3 ?_ (by rfl));walk_at "pp";refine(DP (i:=3) hr.u1 rfl ↑3 ?_ ?_);walk_at "pp";refine(Ly 3 ?_);walk_at "pp"
def jW:((["_law_size"]:List Str)++([]:List Str)).Nodup:=by decide +kernel
def kT(F:bh K "_law_all_doings" "_law_all_doings" (top 48) dv f fd)(T:Txt K mg)(Po:d_ P w K mg base 2 "_law_more" 3 (az 6 gR)):aT P w K mg base (cu P w) 3 f fd ["_law_sizes_here","_law_levers_here"] (dY 2 cP) :=
 F.gL ["_law_sizes_here","_law_levers_here","_law_doings","_law_row"] λnd _ _ _ _ _ _ hr O=>by
 unfold cT;walk_at "t";walk_at "pp";refine(DY hr.JP ?_ ?_);walk_at "pp";refine(cC (bo (g:=(aE 0)) (ts:=["_law_size"]) (fs:=[]) (js:=[]) (cl:=[]) rfl rfl rfl rfl rfl rfl .nil .nil (dP ?_) cJ (λ_ _ _ _ _=>(aO (i:=0) jW)) (λ_=>bb) ba (λ_ _ _ _ _=>?_)));walk_at "pp";refine(bO (g:=(aE 3)) O rfl (dP ?_) cJ (aO (i:=3) nd) bb ?_);walk_at "pp";refine(HP (i:=2) rfl ↑3 ?_ ?_);walk_at "pp"
def pF:((["_law_one"]:List Str)++(["_law_dial"]:List Str)).Nodup:=by decide +kernel
def oG:((["_law_size"]:List Str)++([]:List Str)).Nodup:=by decide +kernel
def ti(F:bh K "_law_step" "_law_step" (top 49) dv f fd)(T:Txt K mg)  : aT P w K mg base (cu P w) 1 f fd ["_law_sizes_here","_law_doings","_law_dial"] (dY 3 dU) :=
 F.gL ["_law_sizes_here","_law_doings","_law_dial","_law_found"] λnd _ _ _ _ _ _ hr O=>by
 unfold fj;walk_at "t";walk_at "pp";refine(AB (i:=3) (g:=(aE 0)) (ts:=["_law_one"]) (fs:=["_law_dial"]) (js:=[2]) rfl rfl rfl rfl rfl rfl (.cons rfl .nil) ↑4 (dP ?_) cJ (λ_ _ _ _ _=>(aO (i:=0) pF)) (λ_=>bb) ba (λ_ _ _ _ _=>?_) (λ_ _ _ _ _=>?_) nd rfl ↑9);walk_at "pp";refine(eg (oU rfl) vz (by rfl) T.pT rK ?_);walk_at "pp";refine(v8 ?_ (sZ ?_)).pt;walk_at "pp";refine(Eg rfl (by rfl) T.yj ?_);walk_at "pp";refine(r0 ?_ FU (uk ?_));walk_at "pp";refine(cC (bo (g:=(aE 0)) (ts:=["_law_size"]) (fs:=[]) (js:=[]) (cl:=[]) rfl rfl rfl rfl rfl rfl .nil .nil (dP ?_) cJ (λ_ _ _ _ _=>(aO (i:=0) oG)) (λ_=>bb) ba (λ_ _ _ _ _=>?_)));walk_at "pp"
def t_(F:bh K "_law_span" "_law_span" (top 51) dv f fd)(T:Txt K mg)(Og:d_ P w K mg base 1 "_law_added" 4 (az 4 cj)):aT P w K mg base (cu P w) 2 f fd ["_law_sizes_here","_law_before","_law_row"] (dY 3 gQ) :=
 F.gL ["_law_sizes_here","_law_before","_law_row","_law_times","_law_one"] λnd _ _ _ _ _ _ hr O=>by
 unfold gN;walk_at "t";walk_at "pp";refine(pM O ?_ ?_);walk_at "pp";refine(je (tj hr.u1) AL ?_ ?_ (by rfl));walk_at "pp"
def kE:((["_law_size"]:List Str)++([]:List Str)).Nodup:=by decide +kernel
def l5(F:bh K "_law_idle_good" "_law_idle_good" (top 52) dv f fd)(T:Txt K mg)(Og:d_ P w K mg base 1 "_law_added" 4 (az 4 cj)):aT P w K mg base (cu P w) 2 f fd ["_law_row","_law_lever","_law_spans","_law_sizes_here","_law_levers_here"] (dY 5 c_) :=
 F.gL ["_law_row","_law_lever","_law_spans","_law_sizes_here","_law_levers_here","_law_total","_law_at","_law_times"] λnd _ _ _ _ _ _ hr O=>by
 unfold dj;walk_at "t";walk_at "pp";refine(hU ?_ (hU ?_ (iA ?_))).pt;walk_at "pp";refine(hZ (T := "tuple") (by rfl) T.bg (dO (v:=.ty "tuple") (by rfl) T.jj gF rfl) ↑12 iF iF ?_);walk_at "pp";refine(cC (bo (g:=(aE 0)) (ts:=["_law_size"]) (fs:=[]) (js:=[]) (cl:=[]) rfl rfl rfl rfl rfl rfl .nil .nil (dP ?_) cJ (λ_ _ _ _ _=>(aO (i:=0) kE)) (λ_=>bb) ba (λ_ _ _ _ _=>?_)));walk_at "pp";refine(bO (g:=(jB K 2 (bA (aE 6) (bA (aE 7) jw)))) O rfl (jn (by rfl) T.bQ ?_) f_ (dQ (n:=2) rfl (aJ (aO (i:=6) nd) (aJ (aO (i:=7) nd) cK))) dh ?_);walk_at "pp";refine(hU ?_ (iA ?_)).pt;walk_at "pp";refine(v8 ?_ (sZ ?_)).pt;walk_at "pp";refine(v8 ?_ (sZ ?_)).pt;walk_at "pp";refine(vC pB kZ uH o8 ?_ ?_ ?_);walk_at "pp";refine(eg (zw rfl) Ex (by rfl) T.yj v9 ?_);walk_at "pp"
def kH:dM ["self","sizes","levers","prices"] ["self","sizes","levers","prices"] (aZ (inClass (top 21) 0)):=.of
def nY:((["lever"]:List Str)++(["sizes"]:List Str)).Nodup:=by decide +kernel
def qR(F:bh K "__init__" "Vault.__init__" (inClass (top 21) 0) dv f fd)(T:Txt K mg)(Pg:d_ P w K mg base 3 "need_sizes" 1 (az 3 fP))(O5:d_ P w K mg base 3 "need_levers" 2 (az 4 fe))(PB:d_ P w K mg base 1 "rests" 2 (az 2 lH))(Pj:d_ P w K mg base 3 "prices_for" 2 (az 3 fS))(O4:d_ P w K mg base 2 "multiple_of" 1 (az 3 eW)):aT P w K mg base (cu P w) 4 f fd ["self","sizes","levers","prices"] (Gb 4 aC gZ) :=
 F.Nj kH ↑12 λ_ _ _ _ _ _ hr O=>by
 unfold jo;have:=kH.nd;have T2:=T;cases T2;walk_at "pp";refine(k8 (i:=0) rfl ↑3 T.lA T.gI ?_);walk_at "pp";refine(k8 (i:=0) rfl ↑3 T.lA T.ee ?_);walk_at "pp";refine(cC (bo (g:=(aE 0)) (ts:=["lever"]) (fs:=["sizes"]) (js:=[1]) rfl rfl rfl rfl rfl rfl (.cons rfl .nil) ↑4 (dP ?_) cJ (λ_ _ _ _ _=>(aO (i:=0) nY)) (λ_=>bb) ba (λ_ _ _ _ _=>?_)));walk_at "pp";refine(k8 (i:=0) rfl ↑3 T.lA T.fI ?_);walk_at "pp";refine(k8 (i:=0) rfl ↑3 T.lA T.fO ?_);walk_at "pp"
def o_(F:bh K "sizes" "Vault.sizes" (inClass (top 21) 1) dv f fd)(T:Txt K mg)  : aT P w K mg base (cu P w) 1 f fd ["self"] (dY 1 bu) :=
 F.gL ["self"] λnd _ _ _ _ _ _ hr O=>by
 unfold bR;walk_at "t";walk_at "pp"
def nO(F:bh K "levers" "Vault.levers" (inClass (top 21) 2) dv f fd)(T:Txt K mg)  : aT P w K mg base (cu P w) 1 f fd ["self"] (dY 1 bS) :=
 F.gL ["self"] λnd _ _ _ _ _ _ hr O=>by
 unfold cy;walk_at "t";walk_at "pp"
def m6:((["dial"]:List Str)++(["self","sizes"]:List Str)).Nodup:=by decide +kernel
def qf(F:bh K "steps" "Rungs.steps" (inClass (top 39) 1) dv f fd)(T:Txt K mg)(Of:oB P w K mg base aC 1 "sizes" 1 (az 1 bR))(Oo:d_ P w K mg base 1 "step_size" 3 (az 4 dS)):aT P w K mg base (cu P w) 2 f fd ["self"] (dY 1 e6) :=
 F.gL ["self","sizes"] λnd _ _ _ _ _ _ hr O=>by
 unfold e7;walk_at "t";walk_at "pp";refine(cC (bo (g:=(aE 0)) (ts:=["dial"]) (fs:=["self","sizes"]) (js:=[0,1]) rfl rfl rfl rfl rfl rfl (.cons rfl (.cons rfl .nil)) (.cons rfl rfl ↑9 rfl rfl ↑4) (dW (by rfl) T.eG ?_) fF (λ_ _ _ _ _=>(aO (i:=0) m6)) (λ_=>bb) ba (λ_ _ _ _ _=>?_)));walk_at "pp"
def n8:((["made"]:List Str)++([]:List Str)).Nodup:=by decide +kernel
def qK(F:bh K "rows" "Rungs.rows" (inClass (top 39) 2) dv f fd)(T:Txt K mg)  : aT P w K mg base (cu P w) 1 f fd ["self"] (dY 1 gc) :=
 F.gL ["self"] λnd _ _ _ _ _ _ hr O=>by
 unfold f9;walk_at "t";walk_at "pp";refine(cC (bo (g:=(aE 0)) (ts:=["made"]) (fs:=[]) (js:=[]) (cl:=[]) rfl rfl rfl rfl rfl rfl .nil .nil (dP ?_) cJ (λ_ _ _ _ _=>(aO (i:=0) n8)) (λ_=>bb) ba (λ_ _ _ _ _=>?_)));walk_at "pp"
def iJ:((["lever","row"]:List Str)++([]:List Str)).Nodup:=by decide +kernel
def pf(F:bh K "spans" "Rungs.spans" (inClass (top 39) 3) dv f fd)(T:Txt K mg)  : aT P w K mg base (cu P w) 1 f fd ["self"] (dY 1 dC) :=
 F.gL ["self"] λnd _ _ _ _ _ _ hr O=>by
 unfold dJ;walk_at "t";walk_at "pp";refine(cC (bo (g:=(jB K 2 (bA (aE 0) (bA (aE 1) jw)))) (ts:=["lever","row"]) (fs:=[]) (js:=[]) (cl:=[]) rfl rfl rfl rfl rfl rfl .nil .nil (jn (by rfl) T.bQ ?_) f_ (λ_ _ _ _ _=>(dQ (n:=2) rfl (aJ (aO (i:=0) iJ) (aJ (aO (i:=1) iJ) cK)))) (λ_=>dh) gJ (λ_ _ _ _ _=>?_)));walk_at "pp"
def qw(F:bh K "idle" "Rungs.idle" (inClass (top 39) 4) dv f fd)(T:Txt K mg)  : aT P w K mg base (cu P w) 1 f fd ["self"] (dY 1 fZ) :=
 F.gL ["self"] λnd _ _ _ _ _ _ hr O=>by
 unfold f6;walk_at "t";walk_at "pp"
def zV(F:bh K "nought" "nought" (top 27) dv f fd)(T:Txt K mg)(Of:oB P w K mg base aC 1 "sizes" 1 (az 1 bR)):aT P w K mg base (cu P w) 2 f fd ["vault"] (dY 1 iQ) :=
 F.gL ["vault"] λnd _ _ _ _ _ _ hr O=>by
 unfold jH;walk_at "t";walk_at "pp"
def jv:((["notch","size"]:List Str)++([]:List Str)).Nodup:=by decide +kernel
def qN(F:bh K "is_setting" "is_setting" (top 28) dv f fd)(T:Txt K mg)(Of:oB P w K mg base aC 1 "sizes" 1 (az 1 bR))(Pe:d_ P w K mg base 2 "is_row" 2 (az 2 jM)):aT P w K mg base (cu P w) 3 f fd ["vault","thing"] (dY 2 f7) :=
 F.gL ["vault","thing","sizes"] λnd _ _ _ _ _ _ hr O=>by
 unfold fV;walk_at "t";walk_at "pp";refine(hU ?_ (iA ?_)).pt;walk_at "pp";refine(hZ (T := "tuple") (by rfl) T.bg (dO (v:=.ty "tuple") (by rfl) T.jj gF rfl) ↑12 iF iF ?_);walk_at "pp";refine(cC (bo (g:=(jB K 2 (bA (aE 0) (bA (aE 1) jw)))) (ts:=["notch","size"]) (fs:=[]) (js:=[]) (cl:=[]) rfl rfl rfl rfl rfl rfl .nil .nil (tf (by rfl) T.p6 ?_) oo (λ_ _ _ _ _=>(dQ (n:=2) rfl (aJ (aO (i:=0) jv) (aJ (aO (i:=1) jv) cK)))) (λ_=>dh) gJ (λ_ _ _ _ _=>?_)));walk_at "pp";refine(vV pB kZ uH o8 ?_ ?_ ?_);walk_at "pp"
def nX(F:bh K "need_setting" "need_setting" (top 29) dv f fd)(T:Txt K mg)(Pf:d_ P w K mg base 3 "is_setting" 2 (az 3 fV)):aT P w K mg base (cu P w) 4 f fd ["vault","thing"] (dY 2 eE) :=
 F.gL ["vault","thing"] λnd _ _ _ _ _ _ hr O=>by
 unfold ef;walk_at "t";walk_at "pp";exact gX;walk_at "pp"
def vR(F:bh K "unpulled" "unpulled" (top 33) dv f fd)(T:Txt K mg)(Oi:oB P w K mg base aC 1 "levers" 1 (az 1 cy)):aT P w K mg base (cu P w) 2 f fd ["vault","setting"] (dY 2 eQ) :=
 F.gL ["vault","setting"] λnd _ _ _ _ _ _ hr O=>by
 unfold gz;walk_at "t";walk_at "pp"
def oN(F:bh K "pulled_once" "pulled_once" (top 34) dv f fd)(T:Txt K mg)(Oi:oB P w K mg base aC 1 "levers" 1 (az 1 cy))(PD:d_ P w K mg base 1 "unit_row" 2 (az 2 jf)):aT P w K mg base (cu P w) 2 f fd ["vault","lever"] (dY 2 fg) :=
 F.gL ["vault","lever","levers"] λnd _ _ _ _ _ _ hr O=>by
 unfold e_;walk_at "t";walk_at "pp"
def jZ:((["_law_dial"]:List Str)++(["_law_sizes_here","_law_doings"]:List Str)).Nodup:=by decide +kernel
def jR:((["_law_step_here"]:List Str)++([]:List Str)).Nodup:=by decide +kernel
def jQ:((["_law_step_here"]:List Str)++([]:List Str)).Nodup:=by decide +kernel
def lr(F:bh K "_law_steps_good" "_law_steps_good" (top 50) dv f fd)(T:Txt K mg)(O0:oB P w K mg base av 2 "steps" 1 (az 2 e7))(Pa:oB P w K mg base av 1 "rows" 1 (az 1 f9))(Pq:d_ P w K mg base 1 "_law_step" 3 (az 4 fj)):aT P w K mg base (cu P w) 3 f fd ["_law_rungs","_law_sizes_here","_law_doings"] (dY 3 bY) :=
 F.gL ["_law_rungs","_law_sizes_here","_law_doings","_law_steps","_law_rows","_law_due"] λnd _ _ _ _ _ _ hr O=>by
 unfold cQ;walk_at "t";walk_at "pp";refine(hU ?_ (hU ?_ (iA ?_))).pt;walk_at "pp";refine(hZ (T := "tuple") (by rfl) T.bg (dO (v:=.ty "tuple") (by rfl) T.jj gF rfl) ↑12 iF iF ?_);walk_at "pp";refine(hZ (T := "list") (by rfl) T.bg (dO (v:=.ty "list") (by rfl) T.qd lE rfl) ↑12 iF iF ?_);walk_at "pp";refine(DR (i:=5) (g:=(aE 0)) (ts:=["_law_dial"]) (fs:=["_law_sizes_here","_law_doings"]) (js:=[1,2]) rfl rfl rfl rfl rfl rfl (.cons rfl (.cons rfl .nil)) (.cons rfl rfl ↑9 rfl rfl ↑4) (dW (by rfl) T.eG ?_) fF (λ_ _ _ _ _=>(aO (i:=0) jZ)) (λ_=>bb) ba (λ_ _ _ _ _=>?_) nd rfl ↑9);walk_at "pp";refine(wu ?_ (wR ?_));walk_at "pp";refine(cC (bo (g:=(aE 0)) (ts:=["_law_step_here"]) (fs:=[]) (js:=[]) (cl:=[]) rfl rfl rfl rfl rfl rfl .nil .nil (dP ?_) cJ (λ_ _ _ _ _=>(aO (i:=0) jR)) (λ_=>bb) ba (λ_ _ _ _ _=>?_)));walk_at "pp";refine(cC (bo (g:=(aE 0)) (ts:=["_law_step_here"]) (fs:=[]) (js:=[]) (cl:=[]) rfl rfl rfl rfl rfl rfl .nil .nil (dP ?_) cJ (λ_ _ _ _ _=>(aO (i:=0) jQ)) (λ_=>bb) ba (λ_ _ _ _ _=>?_)));walk_at "pp"
def k_(F:bh K "_law_spans_good" "_law_spans_good" (top 53) dv f fd)(T:Txt K mg)(Pp:d_ P w K mg base 2 "_law_span" 3 (az 5 gN))(Oq:oB P w K mg base av 1 "spans" 1 (az 1 dJ))(O9:oB P w K mg base av 1 "idle" 1 (az 1 f6))(OK:d_ P w K mg base 2 "_law_idle_good" 5 (az 8 dj)):aT P w K mg base (cu P w) 3 f fd ["_law_rungs","_law_sizes_here","_law_levers_here","_law_all_doings_here"] (dY 4 cU) :=
 F.gL ["_law_rungs","_law_sizes_here","_law_levers_here","_law_all_doings_here","_law_due","_law_lever","_law_row","_law_spans","_law_idle"] λnd _ _ _ _ _ _ hr O=>by
 unfold cS;walk_at "t";walk_at "pp";refine(bO (g:=(jB K 2 (bA (aE 5) (bA (aE 6) jw)))) O rfl (jn (by rfl) T.bQ ?_) f_ (dQ (n:=2) rfl (aJ (aO (i:=5) nd) (aJ (aO (i:=6) nd) cK))) dh ?_);walk_at "pp";refine(hU ?_ (hU ?_ (hU ?_ (iA ?_)))).pt;walk_at "pp";refine(hZ (T := "tuple") (by rfl) T.bg (dO (v:=.ty "tuple") (by rfl) T.jj gF rfl) ↑12 iF iF ?_);walk_at "pp";refine(hZ (T := "list") (by rfl) T.bg (dO (v:=.ty "list") (by rfl) T.qd lE rfl) ↑12 iF iF ?_);walk_at "pp";refine(bO (g:=(jB K 2 (bA (aE 5) (bA (aE 6) jw)))) O rfl (jn (by rfl) T.bQ ?_) f_ (dQ (n:=2) rfl (aJ (aO (i:=5) nd) (aJ (aO (i:=6) nd) cK))) dh ?_);walk_at "pp"
def ij:dM ["self","vault","sizes","made_rows","idle_rows","lever","taken"] ["self","vault"] (aZ (inClass (top 39) 0)):=.of
def n6:((["size"]:List Str)++(["vault"]:List Str)).Nodup:=by decide +kernel
def jt:((["dial","made"]:List Str)++(["sizes","made_rows"]:List Str)).Nodup:=by decide +kernel
def qG(F:bh K "__init__" "Rungs.__init__" (inClass (top 39) 0) dv f fd)(T:Txt K mg)(Of:oB P w K mg base aC 1 "sizes" 1 (az 1 bR))(Ph:d_ P w K mg base 2 "nought" 1 (az 1 jH))(OQ:d_ P w K mg base 2 "unpulled" 2 (az 2 gz))(Oi:oB P w K mg base aC 1 "levers" 1 (az 1 cy))(O6:d_ P w K mg base 2 "pulled_once" 2 (az 3 e_))(PC:d_ P w K mg base 3 "taken_in" 3 (az 9 iX))(OO:d_ P w K mg base 2 "in_spans" 2 (az 4 gk))(OY:d_ P w K mg base 3 "lowered" 4 (az 6 iT)):aT P w K mg base (cu P w) 4 f fd ["self","vault"] (Gb 2 av g8) :=
 F.Nj ij ↑12 λ_ _ _ _ _ _ hr O=>by
 unfold i4;have:=ij.nd;have T2:=T;cases T2;walk_at "pp";refine(cC (bo (g:=(aE 0)) (ts:=["size"]) (fs:=["vault"]) (js:=[1]) rfl rfl rfl rfl rfl rfl (.cons rfl .nil) ↑4 (dP ?_) cJ (λ_ _ _ _ _=>(aO (i:=0) n6)) (λ_=>bb) ba (λ_ _ _ _ _=>?_)));walk_at "pp";refine(bO (g:=(aE 5)) O rfl (dW (by rfl) T.eG ?_) fF (aO (i:=5) ij.nd) bb ?_);walk_at "pp";refine(xF 4 ?_);walk_at "pp";refine(k8 (i:=0) rfl ↑3 T.oA T.kO ?_);walk_at "pp";refine(k8 (i:=0) rfl ↑3 T.oA T.gT ?_);walk_at "pp";refine(cC (bo (g:=(jB K 2 (bA (aE 0) (bA (aE 1) jw)))) (ts:=["dial","made"]) (fs:=["sizes","made_rows"]) (js:=[2,3]) rfl rfl rfl rfl rfl rfl (.cons rfl (.cons rfl .nil)) (.cons rfl rfl ↑9 rfl rfl ↑4) (jn (by rfl) T.bQ ?_) f_ (λ_ _ _ _ _=>(dQ (n:=2) rfl (aJ (aO (i:=0) jt) (aJ (aO (i:=1) jt) cK)))) (λ_=>dh) gJ (λ_ _ _ _ _=>?_)));walk_at "pp";refine(k8 (i:=0) rfl ↑3 T.oA T.hG ?_);walk_at "pp"
def jA(F:bh K "brought_down" "Rungs.brought_down" (inClass (top 39) 5) dv f fd)(T:Txt K mg)(OW:d_ P w K mg base 4 "need_setting" 2 (az 2 ef))(OQ:d_ P w K mg base 2 "unpulled" 2 (az 2 gz))(Of:oB P w K mg base aC 1 "sizes" 1 (az 1 bR))(OY:d_ P w K mg base 3 "lowered" 4 (az 6 iT)):aT P w K mg base (cu P w) 5 f fd ["self","setting"] (dY 2 bj) :=
 F.gL ["self","setting"] λnd _ _ _ _ _ _ hr O=>by
 unfold bF;walk_at "t";walk_at "pp"
def pG(F:bh K "least" "Rungs.least" (inClass (top 39) 6) dv f fd)(T:Txt K mg)(Oh:oB P w K mg base av 5 "brought_down" 2 (az 2 bF)):aT P w K mg base (cu P w) 6 f fd ["self","setting"] (dY 2 e8) :=
 F.gL ["self","setting"] λnd _ _ _ _ _ _ hr O=>by
 unfold eY;walk_at "t";walk_at "pp"
def kD:((["times"]:List Str)++([]:List Str)).Nodup:=by decide +kernel
def lX(F:bh K "pulls_to" "Rungs.pulls_to" (inClass (top 39) 7) dv f fd)(T:Txt K mg)(Oh:oB P w K mg base av 5 "brought_down" 2 (az 2 bF))(Ph:d_ P w K mg base 2 "nought" 1 (az 1 jH))(OO:d_ P w K mg base 2 "in_spans" 2 (az 4 gk)):aT P w K mg base (cu P w) 6 f fd ["self","setting"] (dY 2 bC) :=
 F.gL ["self","setting","made"] λnd _ _ _ _ _ _ hr O=>by
 unfold cx;walk_at "t";walk_at "pp";refine(cC (bo (g:=(aE 0)) (ts:=["times"]) (fs:=[]) (js:=[]) (cl:=[]) rfl rfl rfl rfl rfl rfl .nil .nil (dP ?_) cJ (λ_ _ _ _ _=>(aO (i:=0) kD)) (λ_=>bb) ba (λ_ _ _ _ _=>?_)));walk_at "pp"
def i_:((["_law_one"]:List Str)++(["_law_sizes_here","_law_setting"]:List Str)).Nodup:=by decide +kernel
def iV:((["_law_size"]:List Str)++([]:List Str)).Nodup:=by decide +kernel
def jN(F:bh K "_law_setting_good" "_law_setting_good" (top 54) dv f fd)(T:Txt K mg)(OZ:oB P w K mg base av 6 "least" 2 (az 2 eY))(Og:d_ P w K mg base 1 "_law_added" 4 (az 4 cj))(OJ:oB P w K mg base av 6 "pulls_to" 2 (az 3 cx))(Oq:oB P w K mg base av 1 "spans" 1 (az 1 dJ)):aT P w K mg base (cu P w) 7 f fd ["_law_rungs","_law_sizes_here","_law_levers_here","_law_doings","_law_setting"] (dY 5 bM) :=
 F.gL ["_law_rungs","_law_sizes_here","_law_levers_here","_law_doings","_law_setting","_law_pulls","_law_total","_law_row","_law_times","_law_span_here"] λnd _ _ _ _ _ _ hr O=>by
 unfold bN;walk_at "t";walk_at "pp";refine(eg (zK rfl hr.units) Fp (by rfl) T.BX DE ?_);walk_at "pp";refine(cC (bo (g:=(aE 0)) (ts:=["_law_one"]) (fs:=["_law_sizes_here","_law_setting"]) (js:=[1,4]) rfl rfl rfl rfl rfl rfl (.cons rfl (.cons rfl .nil)) (.cons rfl rfl ↑9 rfl rfl ↑4) (IF ?_) Ef (λ_ _ _ _ _=>(aO (i:=0) i_)) (λ_=>bb) ba (λ_ _ _ _ _=>?_)));walk_at "pp";refine(je (tj hr.u1) AL ?_ ?_ (by rfl));walk_at "pp";refine(hU ?_ (iA ?_)).pt;walk_at "pp";refine(hZ (T := "tuple") (by rfl) T.bg (dO (v:=.ty "tuple") (by rfl) T.jj gF rfl) ↑12 iF iF ?_);walk_at "pp";refine(cC (bo (g:=(aE 0)) (ts:=["_law_size"]) (fs:=[]) (js:=[]) (cl:=[]) rfl rfl rfl rfl rfl rfl .nil .nil (dP ?_) cJ (λ_ _ _ _ _=>(aO (i:=0) iV)) (λ_=>bb) ba (λ_ _ _ _ _=>?_)));walk_at "pp";refine(bO (g:=(jB K 3 (bA (aE 7) (bA (aE 8) (bA (aE 9) jw))))) O rfl (xu (by rfl) T.p6 ?_) vM (dQ (n:=3) rfl (aJ (aO (i:=7) nd) (aJ (aO (i:=8) nd) (aJ (aO (i:=9) nd) cK)))) x9 ?_);walk_at "pp";refine(hU ?_ (iA ?_)).pt;walk_at "pp";refine(hZ (T := "bool") (by rfl) T.bg (dO (v:=.ty "bool") (by rfl) T.v7 xN rfl) ↑12 iF iF ?_);walk_at "pp";refine(vC pB kZ uH o8 ?_ ?_ ?_);walk_at "pp"
def JJ(F:bh K "law" "law" (top 55) dv f fd)(T:Txt K mg)(OE:d_ P w K mg base 1 "_law_cell" 2 (az 2 fG))(Pc:d_ P w K mg base 2 "_law_sizes" 1 (az 6 fY))(O1:d_ P w K mg base 2 "_law_levers" 2 (az 7 eZ))(OD:d_ P w K mg base 3 "_law_all_doings" 2 (az 4 cT))(Pb:Hf P w K mg base aC 4 "Vault" 4 [.dq] gZ)(O_:Hf P w K mg base av 4 "Rungs" 2 [] g8)(OG:d_ P w K mg base 3 "_law_steps_good" 3 (az 6 cQ))(OF:d_ P w K mg base 3 "_law_spans_good" 4 (az 9 cS))(Ot:d_ P w K mg base 1 "_law_digits" 2 (az 5 dG))(Ox:d_ P w K mg base 7 "_law_setting_good" 5 (az 10 bN)):aT P w K mg base (cu P w) 8 f fd ["_law_script"] (dY 1 sd) :=
 F.gL ["_law_script","_law_sizes_here","_law_levers_here","_law_all_doings_here","_law_doings","_law_rungs","_law_k","_law_cell_here","_law_setting"] λnd _ _ _ _ _ _ hr O=>by
 unfold AQ;walk_at "t";walk_at "pp";refine(hU ?_ (iA ?_)).pt;walk_at "pp";refine(bO (g:=(jB K 2 (bA (aE 6) (bA (aE 7) jw)))) O rfl (jn (by rfl) T.bQ ?_) f_ (dQ (n:=2) rfl (aJ (aO (i:=6) nd) (aJ (aO (i:=7) nd) cK))) dh ?_);walk_at "pp";refine(r0 ?_ (uk ?_) (uk ?_));walk_at "pp";refine(eg (oU rfl) vz (by rfl) T.pT rK ?_);walk_at "pp";refine(eg zS Ej (by rfl) T.GI PySem.boot_len ?_);walk_at "pp"
end vX
namespace vX
open PySem L2 PyProof.Rows
open PySem.W (nsIn findIn codeIn keepIn isFn mroIn specialIn takesIn hasDictIn typeIn plainGet plainOver makesIn mg_of mg_none_of fnOf excIn clsIn)
abbrev κ(w:World):SD:=HD.K w.params
variable(w:World)
abbrev LU:Value:=HD.st "dialvault.wholes" 363
abbrev Bg:Value:=HD.st "dialvault.vault" 405
abbrev vZ:Value:=HD.st "dialvault.rungs" 541
abbrev wy:Value:=HD.st "law_dialvault_k22_steps_of_small_vaults" 709
def iu:FuncData:=fnOf "__init__" "Vault.__init__" (gP (inClass (top 21) 0)) (eM (inClass (top 21) 0)) (aZ (inClass (top 21) 0)) (.ref 196) .none .none Bg none (.ref 200) .none
def lO:bh (κ w) "__init__" "Vault.__init__" (inClass (top 21) 0) (.ref 196) 201 iu:=.of ↑10 ↑10 ↑10
def iw:FuncData:=DM "__init__" "Rungs.__init__" (inClass (top 39) 0) vZ 353
def ub:bh (κ w) "__init__" "Rungs.__init__" (inClass (top 39) 0) .none 354 iw:=.of ↑10 ↑10 ↑10
def uf:Binds (κ w) iw ["self","vault"] []:=Binds.all (NQ λ_ _=>rfl)
def w9:FuncData:=DM "law" "law" (top 55) wy 501
def Ku:bh (κ w) "law" "law" (top 55) .none 502 w9:=.of ↑10 ↑10 ↑10
def c7:mn (κ w) av:=⟨↑10,↑10,↑10,↑10⟩
def gm:mn (κ w) aC:=⟨↑10,↑10,↑10,↑10⟩
def Lb:findIn (κ w) (.ref 405) "idle_rows"=some none:=by kernel_rfl
def Ld:findIn (κ w) (.ref 405) "made_rows"=some none:=by kernel_rfl
def K2:findIn (κ w) (.ref 405) "vault"=some none:=by kernel_rfl
def K0:findIn (κ w) (.ref 232) "dial_sizes"=some none:=by kernel_rfl
def K8:findIn (κ w) (.ref 232) "least_round"=some none:=by kernel_rfl
def LO:findIn (κ w) (.ref 232) "lever_prices"=some none:=by kernel_rfl
def Li:findIn (κ w) (.ref 232) "lever_settings"=some none:=by kernel_rfl
def Mi:nsIn (κ w) mainGlobals "LEAST_PRICE"=some (some (.int 1 415)):=by kernel_rfl
def M8:nsIn (κ w) mainGlobals "LEAST_SIZE"=some (some (.int 2 409)):=by kernel_rfl
def Mw:nsIn (κ w) mainGlobals "MOST_DIALS"=some (some (.int 6 407)):=by kernel_rfl
def Mu:nsIn (κ w) mainGlobals "MOST_LEVERS"=some (some (.int 8 413)):=by kernel_rfl
def M5:nsIn (κ w) mainGlobals "MOST_PRICE"=some (some (.int 1000 417)):=by kernel_rfl
def MY:nsIn (κ w) mainGlobals "MOST_SIZE"=some (some (.int 360 411)):=by kernel_rfl
def MB:(κ w).lookup 196=some (HD.tu [.none]):=by kernel_rfl
def tD:Binds (κ w) iu ["self","sizes","levers","prices"] [.none]:=(lO w).binds (MB w) rfl λ_ _ _ _ _ _ us hl=>by obtain⟨a,b,c,rfl⟩:=NS (show _=3 from (by simpa using hl));exact⟨_,rfl,rfl⟩
variable{h:Heap}
def txt{w:World}{mg:Str->Option Value}(X:aa2 (κ w) h)(G:h.Ns mainGlobals mg):Txt (κ w) mg where
 KH:=mg_none_of X G ↑10
 v7:=mg_none_of X G ↑10
 Du:=mg_none_of X G ↑10
 bQ:=mg_none_of X G ↑10
 GN:=mg_none_of X G ↑10
 bg:=mg_none_of X G ↑10
 GI:=mg_none_of X G ↑10
 qd:=mg_none_of X G ↑10
 yj:=mg_none_of X G ↑10
 BX:=mg_none_of X G ↑10
 eG:=mg_none_of X G ↑10
 pT:=mg_none_of X G ↑10
 jj:=mg_none_of X G ↑10
 p6:=mg_none_of X G ↑10
 qB:=⟨_,mg_of X G (Mi w),⟨_,rfl⟩⟩
 sR:=⟨_,mg_of X G (M8 w),⟨_,rfl⟩⟩
 sL:=⟨_,mg_of X G (Mw w),⟨_,rfl⟩⟩
 qD:=⟨_,mg_of X G (Mu w),⟨_,rfl⟩⟩
 t4:=⟨_,mg_of X G (M5 w),⟨_,rfl⟩⟩
 vk:=⟨_,mg_of X G (MY w),⟨_,rfl⟩⟩
 oA:=c7 w
 lA:=gm w
 hG:=(Lb w)
 gT:=(Ld w)
 kO:=(K2 w)
 gI:=(K0 w)
 fO:=(K8 w)
 fI:=(LO w)
 ee:=(Li w)
 sM:=λC h=>by obtain rfl:=eq_of_beq h;exact⟨gm w,(K0 w)⟩
 vn:=λC h=>by obtain rfl:=eq_of_beq h;exact⟨c7 w,(Lb w)⟩
 qO:=λC h=>by obtain rfl:=eq_of_beq h;exact⟨gm w,(K8 w)⟩
 oW:=λC h=>by obtain rfl:=eq_of_beq h;exact⟨gm w,(LO w)⟩
 mK:=λC h=>by obtain rfl:=eq_of_beq h;exact⟨gm w,(Li w)⟩
 vE:=λC h=>by obtain rfl:=eq_of_beq h;exact⟨c7 w,(Ld w)⟩
 FK:=λC h=>by obtain rfl:=eq_of_beq h;exact⟨c7 w,(K2 w)⟩
def JF{P:Program}{w:World}{mg:Str->Option Value}(X:aa2 (κ w) h)(G:h.Ns mainGlobals mg)(base:Heap):aT P w (κ w) mg base (cu P w) 8 502 w9 ["_law_script"] (dY 1 sd):=by
 have T:=txt X G;have OP:=jV P w base X G 164 163 LU λD=>vJ D T;have Pe:=jV P w base X G 169 168 LU λD=>zo D T OP;have Pd:=jV P w base X G 176 175 LU λD=>zg D T;have O4:=jV P w base X G 183 182 LU λD=>oJ D T Pd;have PD:=jV P w base X G 188 187 LU λD=>u_ D T;have OH:=jV P w base X G 243 242 Bg λD=>ua D T OP;have Pg:=jV P w base X G 250 249 Bg λD=>qU D T OH;have O5:=jV P w base X G 257 256 Bg λD=>pU D T Pe;have Pj:=jV P w base X G 264 263 Bg λD=>qv D T OH;have PB:=jV P w base X G 269 268 Bg λD=>AR D T;have Pz:=jV P w base X G 293 292 vZ λD=>AF D T;have OA:=jV P w base X G 300 299 vZ λD=>qJ D T Pz PB;have Oo:=jV P w base X G 321 320 vZ λD=>sV D T;have PC:=jV P w base X G 328 327 vZ λD=>vA D T Oo Pd OA;have OY:=jV P w base X G 335 334 vZ λD=>we D T Oo OA;have OO:=jV P w base X G 342 341 vZ λD=>vD D T Pz;have OE:=jV P w base X G 416 415 wy λD=>sP D T;have Ou:=jV P w base X G 423 422 wy λD=>qa D T;have Ot:=jV P w base X G 430 429 wy λD=>qh D T;have Pc:=jV P w base X G 437 436 wy λD=>qx D T Ou;have O1:=jV P w base X G 444 443 wy λD=>pE D T OE Ot Ou;have Og:=jV P w base X G 449 448 wy λD=>qS D T;have Po:=jV P w base X G 456 455 wy λD=>ui D T Og;have OD:=jV P w base X G 461 460 wy λD=>kT D T Po;have Pq:=jV P w base X G 466 465 wy λD=>ti D T;have Pp:=jV P w base X G 478 477 wy λD=>t_ D T Og;have OK:=jV P w base X G 483 482 wy λD=>l5 D T Og;have Pb:Hf P w (κ w) mg base aC 4 "Vault" 4 [.dq] gZ:=⟨⟨201,iu,["self","sizes","levers","prices"],[.none],[.dq],mg_of X G ↑10,⟨↑10,↑10,↑10,↑10⟩,tD w,(.cons rfl .nil),λ_=>(.cons .dq .nil),qR (lO w) T Pg O5 PB Pj O4⟩⟩
 have Of:=Eb P w base (gm w) 208 207 Bg λD=>o_ D T;have Oi:=Eb P w base (gm w) 215 214 Bg λD=>nO D T;have O0:=Eb P w base (c7 w) 359 358 vZ λD=>qf D T Of Oo;have Pa:=Eb P w base (c7 w) 364 363 vZ λD=>qK D T;have Oq:=Eb P w base (c7 w) 369 368 vZ λD=>pf D T;have O9:=Eb P w base (c7 w) 376 375 vZ λD=>qw D T;have Ph:=jV P w base X G 276 275 Bg λD=>zV D T Of;have Pf:=jV P w base X G 281 280 Bg λD=>qN D T Of Pe;have OW:=jV P w base X G 288 287 Bg λD=>nX D T Pf;have OQ:=jV P w base X G 307 306 vZ λD=>vR D T Oi;have O6:=jV P w base X G 314 313 vZ λD=>oN D T Oi PD;have OG:=jV P w base X G 471 470 wy λD=>lr D T O0 Pa Pq;have OF:=jV P w base X G 490 489 wy λD=>k_ D T Pp Oq O9 OK;have O_:Hf P w (κ w) mg base av 4 "Rungs" 2 [] g8:=⟨⟨354,iw,["self","vault"],[],[],mg_of X G ↑10,⟨↑10,↑10,↑10,↑10⟩,uf w,.nil,λ_=>.nil,qG (ub w) T Of Ph OQ Oi O6 PC OO OY⟩⟩
 have Oh:=Eb P w base (c7 w) 383 382 vZ λD=>jA D T OW OQ Of OY;have OZ:=Eb P w base (c7 w) 390 389 vZ λD=>pG D T Oh;have OJ:=Eb P w base (c7 w) 395 394 vZ λD=>lX D T Oh Ph OO;have Ox:=jV P w base X G 495 494 wy λD=>jN D T OZ Og OJ Oq;exact JJ (Ku w) T OE Pc O1 OD Pb O_ OG OF Ot Ox
def MS:yd (κ w)=true:=by kernel_rfl
def Mz:nsIn (κ w) mainGlobals "law"=some (some (.ref 502)):=by kernel_rfl
end vX
open PySem PySem.W
def vX.hold(said:PySem.Challenge.rw_dialvault_k22_steps_of_small_vaults.wellSaid=true)(RB:∀ns:List Int,ns.length<=63->(∀i∈ns,XS i<=1048576)->vX.sd [.jz (ns.map L2.PV.int)]=L2.M.ok (.bl true)):PySem.Challenge.rw_dialvault_k22_steps_of_small_vaults.Holds:=by
 refine holds_law said λsaid=>?_;refine holds_open (q:=HD.vw) (loose:=HD.loose) (Xt:=HD.Xt) (XP:=XL HD.vw []) (Yf:=Hook.obs HD.hook) (Ya:=Hook.val HD.hook) (YP:=Hook.says HD.hook) HD.KU (Hook.of HD.hook) (Hook.keeps HD.hook) (λs e=>xl_of s (V0.mp e).1) XL.keeps (by rfl) (by rfl) (by rfl) (λs e=>recFacts_of (V0.mp e).2) (by rfl) said (by decide +kernel) ⟨rfl,rfl,rfl,rfl,rfl,by decide +kernel⟩ ?hw ?hc
 case hw=>w_witness2
 refine L2.wZ (l:=PySem.Challenge.rw_dialvault_k22_steps_of_small_vaults) (n:=63) (k:=8) (x := "_law_script") (K:=HD.K) (sem:=vX.sd) rfl ↑12 rfl ⟨rfl,by decide,by decide⟩ (λw h Y=>PySem.W.kIn_of Y) (λw=>vX.MS w) (λw mg fa h X G hmg=>?_) RB;have e:=hmg.symm.trans (aa7 X G (vX.Mz w));cases e;exact⟨vX.w9,λs v=>.of_eq rfl,λbase X' G'=>vX.JF X' G' base⟩
namespace Eu
def rn(a b:Int)(hb:b≠0):(a-a.fdiv b*b).natAbs<b.natAbs/\0<=(a-a.fdiv b*b)*b/\(0<=a*b->a.natAbs=(a.fdiv b).natAbs*b.natAbs+(a-a.fdiv b*b).natAbs):=by
 have pos:∀(a b:Int),0<b->(a-a/b*b).natAbs<b.natAbs/\0<=(a-a/b*b)*b/\(0<=a*b->a.natAbs=(a/b).natAbs*b.natAbs+(a-a/b*b).natAbs):=by
  intro a b hb;have e:a-a/b*b=a%b:=by
   have h:=ZL a b;rw[Zb] at h;lia
  have h0:=T3 a (by lia:b≠0);have h1:=Tt a hb;rw[e];refine⟨by lia,ZX h0 ⋯,λhab=>?_⟩;have ha:0<=a:=by
   rcases Zc a 0 with h|h
   .have:=Int.mul_neg_of_neg_of_pos h hb;lia
   .exact h
  have hq:0<=a/b:=VT ha ⋯;have h2:=ZL a b;have h3:((a/b).natAbs*b.natAbs:Nat)=(b*(a/b)).natAbs:=by
   rw[WA,W6]
  rw[h3];have h4:0<=b*(a/b):=ZX ⋯ hq;lia
 rcases Zc 0 b with h|h
 .rw[VM a ⋯];exact pos a b h
 .have h':0 < -b:=by lia
  have e:a.fdiv b=(-a)/(-b):=by
   rw[<- VM (-a) (by lia:0<=-b),Int.neg_fdiv_neg]
  obtain⟨p1,p2,p3⟩:=pos (-a) (-b) h';have e2:-a-(-a)/(-b)*(-b)=-(a-a.fdiv b*b):=by
   rw[<- e,aaV];lia
  rw[e2] at p1 p2 p3;rw[<- e] at p3;simp only[Xc,Int.neg_mul_neg] at p1 p2 p3;exact⟨p1,p2,p3⟩
structure St (a b:Int) (r s t r' s' t':Int):Prop where
 c0:r=s*a+t*b
 c1:r'=s'*a+t'*b
 dv:∀d:Int,d∣r->d∣r'->d∣a/\d∣b
 bd:s'.natAbs*r.natAbs+s.natAbs*r'.natAbs<=b.natAbs
 sg:s'=0\/0<=r*r'
 b0:s.natAbs<=b.natAbs+1
 b1:s'.natAbs<=b.natAbs+1
 d0:t.natAbs<=a.natAbs+(b.natAbs+1)*a.natAbs+b.natAbs+1
 d1:t'.natAbs<=a.natAbs+(b.natAbs+1)*a.natAbs+b.natAbs+1
 m0:r.natAbs<=a.natAbs+b.natAbs
 m1:r'.natAbs<=b.natAbs
def start(a b:Int):St a b a 1 0 b 0 1 where
 c0:=by lia
 c1:=by lia
 dv:=λd h1 h2=>⟨h1,h2⟩
 bd:=by simp
 sg:=.inl rfl
 b0:=by lia
 b1:=by lia
 d0:=by simp
 d1:=by lia
 m0:=by lia
 m1:=by lia
def turn{a b r s t r' s' t':Int}(h:St a b r s t r' s' t')(h0:r'≠0):St a b r' s' t' (r-r.fdiv r'*r') (s-r.fdiv r'*s') (t-r.fdiv r'*t')/\(r-r.fdiv r'*r').natAbs<r'.natAbs:=by
 obtain⟨f1,f2,f3⟩:=rn r r' h0;generalize hq:r.fdiv r'=q at *;have hb:b≠0:=by
  intro z;have:=h.m1;lia
 have hr':1<=r'.natAbs:=by lia
 have c1':r-q*r'=(s-q*s')*a+(t-q*t')*b:=by
  rw[h.c0,h.c1,Int.sub_mul,Int.sub_mul,Int.mul_add,WO,WO];lia
 have bd':(s-q*s').natAbs*r'.natAbs+s'.natAbs*(r-q*r').natAbs<=b.natAbs:=by
  have v5:(s-q*s').natAbs<=s.natAbs+q.natAbs*s'.natAbs:=by
   rw[<- WA];lia
  have hbd:=h.bd;rcases h.sg with z|z
  .subst z;simp only[Wl,Zd,Int.natAbs_zero,Nat.zero_mul,Ze,XX] at hbd ⊢;exact hbd
  .have e:=f3 z;have k1:(s-q*s').natAbs*r'.natAbs<=(s.natAbs+q.natAbs*s'.natAbs)*r'.natAbs:=XA _ v5;have k2:(s.natAbs+q.natAbs*s'.natAbs)*r'.natAbs+s'.natAbs*(r-q*r').natAbs=s'.natAbs*r.natAbs+s.natAbs*r'.natAbs:=by
    rw[e,aaW,Nat.mul_add,W6 q.natAbs s'.natAbs,Nat.mul_assoc];lia
   lia
 have b1':(s-q*s').natAbs<=b.natAbs:=by
  have:(s-q*s').natAbs*1<=(s-q*s').natAbs*r'.natAbs:=Vy _ hr';lia
 have mm:(r-q*r').natAbs<=b.natAbs:=by
  have:=h.m1;lia
 have d1':(t-q*t').natAbs<=a.natAbs+(b.natAbs+1)*a.natAbs+b.natAbs+1:=by
  have e:(t-q*t')*b=(r-q*r')-(s-q*s')*a:=by lia
  have e1:((t-q*t')*b).natAbs<=(r-q*r').natAbs+((s-q*s')*a).natAbs:=by lia
  rw[WA,WA] at e1;have k1:(t-q*t').natAbs*1<=(t-q*t').natAbs*b.natAbs:=Vy _ ⋯;have k2:(s-q*s').natAbs*a.natAbs<=(b.natAbs+1)*a.natAbs:=XA _ ⋯;lia
 refine⟨⟨h.c1,c1',λd e1 e2=>?_,bd',?_,h.b1,by lia,h.d1,d1',?_,mm⟩,f1⟩
 .refine h.dv d ?_ e1;have e3:d∣q*r':=VD e1 (Vh _ _);have e4:=ZY e2 e3
  rwa [Int.sub_add_cancel] at e4
 .exact .inr (by rwa[Zb])
 .have:=h.m1;lia
def done{a b r s t s' t':Int}(h:St a b r s t 0 s' t'):r∣a/\r∣b:=h.dv r (Zg r) (UK r)
end Eu
namespace Lc
def KW(ns:List Nat):Nat:=ns.foldl Zh 1
def BD(m n:Nat):m/Nat.gcd m n*n=Zh m n:=by
 unfold Zh;rw[Nat.div_mul_right_comm (Nat.gcd_dvd_left m n)]
end Lc
namespace Rg
abbrev cV:=Nat->Int
def aS(s:cV)(D:Nat->cV)(d:Nat):Int:=if D d d=0 then s d else D d d
def G(n:Nat)(s:cV)(D:Nat->cV):Nat->Nat->cV->Prop
 | 0,_,v=>∀i,i<n->s i∣v i
 |k+1,d,v=>aS s D d∣v d/\G n s D k (d+1) λi=>v i-v d/aS s D d*D d i
def U(i:Nat)(c:Int):cV:=λj=>if j=i then c else 0
variable{D:Nat->cV}{s:cV}{n:Nat}
theorem G.ext:∀{k d:Nat}{v w:cV},d+k=n->(∀i,i<n->v i=w i)->G n s D k d v->G n s D k d w
 | 0,d,v,w,_,e,h=>λi hi=>by rw[<- e i hi];exact h i hi
 | k+1,d,v,w,hn,e,h=>by
  have ed:=e d ⋯;refine⟨by rw[<- ed];exact h.1,G.ext ⋯ (λi hi=>?_) h.2⟩;rw[e i hi,ed]
theorem G.add:∀{k d:Nat}{v w:cV},d+k=n->G n s D k d v->G n s D k d w->G n s D k d λi=>v i+w i
 | 0,d,v,w,_,h,h'=>λi hi=>ZY (h i hi) (h' i hi)
 | k+1,d,v,w,hn,h,h'=>by
  refine⟨ZY h.1 h'.1,G.ext ⋯ (λi hi=>?_) (G.add ⋯ h.2 h'.2)⟩;show _=v i+w i-(v d+w d)/aS s D d*D d i;rw[Int.add_ediv_of_dvd_left h.1,Int.add_mul];lia
theorem G.mul(c:Int):∀{k d:Nat}{v:cV},d+k=n->G n s D k d v->G n s D k d λi=>c*v i
 | 0,d,v,_,h=>λi hi=>VD (h i hi) (Vh _ _)
 | k+1,d,v,hn,h=>by
  refine⟨VD h.1 (Vh _ _),G.ext ⋯ (λi hi=>?_) (G.mul c ⋯ h.2)⟩;show _=c*v i-c*v d/aS s D d*D d i;rw[aak c h.1,Int.mul_sub,WO]
theorem G.zero:∀{k d:Nat},d+k=n->G n s D k d λ_=>0
 | 0,d,_=>λi _=>UK _
 |k+1,d,hn=>⟨UK _,G.ext ⋯ (λi hi=>by simp) (G.zero (k:=k) (d:=d+1) ⋯)⟩
theorem G.skip{v:cV}:∀{j k d:Nat},d+(j+k)=n->(∀i,d<=i->i<d+j->v i=0)->G n s D k (d+j) v->G n s D (j+k) d v
 | 0,k,d,_,_,h=>by rwa[Ze]
 | j+1,k,d,hn,hz,h=>by
  rw[show j+1+k=(j+k)+1 by lia];have z:=hz d (SE _) ⋯;refine⟨by rw[z];exact UK _,G.ext (v:=v) ⋯ (λi hi=>by rw[z];simp) (G.skip ⋯ (λi h1 h2=>hz i ⋯ ⋯) (by rwa[show d+1+j=d+(j+1) by lia]))⟩
structure Good (n:Nat) (s:cV) (D:Nat->cV):Prop where
 sp:∀i,i<n->0<s i
 kM:∀d,d<n->∀i,i<n->0<=D d i/\D d i<s i
 v5:∀d,d<n->∀i,i<d->D d i=0
 dv:∀d,d<n->aS s D d∣s d
 Md:∀d k,d+(k+1)=n->G n s D k (d+1) λi=>s d/aS s D d*D d i
variable{d:Nat}
variable{k:Nat}
theorem Good.pos(g:Good n s D)(h:d<n):0<aS s D d/\aS s D d<=s d:=by
 have h1:=g.kM d h d h;have h2:=g.sp d h;unfold aS
 split<;>lia
theorem Good.diag(g:Good n s D)(h:d<n):s d∣D d d-aS s D d:=by
 unfold aS
 split
 .rename_i z;rw[z];exact⟨-1,by lia⟩
 .rw[Zi];exact UK _
theorem Good.turn(g:Good n s D):∀{k d i:Nat}(c:Int),d+k=n->i<n->G n s D k d (U i (c*s i))
 | 0,d,i,c,_,hi=>λj hj=>by
  unfold U
  split
  .rename_i z;rw[z];exact Vh _ _
  .exact UK _
 | k+1,d,i,c,hn,hi=>by
  have hd:d<n:=by lia
  by_cases z:i=d
  .subst z;have dv:=g.dv i hi;refine⟨by show _∣U i _ i;rw[U,if_pos rfl];exact VD dv (Vh _ _),?_⟩;refine G.ext ⋯ (λj hj=>?_) (G.add ⋯ (g.turn (k:=k) (d:=i+1) (i:=i) c ⋯ hi) (G.mul (-c) ⋯ (g.Md i k hn)));show U i (c*s i) j+-c*(s i/aS s D i*D i j)=U i (c*s i) j-U i (c*s i) i/aS s D i*D i j;rw[show U i (c*s i) i=c*s i by rw[U,if_pos rfl],aak c dv,aaX,WO];lia
  .have u0:U i (c*s i) d=0:=by rw[U,if_neg (UN z)]
   refine⟨by rw[u0];exact UK _,G.ext ⋯ (λj hj=>?_) (g.turn (k:=k) (d:=d+1) (i:=i) c ⋯ hi)⟩;rw[u0];simp
def G.pA{v w:cV}(ht:∀i c,i<n->G n s D k d (U i (c*s i)))(hn:d+k=n)(h:∀i,i<n->s i∣w i-v i)(hv:G n s D k d v):G n s D k d w:=by
 have key:∀m,m<=n->G n s D k d λi=>if i<m then w i else v i:=by
  intro m
  induction m with
  | zero=>intro _;exact G.ext hn (λi _=>by simp) hv
  | succ m ih =>
   intro hm;obtain⟨c,hc⟩:=h m ⋯;refine G.ext hn (λi hi=>?_) (G.add hn (ih ⋯) (ht m c ⋯));show (if i<m then w i else v i)+U m (c*s m) i=if i<m+1 then w i else v i;unfold U
   by_cases z:i=m
   .subst z;rw[if_neg ⋯,if_pos rfl,if_pos ⋯,Zb c];lia
   .rw[if_neg z]
    by_cases q:i<m
    .rw[if_pos q,if_pos ⋯];lia
    .rw[if_neg q,if_neg ⋯];lia
 exact G.ext hn (λi hi=>by simp[hi]) (key n (SE _))
theorem Good.pA(g:Good n s D){k d:Nat}{v w:cV}(hn:d+k=n)(h:∀i,i<n->s i∣w i-v i)(hv:G n s D k d v):G n s D k d w :=
 G.pA (λi c hi=>g.turn c hn hi) hn h hv
def Good.sub(g:Good n s D){v w:cV}(hn:d+k=n)(hv:G n s D k d v)(hw:G n s D k d w):G n s D k d λi=>v i-w i :=
 G.ext hn (λi _=>by lia) (G.add hn hv (G.mul (-1) hn hw))
def Good.own(g:Good n s D)(hn:d+(k+1)=n):G n s D (k+1) d (D d):=by
 have hd:d<n:=by lia
 by_cases z:D d d=0
 .have e:aS s D d=s d:=by unfold aS;rw[if_pos z]
  have c:=g.Md d k hn;rw[e] at c;refine⟨by rw[z];exact UK _,G.ext ⋯ (λi hi=>?_) c⟩;rw[z,Int.ediv_self (by have:=g.sp d hd;lia)];simp
 .have e:aS s D d=D d d:=by unfold aS;rw[if_neg z]
  refine⟨by rw[e];exact Zg _,G.ext ⋯ (λi hi=>?_) (G.zero (k:=k) (d:=d+1) ⋯)⟩;rw[e,Int.ediv_self z];lia
theorem Good.row(g:Good n s D)(hd:d<n):∀{k e:Nat},e+k=n->e<=d->G n s D k e (D d):=by
 intro k e hn he;have h:=g.own (d:=d) (k:=n-d-1) ⋯;have:=G.skip (n:=n) (s:=s) (D:=D) (v:=D d) (j:=d-e) (k:=n-d-1+1) (d:=e) ⋯ (λi h1 h2=>g.v5 d hd i ⋯) (by rwa[show e+(d-e)=d by lia]);rwa[show d-e+(n-d-1+1)=k by lia] at this
structure Tk (n:Nat) (s:cV) (D D' L:Nat->cV) (u v g:Nat->Int):Prop where
 gp:∀d,d<n->0<g d
 bz:∀d,d<n->u d*aS s D d+v d*L d d=g d
 g1:∀d,d<n->g d∣aS s D d
 g2:∀d,d<n->g d∣L d d
 K5:∀d,d<n->∀i,i<n->D' d i=(u d*D d i+v d*L d i)%s i
 Kf:∀d,d<n->∀i,i<n->L (d+1) i=(aS s D d/g d*L d i+-(L d d/g d)*D d i)%s i
 l0:∀i,i<n->0<=L 0 i/\L 0 i<s i
variable{b:Int}
section
variable{D' L:Nat->cV}{u v g:Nat->Int}
theorem fm(a b:Int):b∣a%b-a:=⟨-(a/b),by have:=Zj a b;rw[aaV];lia⟩
theorem m9(a b:Int):b∣a-a%b:=⟨a/b,by have:=Zj a b;lia⟩
theorem Tk.kept(t:Tk n s D D' L u v g)(G:Good n s D):∀d,d<=n->∀i,i<n->0<=L d i/\L d i<s i:=by
 intro d hd i hi;cases d with
 | zero=>exact t.l0 i hi
 | succ d =>
  rw[t.Kf d ⋯ i hi];have:=G.sp i hi;exact⟨T3 _ ⋯,Tt _ this⟩
theorem iO{a:Int}(h0:0<=a)(h1:a<b)(h:b∣a):a=0:=by
 obtain⟨c,rfl⟩:=h;rcases Zc 0 c with hc|hc
 .have:b*1<=b*c:=T8 hc ⋯;lia
 .have:b*c<=0:=WS ⋯ hc;lia
theorem Tk.zero(t:Tk n s D D' L u v g)(G:Good n s D):∀d,d<=n->∀i,i<d->L d i=0:=by
 intro d
 induction d with
 | zero=>intro _ i hi;lia
 | succ d ih =>
  intro hd i hi;have Rl:d<n:=by lia
  have k:=t.kept G (d+1) hd i ⋯;refine iO k.1 k.2 ?_;rw[t.Kf d Rl i ⋯];rcases TU i d with h|h
  .rw[ih ⋯ i h,G.v5 d Rl i h];simp
  .obtain rfl:i=d:=by lia
   refine VD ?_ (Zg _);obtain⟨c,hc⟩:=G.diag Rl;obtain⟨a,ha⟩:=t.g1 i Rl;obtain⟨b,hb⟩:=t.g2 i Rl;have gp:=t.gp i Rl;have e1:aS s D i/g i=a:=by rw[ha];exact Ub a ⋯
   have e2:L i i/g i=b:=by rw[hb];exact Ub b ⋯
   rw[e1,e2];have e3:a*L i i+-b*D i i=s i*(-b*c):=by
    have:D i i=aS s D i+s i*c:=by lia
    rw[this,ha,hb];grind
   rw[e3,Int.mul_emod_right];exact UK _
theorem Tk.step(t:Tk n s D D' L u v g)(G:Good n s D)(hd:d<n):aS s D' d=g d:=by
 obtain⟨c,hc⟩:=G.diag hd;have gp:=t.gp d hd;have sp:=G.sp d hd;have st:=G.pos hd;have le:g d<=aS s D d:=aab st.1 (t.g1 d hd);have e:D' d d=g d%s d:=by
  rw[t.K5 d hd d hd,<- t.bz d hd];have:D d d=aS s D d+s d*c:=by lia
  rw[this,show u d*(aS s D d+s d*c)+v d*L d d=(u d*aS s D d+v d*L d d)+s d*(u d*c) by grind,Int.add_mul_emod_self_left]
 unfold aS;rw[e]
 by_cases z:g d=s d
 .rw[z,Int.emod_self,if_pos rfl]
 .rw[Wy ⋯ ⋯,if_neg ⋯]
theorem Tk.main(t:Tk n s D D' L u v g)(Gd:Good n s D):∀k d,d+k=n->(∀w,G n s D k d w->G n s D' k d w)/\G n s D' k d (L d)
 | 0,d,hn=>by
  refine⟨λw h=>h,λi hi=>?_⟩;rw[t.zero Gd d ⋯ i ⋯];exact UK _
 | k+1,d,hn=>by
  obtain⟨i1,i2⟩:=t.main Gd k (d+1) ⋯;have hd:d<n:=by lia
  have turn:∀i c,i<n->G n s D' k (d+1) (U i (c*s i)):=λi c hi=>i1 _ (Gd.turn c ⋯ hi);have st:=t.step Gd hd;have gp:=t.gp d hd;obtain⟨a,ha⟩:=t.g1 d hd;obtain⟨b,hb⟩:=t.g2 d hd;have e1:aS s D d/g d=a:=by rw[ha];exact Ub a ⋯
  have e2:L d d/g d=b:=by rw[hb];exact Ub b ⋯
  have bz:u d*a+v d*b=1:=by
   have:=t.bz d hd;rw[ha,hb,show u d*(g d*a)+v d*(g d*b)=g d*(u d*a+v d*b) by grind] at this;have h2:g d*(u d*a+v d*b)=g d*1:=by lia
   exact Vb ⋯ h2
  have w1:∀i,i<n->∃c,D' d i=u d*D d i+v d*L d i+s i*c:=λi hi=>by
   obtain⟨c,hc⟩:=fm (u d*D d i+v d*L d i) (s i);exact⟨c,by rw[t.K5 d hd i hi];lia⟩
  have w2:∀i,i<n->∃c,L (d+1) i=a*L d i+-b*D d i+s i*c:=λi hi=>by
   obtain⟨c,hc⟩:=fm (a*L d i+-b*D d i) (s i);exact⟨c,by rw[t.Kf d hd i hi,e1,e2];lia⟩
  constructor
  .intro w h;obtain⟨h1,h2⟩:=h;refine⟨by rw[st];exact VD (t.g1 d hd) h1,?_⟩;obtain⟨q,hq⟩:=h1;have sp:=(Gd.pos hd).1;have q1:w d/aS s D d=q:=by rw[hq];exact Ub q ⋯
   have q2:w d/aS s D' d=q*a:=by
    rw[st,hq,ha,show g d*a*q=g d*(q*a) by grind];exact Ub _ ⋯
   rw[q2];rw[q1] at h2;refine G.pA turn ⋯ (λi hi=>?_) (G.add ⋯ (i1 _ h2) (G.mul (q*-(v d)) ⋯ i2));obtain⟨c1,hc1⟩:=w1 i hi;obtain⟨c2,QC⟩:=w2 i hi;refine⟨q*(v d*c2-a*c1),?_⟩;rw[hc1,QC];grind
  .refine⟨by rw[st];exact t.g2 d hd,?_⟩;rw[st,e2];refine G.pA turn ⋯ (λi hi=>?_) (G.mul (u d) ⋯ i2);obtain⟨c1,hc1⟩:=w1 i hi;obtain⟨c2,QC⟩:=w2 i hi;refine⟨-(b*c1)-u d*c2,?_⟩;rw[hc1,QC];grind
theorem Tk.good(t:Tk n s D D' L u v g)(Gd:Good n s D):Good n s D' where
 sp:=Gd.sp
 kM:=λd hd i hi=>by
  rw[t.K5 d hd i hi];have:=Gd.sp i hi;exact⟨T3 _ ⋯,Tt _ this⟩
 v5:=λd hd i hi=>by
  rw[t.K5 d hd i ⋯,Gd.v5 d hd i hi,t.zero Gd d ⋯ i hi];simp
 dv:=λd hd=>by
  rw[t.step Gd hd];exact VD (t.g1 d hd) (Gd.dv d hd)
 Md:=λd k hn=>by
  have hd:d<n:=by lia
  have h1:=(t.main Gd (k+1) d hn).1 _ (Gd.turn (i:=d) 1 hn hd);have h2:=(t.main Gd k (d+1) ⋯).1 _ (Gd.turn (i:=d) 1 ⋯ hd);have h3:=h1.2;have ud:U d (1*s d) d=s d:=by rw[U,if_pos rfl,WB]
  rw[ud] at h3;refine G.ext ⋯ (λi hi=>?_) (G.add ⋯ h2 (G.mul (-1) ⋯ h3));show U d (1*s d) i+-1*(U d (1*s d) i-s d/aS s D' d*D' d i)=_;lia
end
variable{W:Nat->cV}
variable{i:Nat}
section
variable{D':Nat->cV}
theorem Good.ET(Gd:Good n s D)(kM:∀d,d<n->∀i,i<n->0<=D' d i/\D' d i<s i)(v5:∀d,d<n->∀i,i<d->D' d i=0)(dv:∀d,d<n->aS s D' d∣s d)(h:∀k d,d+k=n->∀w,G n s D k d w->G n s D' k d w):Good n s D' where
 sp:=Gd.sp
 kM:=kM
 v5:=v5
 dv:=dv
 Md:=λd k hn=>by
  have hd:d<n:=by lia
  have h1:=h (k+1) d hn _ (Gd.turn (i:=d) 1 hn hd);have h2:=h k (d+1) ⋯ _ (Gd.turn (i:=d) 1 ⋯ hd);have h3:=h1.2;have ud:U d (1*s d) d=s d:=by rw[U,if_pos rfl,WB]
  rw[ud] at h3;refine G.ext ⋯ (λi hi=>?_) (G.add ⋯ h2 (G.mul (-1) ⋯ h3));show U d (1*s d) i+-1*(U d (1*s d) i-s d/aS s D' d*D' d i)=_;lia
structure Dn (n:Nat) (s:cV) (D:Nat->cV) (f:Nat) (W:Nat->cV):Prop where
 w0:∀i,i<n->0<=W f i/\W f i<s i
 ws:∀d,f<=d->d<n->∀i,i<n->W (d+1) i=(1*W d i+-(W d d/aS s D d)*D d i)%s i
variable{f:Nat}
theorem Dn.kept(h:Dn n s D f W)(Gd:Good n s D):∀d,f<=d->d<=n->∀i,i<n->0<=W d i/\W d i<s i:=by
 intro d hf hd i hi;rcases TU f d with q|q
 .obtain⟨e,rfl⟩:∃e,d=e+1:=⟨d-1,by lia⟩
  rw[h.ws e ⋯ ⋯ i hi];have:=Gd.sp i hi;exact⟨T3 _ ⋯,Tt _ this⟩
 .obtain rfl:d=f:=by lia
  exact h.w0 i hi
theorem Dn.ahead(h:Dn n s D f W)(Gd:Good n s D)(hf:f<=d)(hd:d<n)(hi:i<d):W (d+1) i=W d i:=by
 have k:=h.kept Gd d hf ⋯ i ⋯;rw[h.ws d hf hd i ⋯,Gd.v5 d hd i hi,Wl,Zk,WB,Wy k.1 k.2]
theorem Dn.at_(h:Dn n s D f W)(Gd:Good n s D)(hf:f<=d)(hd:d<n):W (d+1) d=W d d%aS s D d:=by
 have k:=h.kept Gd d hf ⋯ d hd;have p:=Gd.pos hd;rw[h.ws d hf hd d hd];have e:=Zj (W d d) (aS s D d);have q0:=T3 (W d d) (show aS s D d≠0 by lia);have q1:=Tt (W d d) p.1
 by_cases z:D d d=0
 .have st:aS s D d=s d:=by unfold aS;rw[if_pos z]
  rw[z,st,Wy k.1 k.2,Wl,Zk,WB,Wy k.1 k.2]
 .have st:aS s D d=D d d:=by unfold aS;rw[if_neg z]
  rw[<- st,show 1*W d d+-(W d d/aS s D d)*aS s D d=W d d%aS s D d by rw[e];grind];exact Wy q0 ⋯
theorem Dn.low(h:Dn n s D f W)(Gd:Good n s D):∀d,f<=d->d<=n->∀e,f<=e->e<d->0<=W d e/\W d e<aS s D e:=by
 intro d
 induction d with
 | zero=>intro _ _ e _ he;lia
 | succ d ih =>
  intro hf hd e he hed;rcases TU e d with q|q
  .rw[h.ahead Gd ⋯ ⋯ q];exact ih ⋯ ⋯ e he q
  .obtain rfl:e=d:=by lia
   have p:=Gd.pos (show e<n by lia);rw[h.at_ Gd he ⋯];exact⟨T3 _ ⋯,Tt _ p.1⟩
theorem Dn.front(h:Dn n s D f W)(Gd:Good n s D):∀d,f<=d->d<=n->∀i,i<f->W d i=W f i:=by
 intro d
 induction d with
 | zero=>intro h1 _ i hi;lia
 | succ d ih =>
  intro hf hd i hi;rcases TU d f with q|q
  .rw[show d+1=f by lia]
  .rw[h.ahead Gd q ⋯ ⋯];exact ih q ⋯ i hi
theorem Dn.run(h:Dn n s D f W)(Gd:Good n s D):∀k d,f<=d->d+k=n->G n s D k d (W d)->∀i,i<n->W n i=0
 | 0,d,hf,hn,g,i,hi=>by
  rw[XX] at hn;subst hn;have k:=h.kept Gd d hf (SE _) i hi;exact iO k.1 k.2 (g i hi)
 | k+1,d,hf,hn,g,i,hi=>by
  refine h.run Gd k (d+1) ⋯ ⋯ (Gd.pA ⋯ (λj hj=>?_) g.2) i hi;rw[h.ws d hf ⋯ j hj];have:=fm (1*W d j+-(W d d/aS s D d)*D d j) (s j);rw[show 1*W d j+-(W d d/aS s D d)*D d j=W d j-W d d/aS s D d*D d j by grind] at this;rw[show 1*W d j+-(W d d/aS s D d)*D d j=W d j-W d d/aS s D d*D d j by grind];exact this
theorem Dn.away(h:Dn n s D f W)(Gd:Good n s D):∀d,f<=d->d<=n->∀k,f+k=n->G n s D k f λi=>W f i-W d i:=by
 intro d
 induction d with
 | zero =>
  intro hf _ k hn;obtain rfl:f=0:=by lia
  exact G.ext hn (λi _=>by lia) (G.zero hn)
 | succ d ih =>
  intro hf hd k hn;rcases TU d f with q|q
  .rw[show d+1=f by lia];exact G.ext hn (λi _=>by lia) (G.zero hn)
  .refine Gd.pA hn (λi hi=>?_) (G.add hn (ih q ⋯ k hn) (G.mul (W d d/aS s D d) hn (Gd.row (show d<n by lia) hn q)));rw[h.ws d q ⋯ i hi];have:=m9 (1*W d i+-(W d d/aS s D d)*D d i) (s i);obtain⟨c,hc⟩:=this;exact⟨c,by rw[<- hc];grind⟩
theorem G.small(Gd:Good n s D):∀k d (v:cV),d+k=n->(∀i,i<n->0<=v i/\v i<s i)->(∀i,d<=i->i<n->v i<aS s D i)->G n s D k d v->∀i,i<n->v i=0
 | 0,d,v,hn,h0,_,g,i,hi=>iO (h0 i hi).1 (h0 i hi).2 (g i hi)
 | k+1,d,v,hn,h0,h1,g,i,hi=>by
  have z:v d=0:=iO (h0 d ⋯).1 (h1 d (SE _) ⋯) g.1;refine G.small Gd k (d+1) v ⋯ h0 (λj hj=>h1 j ⋯) (G.ext ⋯ (λj hj=>?_) g.2) i hi;rw[z];simp
theorem vH(Gd:Good n s D)(W:Nat->Nat->cV)(hW:∀d,d<n->Dn n s D (d+1) (W d))(h0:∀d,d<n->∀i,i<n->W d (d+1) i=D d i)(hD:∀d,d<n->∀i,i<n->D' d i=W d n i):Good n s D'/\(∀d,d<n->aS s D' d=aS s D d)/\(∀d,d<n->∀e,d<e->e<n->D' d e<aS s D e)/\(∀d,d<n->D' d d=0->∀i,i<n->D' d i=0)/\(∀k d,d+k=n->∀w,G n s D k d w->G n s D' k d w):=by
 have dg:∀d,d<n->∀i,i<=d->D' d i=D d i:=λd hd i hi=>by
  rw[hD d hd i ⋯,(hW d hd).front Gd n ⋯ (SE _) i ⋯,h0 d hd i ⋯]
 have st:∀d,d<n->aS s D' d=aS s D d:=λd hd=>by
  unfold aS;rw[dg d hd d (SE _)]
 have Si:∀k d,d+k=n->∀w,G n s D k d w->G n s D' k d w:=by
  intro k
  induction k with
  | zero=>intro d _ w h;exact h
  | succ k ih =>
   intro d hn w h;have hd:d<n:=by lia
   refine⟨by rw[st d hd];exact h.1,ih (d+1) ⋯ _ ?_⟩;rw[st d hd];refine G.ext ⋯ (λi hi=>?_) (G.add ⋯ h.2 (G.mul (w d/aS s D d) ⋯ ((hW d hd).away Gd n ⋯ (SE _) k ⋯)));show w i-w d/aS s D d*D d i+w d/aS s D d*(W d (d+1) i-W d n i)=_;rw[h0 d hd i hi,hD d hd i hi];grind
 have good:Good n s D':=Gd.ET (λd hd i hi=>by rw[hD d hd i hi];exact(hW d hd).kept Gd n ⋯ (SE _) i hi) (λd hd i hi=>by rw[dg d hd i ⋯];exact Gd.v5 d hd i hi) (λd hd=>by rw[st d hd];exact Gd.dv d hd) Si;have lt:∀d,d<n->∀e,d<e->e<n->D' d e<aS s D e:=λd hd e he hen=>by
  rw[hD d hd e hen];exact((hW d hd).low Gd n ⋯ (SE _) e ⋯ hen).2
 refine⟨good,st,lt,λd hd z=>?_,Si⟩;have h1:=good.own (d:=d) (k:=n-d-1) ⋯;have h2:=h1.2;refine G.small good (n-d-1) (d+1) (D' d) ⋯ (good.kM d hd) (λi h1 h2=>by rw[st i h2];exact lt d hd i ⋯ h2) (G.ext ⋯ (λi hi=>?_) h2);rw[z];simp
end
def dH:Nat->(Nat->Int)->Int
 | 0,_=>0
 |m+1,f=>dH m f+f m
theorem vd(a b:Int)(f g h:Nat->Int):∀m,(∀l,l<m->h l=a*f l+b*g l)->dH m h=a*dH m f+b*dH m g
 | 0,_=>by simp[dH]
 | m+1,e=>by
  rw[dH,dH,dH,vd a b f g h m λl hl=>e l ⋯,e m ⋯];grind
theorem gA{f g:Nat->Int}:∀{m:Nat},(∀l,l<m->f l=g l)->dH m f=dH m g
 | 0,_=>rfl
 |m+1,e=>by rw[dH,dH,gA λl hl=>e l ⋯,e m ⋯]
theorem eV:∀m,dH m (λ_=>0)=0
 | 0=>rfl
 |m+1=>by rw[dH,eV m];rfl
theorem mO(k:Nat)(a:Int):∀m,k<m->∀f:Nat->Int,(∀l,l<m->f l=if l=k then a else 0)->dH m f=a
 | 0,h,_,_=>by lia
 | m+1,h,f,e=>by
  rw[dH]
  by_cases z:k=m
  .subst z;rw[gA (g:=λ_=>0) λl hl=>by rw[e l ⋯,if_neg ⋯],eV,e k ⋯,if_pos rfl];lia
  .rw[mO k a m ⋯ f λl hl=>e l ⋯,e m ⋯,if_neg ⋯];lia
def Led(n:Nat)(s:cV)(m:Nat)(A:Nat->cV)(v P:cV):Prop:=∀i,i<n->s i∣v i-dH m λl=>P l*A l i
variable{m:Nat}
theorem Led.mix{A:Nat->cV}{v w x P Q R:cV}{a:Int}(h1:Led n s m A v P)(h2:Led n s m A w Q)(hx:∀i,i<n->s i∣x i-(a*v i+b*w i))(hR:∀l,l<m->R l=a*P l+b*Q l):Led n s m A x R:=λi hi=>by
 obtain⟨c1,e1⟩:=h1 i hi;obtain⟨c2,e2⟩:=h2 i hi;obtain⟨c3,e3⟩:=hx i hi;rw[vd a b (λl=>P l*A l i) (λl=>Q l*A l i) (λl=>R l*A l i) m λl hl=>by rw[hR l hl];grind];exact⟨a*c1+b*c2+c3,by grind⟩
def bp:Nat->(Nat->Int)->Int
 | 0,_=>1
 |m+1,f=>bp m f*f m
theorem rV{f g h:Nat->Int}:∀{m:Nat},(∀l,l<m->f l=g l*h l)->bp m f=bp m g*bp m h
 | 0,_=>rfl
 |m+1,e=>by rw[bp,bp,bp,rV λl hl=>e l ⋯,e m ⋯];grind
theorem iM{f g:Nat->Int}:∀{m:Nat},(∀l,l<m->f l=g l)->bp m f=bp m g
 | 0,_=>rfl
 |m+1,e=>by rw[bp,bp,iM λl hl=>e l ⋯,e m ⋯]
theorem j4{f:Nat->Int}:∀{m:Nat},(∀l,l<m->0<f l)->0<bp m f
 | 0,_=>(by decide:(0:Int)<1)
 |m+1,e=>Int.mul_pos (j4 λl hl=>e l ⋯) (e m ⋯)
def vf(xs:List Int):cV:=λi=>xs.getD i 0
variable{xs:List Int}
def aY(h:i<xs.length):vf xs i=xs[i]:=by
 unfold vf;rw[SJ,Sy h];rfl
def oF(h:xs.length<=i):vf xs i=0:=by
 unfold vf;rw[SJ,Wt h];rfl
def nN(xs:List Int)(a:Int)(ys:List Int)(b:Int):List Int:=(xs.zip ys).map λz=>a*z.1+b*z.2
def yG(xs N8:List Int):List Int:=(xs.zip N8).map λz=>z.1%z.2
variable{ys:List Int}
def bK{a:Int}:(nN xs a ys b).length=min xs.length ys.length:=by simp[nN]
def jX:(yG xs ys).length=min xs.length ys.length:=by simp[yG]
theorem eN{a:Int}(h1:i<xs.length)(h2:i<ys.length):vf (nN xs a ys b) i=a*vf xs i+b*vf ys i:=by
 rw[aY (by rw[bK];lia),aY h1,aY h2];simp[nN]
theorem jY(h1:i<xs.length)(h2:i<ys.length):vf (yG xs ys) i=vf xs i%vf ys i:=by
 rw[aY (by rw[jX];lia),aY h1,aY h2];simp[yG]
def pD(hl:xs.length=ys.length)(h:∀i,i<xs.length->vf xs i=vf ys i):xs=ys:=by
 refine YM hl λi h1 h2=>?_;have:=h i h1
 rwa [aY h1,aY h2] at this
def c9(n:Nat)(i:Nat):vf (Sx n 0) i=0:=by
 rcases TU i n with h|h
 .rw[aY (by simpa using h)];simp
 .rw[oF (by simpa using h)]
def Bd(B:Nat)(xs:List Int):Prop:=∀x∈xs,x.natAbs<2^B
def Bd.mono{B C:Nat}(h:Bd B xs)(hc:B<=C):Bd C xs:=λx hx=>S8 (h x hx) (U4 ↑12 hc)
theorem Bd.vf{B:Nat}{xs:List Int}(h:Bd B xs)(i:Nat):(vf xs i).natAbs<2^B:=by
 rcases TU i xs.length with q|q
 .rw[aY q];exact h _ (TZ q)
 .rw[oF q];exact Vw B
def xg{a:Int}{A B:Nat}(ha:a.natAbs<2^A)(hb:b.natAbs<2^B):(a*b).natAbs<2^(A+B):=by
 rw[WA,Nat.pow_add];have h0:0<2^A:=Vw A;have h1:0<2^B:=Vw B;exact Nat.mul_lt_mul_of_lt_of_le ha (Vz hb) h1
theorem GV{a:Int}{A:Nat}(ha:a.natAbs<2^A)(hb:b.natAbs<2^A):(a+b).natAbs<2^(A+1):=by
 rw[aaB];lia
def Bd.mix{A B:Nat}{a:Int}(hx:Bd B xs)(hy:Bd B ys)(ha:a.natAbs<2^A)(hb:b.natAbs<2^A):Bd (A+B+1) (nN xs a ys b):=by
 intro z hz;obtain⟨w,hw,rfl⟩:=TF.mp hz;have:=UD (a:=w.1) (b:=w.2) hw;exact GV (xg ha (hx _ this.1)) (xg hb (hy _ this.2))
abbrev Row:=List Int×List Int
def row(rows:List Row)(d:Nat):Row:=rows.getD d ([],[])
def DD(rows:List Row):Nat->cV:=λd=>vf (row rows d).1
def PP(rows:List Row):Nat->cV:=λd=>vf (row rows d).2
structure Wf (n m:Nat) (rows:List Row):Prop where
 len:rows.length=n
 l1:∀r∈rows,r.1.length=n
 l2:∀r∈rows,r.2.length=m
variable{rows:List Row}
def iC(h:d<rows.length):row rows d=rows[d]:=by
 unfold row;rw[SJ,Sy h];rfl
def Wf.oj(w:Wf n m rows)(h:d<n):(row rows d).1.length=n:=by
 rw[iC (by rwa[w.len])];exact w.l1 _ (TZ _)
def Wf.at2(w:Wf n m rows)(h:d<n):(row rows d).2.length=m:=by
 rw[iC (by rwa[w.len])];exact w.l2 _ (TZ _)
def qt(N8:List Int)(r:Row)(a:Int)(q:Row)(b:Int):Row:=(yG (nN r.1 a q.1 b) N8,nN r.2 a q.2 b)
def aw(c:Int->Int->Int×Int)(N8:List Int)(rows:List Row)(left:Row):Nat->Row
 | 0=>left
 | d+1 =>
  let l:=aw c N8 rows left d
  let st:=aS (vf N8) (DD rows) d
  let nt:=vf l.1 d
  qt N8 l (st/(TH st nt:Nat)) (row rows d) (-(nt/(TH st nt:Nat)))
def dN(c:Int->Int->Int×Int)(N8:List Int)(rows:List Row)(left:Row)(d:Nat):Row :=
 let l:=aw c N8 rows left d
 let st:=aS (vf N8) (DD rows) d
 let nt:=vf l.1 d
 qt N8 (row rows d) (c st nt).1 l (c st nt).2
def cp(c:Int->Int->Int×Int)(N8:List Int)(rows:List Row)(left:Row)(n:Nat):List Row:=(S1 n).map (dN c N8 rows left)
variable{left:Row}{N8:List Int}{c:Int->Int->Int×Int}
theorem cN(w:Wf n m rows)(hs:N8.length=n)(h1:left.1.length=n)(h2:left.2.length=m):∀d,d<=n->(aw c N8 rows left d).1.length=n/\(aw c N8 rows left d).2.length=m
 | 0,_=>⟨h1,h2⟩
 | d+1,hd=>by
  obtain⟨i1,i2⟩:=cN w hs h1 h2 d ⋯;have e1:=w.oj (d:=d) ⋯;have e2:=w.at2 (d:=d) ⋯;simp only[aw,qt];rw[jX,bK,bK];exact⟨by lia,by lia⟩
def j5(h:d<n):row (cp c N8 rows left n) d=dN c N8 rows left d:=by
 rw[iC (by simp[cp,h])];simp[cp]
theorem AV(w:Wf n m rows)(hs:N8.length=n)(h1:left.1.length=n)(h2:left.2.length=m):Wf n m (cp c N8 rows left n):=by
 have key:∀d,d<n->(dN c N8 rows left d).1.length=n/\(dN c N8 rows left d).2.length=m:=λd hd=>by
  obtain⟨i1,i2⟩:=cN (c:=c) w hs h1 h2 d ⋯;have e1:=w.oj (d:=d) hd;have e2:=w.at2 (d:=d) hd;simp only[dN,qt];rw[jX,bK,bK];exact⟨by lia,by lia⟩
 refine⟨by simp[cp],λr hr=>?_,λr hr=>?_⟩
 .obtain⟨d,hd,rfl⟩:=TF.mp hr;exact(key d (Uo.mp hd)).1
 .obtain⟨d,hd,rfl⟩:=TF.mp hr;exact(key d (Uo.mp hd)).2
theorem fW{a:Int}(h:0<a):0<(TH a b:Int):=by
 have:=Int.gcd_pos_of_ne_zero_left b (show a≠0 by lia);lia
theorem KZ(w:Wf n m rows)(hs:N8.length=n)(h1:left.1.length=n)(h2:left.2.length=m)(Gd:Good n (vf N8) (DD rows))(h0:∀i,i<n->0<=vf left.1 i/\vf left.1 i<vf N8 i)(hc:∀d,d<n->(c (aS (vf N8) (DD rows) d) (vf (aw c N8 rows left d).1 d)).1*aS (vf N8) (DD rows) d+(c (aS (vf N8) (DD rows) d) (vf (aw c N8 rows left d).1 d)).2*vf (aw c N8 rows left d).1 d=(TH (aS (vf N8) (DD rows) d) (vf (aw c N8 rows left d).1 d):Nat)):Tk n (vf N8) (DD rows) (DD (cp c N8 rows left n)) (λd=>vf (aw c N8 rows left d).1) (λd=>(c (aS (vf N8) (DD rows) d) (vf (aw c N8 rows left d).1 d)).1) (λd=>(c (aS (vf N8) (DD rows) d) (vf (aw c N8 rows left d).1 d)).2) (λd=>(TH (aS (vf N8) (DD rows) d) (vf (aw c N8 rows left d).1 d):Nat)) where
 gp:=λd hd=>fW (Gd.pos hd).1
 bz:=hc
 g1:=λd hd=>Wg ..
 g2:=λd hd=>aaC ..
 K5:=λd hd i hi=>by
  obtain⟨i1,i2⟩:=cN (c:=c) w hs h1 h2 d ⋯;have e1:=w.oj (d:=d) hd;show vf (row (cp c N8 rows left n) d).1 i=_;rw[j5 hd];simp only[dN,qt];rw[jY (by rw[bK];lia) ⋯,eN ⋯ ⋯];rfl
 Kf:=λd hd i hi=>by
  obtain⟨i1,i2⟩:=cN (c:=c) w hs h1 h2 d ⋯;have e1:=w.oj (d:=d) hd;simp only[aw,qt];rw[jY (by rw[bK];lia) ⋯,eN ⋯ ⋯];rfl
 l0:=h0
section
variable{A:Nat->cV}
def CB(c:Int->Int->Int×Int):Prop:=∀a b:Int,0<a->a<=360->0<=b->b<=360->(c a b).1*a+(c a b).2*b=(TH a b:Nat)/\(c a b).1.natAbs<2^20/\(c a b).2.natAbs<2^20
theorem jO{a:Int}(h:0<a)(h2:a<=360):0<a/(TH a b:Nat)/\a/(TH a b:Nat)<=360:=by
 have g:=fW (b:=b) h;obtain⟨q,hq⟩:((TH a b:Nat):Int)∣a:=Wg ..;have e:a/(TH a b:Nat)=q:=by
  have:((TH a b:Nat):Int)≠0:=by lia
  exact Int.ediv_eq_of_eq_mul_right this hq
 rw[e];have q0:0<q:=by
  rcases Zc 0 q with z|z
  .exact z
  .have:=WS (Zl g) z;lia
 refine⟨q0,?_⟩;have:1*q<=(TH a b:Nat)*q:=Wh ⋯ ⋯;lia
theorem mh{a:Int}(h:0<a)(h1:0<=b)(h2:b<=360):0<=b/(TH a b:Nat)/\b/(TH a b:Nat)<=360:=by
 have g:=fW (b:=b) h;exact⟨VT h1 ⋯,Xd (YN _ h1) h2⟩
def Zf(k m:Nat)(P:cV):Prop:=∀l,k<=l->l<m->P l=0
structure St (n m:Nat) (N8:List Int) (A:Nat->cV) (k:Nat) (rows:List Row):Prop where
 wf:Wf n m rows
 hs:N8.length=n
 sm:∀i,i<n->vf N8 i<=360
 gd:Good n (vf N8) (DD rows)
 led:∀d,d<n->Led n (vf N8) m A (DD rows d) (PP rows d)
 zf:∀d,d<n->Zf k m (PP rows d)
 bd:∀d,d<n->Bd (150*k+1) (row rows d).2
 cl:∀l,l<k->G n (vf N8) (DD rows) n 0 (A l)
structure Lv (n m:Nat) (N8:List Int) (A:Nat->cV) (k:Nat) (left:Row):Prop where
 l1:left.1.length=n
 l2:left.2.length=m
 km:k<m
 at_:∀i,i<n->vf left.1 i=A k i
 kM:∀i,i<n->0<=A k i/\A k i<vf N8 i
 un:∀l,l<m->vf left.2 l=if l=k then 1 else 0
theorem kd(h:St n m N8 A k rows)(L:Lv n m N8 A k left):∀d,d<=n->∀i,i<n->0<=vf (aw c N8 rows left d).1 i/\vf (aw c N8 rows left d).1 i<vf N8 i
 | 0,_,i,hi=>by show 0<=vf left.1 i/\vf left.1 i<vf N8 i;rw[L.at_ i hi];exact L.kM i hi
 | d+1,hd,i,hi=>by
  obtain⟨i1,i2⟩:=cN (c:=c) h.wf h.hs L.l1 L.l2 d ⋯;have e1:=h.wf.oj (d:=d) ⋯;have hs:=h.hs;simp only[aw,qt];rw[jY (by rw[bK];lia) ⋯];have:=h.gd.sp i hi;exact⟨T3 _ ⋯,Tt _ this⟩
theorem St.tk(h:St n m N8 A k rows)(L:Lv n m N8 A k left)(cb:CB c):Tk n (vf N8) (DD rows) (DD (cp c N8 rows left n)) (λd=>vf (aw c N8 rows left d).1) (λd=>(c (aS (vf N8) (DD rows) d) (vf (aw c N8 rows left d).1 d)).1) (λd=>(c (aS (vf N8) (DD rows) d) (vf (aw c N8 rows left d).1 d)).2) (λd=>(TH (aS (vf N8) (DD rows) d) (vf (aw c N8 rows left d).1 d):Nat)) :=
 KZ h.wf h.hs L.l1 L.l2 h.gd (λi hi=>by rw[L.at_ i hi];exact L.kM i hi) λd hd=>by
  have p:=h.gd.pos hd;have q:=kd (c:=c) h L d ⋯ d hd;have s:=h.sm d hd;exact(cb _ _ p.1 ⋯ q.1 ⋯).1
theorem pI(h:St n m N8 A k rows)(L:Lv n m N8 A k left):∀d,d<=n->Led n (vf N8) m A (vf (aw c N8 rows left d).1) (vf (aw c N8 rows left d).2)
 | 0,_=>λi hi=>by
  show vf N8 i∣vf left.1 i-dH m λl=>vf left.2 l*A l i;rw[L.at_ i hi,mO k (A k i) m L.km (λl=>vf left.2 l*A l i) λl hl=>by
   rw[L.un l hl]
   by_cases z:l=k
   .subst z;rw[if_pos rfl,if_pos rfl,WB]
   .rw[if_neg z,if_neg z,Xe]]
  rw[Zi];exact UK _
 | d+1,hd=>by
  obtain⟨i1,i2⟩:=cN (c:=c) h.wf h.hs L.l1 L.l2 d ⋯;have e1:=h.wf.oj (d:=d) ⋯;have e2:=h.wf.at2 (d:=d) ⋯;have hs:=h.hs;refine Led.mix (a:=aS (vf N8) (DD rows) d/(TH (aS (vf N8) (DD rows) d) (vf (aw c N8 rows left d).1 d):Nat)) (b:=-(vf (aw c N8 rows left d).1 d/(TH (aS (vf N8) (DD rows) d) (vf (aw c N8 rows left d).1 d):Nat))) (pI h L d ⋯) (h.led d ⋯) (λi hi=>?_) λl hl=>?_
  .simp only[aw,qt];rw[jY (by rw[bK];lia) ⋯,eN ⋯ ⋯];exact fm _ _
  .simp only[aw,qt];rw[eN ⋯ ⋯];rfl
theorem tq(h:St n m N8 A k rows)(L:Lv n m N8 A k left):∀d,d<=n->Zf (k+1) m (vf (aw c N8 rows left d).2)/\vf (aw c N8 rows left d).2 k=bp d λe=>aS (vf N8) (DD rows) e/(TH (aS (vf N8) (DD rows) e) (vf (aw c N8 rows left e).1 e):Nat)
 | 0,_=>⟨λl h1 h2=>by show vf left.2 l=0;rw[L.un l h2,if_neg ⋯],by show vf left.2 k=1;rw[L.un k L.km,if_pos rfl]⟩
 | d+1,hd=>by
  obtain⟨i1,i2⟩:=cN (c:=c) h.wf h.hs L.l1 L.l2 d ⋯;have e2:=h.wf.at2 (d:=d) ⋯;obtain⟨j1,j2⟩:=tq h L d ⋯;have z:=h.zf d ⋯;have km:=L.km;constructor
  .intro l h1 h2;simp only[aw,qt];rw[eN ⋯ ⋯,j1 l h1 h2,show vf (row rows d).2 l=0 from z l ⋯ h2];simp
  .rw[bp,<- j2];simp only[aw,qt];rw[eN ⋯ ⋯,show vf (row rows d).2 k=0 from z k (SE _) km]
   grind
theorem oq(h:St n m N8 A k rows)(L:Lv n m N8 A k left)(hn:n<=6):∀d,d<=n->Bd (150*k+1+11*d) (aw c N8 rows left d).2
 | 0,_=>λx hx=>by
  have hx:x∈left.2:=hx;obtain⟨i,hi,rfl⟩:=S9.mp hx;have hm:i<m:=by rwa[<- L.l2]
  have e:=L.un i hm;rw[aY hi] at e;show (left.2[i]).natAbs<_;rw[e];have:2^1<=2^(150*k+1+11*0):=U4 ↑12 ⋯;refine S8 ?_ this
  split
  .decide
  .decide
 | d+1,hd=>by
  have p:=h.gd.pos (show d<n by lia);have s:=h.sm d ⋯;have q:=kd (c:=c) h L d ⋯ d ⋯;have a1:=jO (b:=vf (aw c N8 rows left d).1 d) p.1 ⋯;have a2:=mh (b:=vf (aw c N8 rows left d).1 d) p.1 q.1 ⋯;have:=Bd.mix (A:=9+1) (oq h L hn d ⋯) ((h.bd d ⋯).mono (show 150*k+1<=150*k+1+11*d by lia)) (a:=aS (vf N8) (DD rows) d/(TH (aS (vf N8) (DD rows) d) (vf (aw c N8 rows left d).1 d):Nat)) (b:=-(vf (aw c N8 rows left d).1 d/(TH (aS (vf N8) (DD rows) d) (vf (aw c N8 rows left d).1 d):Nat))) ⋯ ⋯;exact this.mono ⋯
theorem St.next(h:St n m N8 A k rows)(L:Lv n m N8 A k left)(cb:CB c)(hn:n<=6):St n m N8 A (k+1) (cp c N8 rows left n):=by
 have T:=h.tk L cb;have hs:=h.hs;refine⟨AV h.wf h.hs L.l1 L.l2,h.hs,h.sm,T.good h.gd,λd hd=>?_,λd hd=>?_,λd hd=>?_,λl hl=>?_⟩
 .obtain⟨i1,i2⟩:=cN (c:=c) h.wf h.hs L.l1 L.l2 d ⋯;have e1:=h.wf.oj (d:=d) hd;have e2:=h.wf.at2 (d:=d) hd;unfold DD PP;rw[j5 hd];refine Led.mix (a:=(c (aS (vf N8) (DD rows) d) (vf (aw c N8 rows left d).1 d)).1) (b:=(c (aS (vf N8) (DD rows) d) (vf (aw c N8 rows left d).1 d)).2) (h.led d hd) (pI (c:=c) h L d ⋯) (λi hi=>?_) λl hl=>?_
  .simp only[dN,qt];rw[jY (by rw[bK];lia) ⋯,eN ⋯ ⋯];exact fm _ _
  .simp only[dN,qt];rw[eN ⋯ ⋯];rfl
 .obtain⟨i1,i2⟩:=cN (c:=c) h.wf h.hs L.l1 L.l2 d ⋯;have e2:=h.wf.at2 (d:=d) hd;intro l h1 h2;unfold PP;rw[j5 hd];simp only[dN,qt];rw[eN ⋯ ⋯,(tq (c:=c) h L d ⋯).1 l h1 h2,show vf (row rows d).2 l=0 from h.zf d hd l ⋯ h2];simp
 .rw[j5 hd];have p:=h.gd.pos hd;have s:=h.sm d hd;have q:=kd (c:=c) h L d ⋯ d hd;have b:=cb (aS (vf N8) (DD rows) d) (vf (aw c N8 rows left d).1 d) p.1 ⋯ q.1 ⋯;have:=Bd.mix (A:=20) ((h.bd d hd).mono (show 150*k+1<=150*k+1+11*d by lia)) (oq (c:=c) h L hn d ⋯) b.2.1 b.2.2;exact this.mono ⋯
 .rcases TU l k with q|q
  .exact(T.main h.gd n 0 ⋯).1 _ (h.cl l q)
  .obtain rfl:l=k:=by lia
   exact G.ext ⋯ (λi hi=>L.at_ i hi) (T.main h.gd n 0 ⋯).2
end
def aM(N_:List (List Int))(k:Nat)(P:List Int):Nat->List Int
 | 0=>P
 | c+1 =>
  let z:=aM N_ k P c
  let r:=N_.getD (k-1-c) []
  nN z 1 r (-(vf z (k-1-c)/vf r (k-1-c)))
def II(N_:List (List Int)):Nat->cV:=λj=>vf (N_.getD j [])
structure yA (n m:Nat) (s:cV) (A:Nat->cV) (k:Nat) (N_:List (List Int)):Prop where
 len:N_.length=k
 l2:∀j,j<k->(N_.getD j []).length=m
 pos:∀j,j<k->0<II N_ j j
 le:∀j,j<k->II N_ j j<2^60
 zero:∀j,j<k->∀l,j<l->l<m->II N_ j l=0
 nf:∀j,j<k->∀l,l<j->0<=II N_ j l/\II N_ j l<II N_ l l
 qu:∀j,j<k->Led n s m A (λ_=>0) (II N_ j)
variable{N_:List (List Int)}
variable{j:Nat}
section
variable{A:Nat->cV}{P:List Int}
theorem yA.bd(h:yA n m s A k N_)(hj:j<k)(hm:k<=m):Bd 60 (N_.getD j []):=λx hx=>by
 obtain⟨l,hl,rfl⟩:=S9.mp hx;rw[h.l2 j hj] at hl;have e:II N_ j l=(N_.getD j [])[l]'(by rwa[h.l2 j hj]):=aY _;rw[<- e];rcases TU l j with q|q
 .have h1:=h.nf j hj l q;have h2:=h.le l ⋯;lia
 .rcases TU j l with q2|q2
  .rw[h.zero j hj l q2 hl];exact Vw _
  .obtain rfl:l=j:=by lia
   have h1:=h.pos l hj;have h2:=h.le l hj;lia
theorem span_len(h:yA n m s A k N_)(hP:P.length=m):∀c,c<=k->(aM N_ k P c).length=m
 | 0,_=>hP
 | c+1,hc=>by
  simp only[aM];rw[bK,span_len h hP c ⋯,h.l2 _ ⋯];lia
theorem oz(h:yA n m s A k N_)(hP:P.length=m){c l:Nat}(hc:c<k)(hl:l<m):vf (aM N_ k P (c+1)) l=vf (aM N_ k P c) l-vf (aM N_ k P c) (k-1-c)/II N_ (k-1-c) (k-1-c)*II N_ (k-1-c) l:=by
 simp only[aM];rw[eN (by rwa[span_len h hP c ⋯]) (by rwa[h.l2 _ ⋯])];unfold II
 grind
theorem u7(h:yA n m s A k N_)(hP:P.length=m):∀c,c<=k->∀l,k<=l->l<m->vf (aM N_ k P c) l=vf P l
 | 0,_,_,_,_=>rfl
 | c+1,hc,l,h1,h2=>by
  rw[oz h hP ⋯ h2,h.zero _ ⋯ l ⋯ h2,u7 h hP c ⋯ l h1 h2];simp
theorem tR(h:yA n m s A k N_)(hP:P.length=m)(hm:k<=m):∀c,c<=k->∀l,k-c<=l->l<k->0<=vf (aM N_ k P c) l/\vf (aM N_ k P c) l<II N_ l l
 | 0,_,l,h1,h2=>by lia
 | c+1,hc,l,h1,h2=>by
  rw[oz h hP ⋯ ⋯];rcases TU (k-1-c) l with q|q
  .rw[h.zero _ ⋯ l q ⋯,Wl,Zd];exact tR h hP hm c ⋯ l ⋯ h2
  .obtain rfl:l=k-1-c:=by lia
   have p:=h.pos (k-1-c) ⋯;have e:=Zj (vf (aM N_ k P c) (k-1-c)) (II N_ (k-1-c) (k-1-c));rw[Zb (vf (aM N_ k P c) (k-1-c)/_),<- e];exact⟨T3 _ ⋯,Tt _ p⟩
theorem pW(h:yA n m s A k N_)(hP:P.length=m){v:cV}(hv:Led n s m A v (vf P)):∀c,c<=k->Led n s m A v (vf (aM N_ k P c))
 | 0,_=>hv
 | c+1,hc=>by
  refine Led.mix (a:=1) (b:=-(vf (aM N_ k P c) (k-1-c)/II N_ (k-1-c) (k-1-c))) (pW h hP hv c ⋯) (h.qu (k-1-c) ⋯) (λi hi=>?_) λl hl=>?_
  .rw[Wl,Zk,WB,Zi];exact UK _
  .rw[oz h hP ⋯ hl];grind
theorem xR(h:yA n m s A k N_)(hP:P.length=m)(hm:k<=m){B:Nat}(hB:60<=B)(hb:Bd B P):∀c,c<=k->Bd (B+62*c) (aM N_ k P c)
 | 0,_=>hb
 | c+1,hc=>by
  have ih:=xR h hP hm hB hb c ⋯;intro x hx;obtain⟨l,hl,rfl⟩:=S9.mp hx;rw[span_len h hP (c+1) hc] at hl;rw[<- aY,oz h hP ⋯ hl];have p:=h.pos (k-1-c) ⋯;have q1:(vf (aM N_ k P c) (k-1-c)/II N_ (k-1-c) (k-1-c)).natAbs<2^(B+62*c+1):=by
   have h1:=ih.vf (k-1-c);have h2:=Ym (vf (aM N_ k P c) (k-1-c)) (II N_ (k-1-c) (k-1-c));rw[aaB];lia
  have q2:(II N_ (k-1-c) l).natAbs<2^60:=(h.bd (j:=k-1-c) ⋯ hm).vf l;have q3:=xg q1 q2;have q4:=ih.vf l;have q5:2^(B+62*c)<=2^(B+62*c+1+60):=U4 ↑12 ⋯;have q6:(2:Nat)^(B+62*(c+1))=2^(B+62*c+1+60)*2:=by rw[<- aaB];congr 1
  rw[q6];lia
end
section
variable{A:Nat->cV}
theorem Tk.order{s:cV}{D D' L:Nat->cV}{u v g:Nat->Int}(t:Tk n s D D' L u v g)(Gd:Good n s D):∀(k d:Nat)(x:Int),d+k=n->G n s D k d (λi=>x*L d i)->bp n (λe=>aS s D e/g e)∣x*bp d (λe=>aS s D e/g e)
 | 0,d,x,hn,h=>by
  obtain rfl:d=n:=by lia
  exact Vh _ _
 | k+1,d,x,hn,h=>by
  have hd:d<n:=by lia
  obtain⟨a,ha⟩:=t.g1 d hd;obtain⟨b,hb⟩:=t.g2 d hd;have gp:=t.gp d hd;have sp:=(Gd.pos hd).1;have e1:aS s D d/g d=a:=by rw[ha];exact Ub a ⋯
  have e2:L d d/g d=b:=by rw[hb];exact Ub b ⋯
  have bz:u d*a+v d*b=1:=by
   have:=t.bz d hd;rw[ha,hb,show u d*(g d*a)+v d*(g d*b)=g d*(u d*a+v d*b) by grind] at this;have h2:g d*(u d*a+v d*b)=g d*1:=by lia
   exact Vb ⋯ h2
  obtain⟨q,hq⟩:=h.1;have hax:a∣x:=by
   have h3:g d*(x*b)=g d*(a*q):=by
    have:x*L d d=aS s D d*q:=hq;rw[hb,ha] at this;grind
   have h4:x*b=a*q:=Vb ⋯ h3;exact⟨u d*x+v d*q,by
    have:x=x*(u d*a+v d*b):=by rw[bz,aaS]
    rw[this];have:x*(u d*a+v d*b)=a*(u d*x)+v d*(x*b):=by grind
    rw[this,h4];grind⟩
  obtain⟨y,hy⟩:=hax;have ON:q=b*y:=by
   have h3:g d*(a*q)=g d*(a*(b*y)):=by
    have:x*L d d=aS s D d*q:=hq;rw[hb,ha,hy] at this;grind
   have ap:a≠0:=by intro z;rw[z,Wl] at ha;lia
   exact Vb ap (Vb ⋯ h3)
  have h2:=h.2;have q1:x*L d d/aS s D d=q:=by
   show x*L d d/aS s D d=q;rw[show x*L d d=aS s D d*q from hq];exact Ub q ⋯
  have:=t.order Gd k (d+1) y ⋯ (Gd.pA ⋯ (λi hi=>?_) h2)
  .rw[bp,e1] at this;rw[hy,show a*y*bp d (λe=>aS s D e/g e)=y*(bp d (λe=>aS s D e/g e)*a) by grind];exact this
  .show s i∣y*L (d+1) i-(x*L d i-x*L d d/aS s D d*D d i);rw[q1,t.Kf d hd i hi,e1,e2];obtain⟨z,hz⟩:=fm (a*L d i+-b*D d i) (s i);refine⟨y*z,?_⟩;have:(a*L d i+-b*D d i)%s i=a*L d i+-b*D d i+s i*z:=by lia
   rw[this,hy,ON];grind
theorem G.sum(Gd:Good n (vf N8) (DD rows)){P:cV}:∀k',(∀l,l<k'->G n (vf N8) (DD rows) n 0 (A l))->G n (vf N8) (DD rows) n 0 (λi=>dH k' λl=>P l*A l i)
 | 0,_=>G.zero ⋯
 |k'+1,h=>G.ext ⋯ (λi _=>rfl) (G.add ⋯ (G.sum Gd k' λl hl=>h l ⋯) (G.mul (P k') ⋯ (h k' ⋯)))
end
def nL(m k:Nat):List Int:=(S1 m).map λl=>if l=k then 1 else 0
def vF{l:Nat}(h:l<m):vf (nL m k) l=if l=k then 1 else 0:=by
 rw[aY (by simp[nL,h])];simp[nL]
def AA(Ls:List (List Int)):Nat->cV:=λl=>vf (Ls.getD l [])
def bH(Ls:List (List Int))(m k:Nat):Row:=(Ls.getD k [],nL m k)
def RK(c:Int->Int->Int×Int)(N8:List Int)(Ls:List (List Int))(n m:Nat):Nat->List Row×List (List Int)
 | 0=>(Sx n (Sx n 0,Sx m 0),[])
 | k+1 =>
  (cp c N8 (RK c N8 Ls n m k).1 (bH Ls m k) n,(RK c N8 Ls n m k).2++[aM (RK c N8 Ls n m k).2 k (aw c N8 (RK c N8 Ls n m k).1 (bH Ls m k) n).2 k])
structure Ln (n m:Nat) (N8:List Int) (Ls:List (List Int)):Prop where
 len:Ls.length=m
 at_:∀l,l<m->(Ls.getD l []).length=n
 kM:∀l,l<m->∀i,i<n->0<=AA Ls l i/\AA Ls l i<vf N8 i
structure Dw (n m:Nat) (N8:List Int) (Ls:List (List Int)) (k:Nat) (r:List Row×List (List Int)):Prop where
 st:St n m N8 (AA Ls) k r.1
 qu:yA n m (vf N8) (AA Ls) k r.2
 pr:bp k (λj=>II r.2 j j)*bp n (aS (vf N8) (DD r.1))=bp n (vf N8)
 ord:∀j,j<k->∀P:cV,Zf (j+1) m P->Led n (vf N8) m (AA Ls) (λ_=>0) P->II r.2 j j∣P j
variable{x:List Int}
section
variable{Ls:List (List Int)}
def ik(h:j<N_.length):II (N_++[x]) j=II N_ j:=by
 unfold II;rw[SJ,TX h,<- SJ]
def jI:II (N_++[x]) N_.length=vf x:=by
 unfold II;rw[SJ,To (SE _)];simp
def CJ(h:j<N_.length):(N_++[x]).getD j []=N_.getD j []:=by
 rw[SJ,TX h,<- SJ]
def A4:(N_++[x]).getD N_.length []=x:=by
 rw[SJ,To (SE _)];simp
theorem pj{f:Nat->Int}{k:Nat}:∀{m:Nat},k<m->(∀l,k<l->l<m->f l=0)->dH m f=dH k f+f k
 | 0,h,_=>by lia
 | m+1,h,e=>by
  rw[dH]
  by_cases z:k=m
  .subst z;rfl
  .rw[pj (m:=m) ⋯ λl h1 h2=>e l h1 ⋯,e m ⋯ ⋯];lia
theorem uT:∀{n:Nat}{f:Nat->Int},(∀i,i<n->0<f i/\f i<=360)->bp n f<=360^n
 | 0,f,_=>by simp[bp]
 | n+1,f,h=>by
  rw[bp,Int.pow_succ];exact Int.mul_le_mul (uT λi hi=>h i ⋯) (h n ⋯).2 (by have:=(h n ⋯).1;lia) (Int.pow_nonneg ↑12)
theorem MH(h:n<=6):(360:Int)^n<=360^6:=by
 have:n=0\/n=1\/n=2\/n=3\/n=4\/n=5\/n=6:=by lia
 rcases this with rfl|rfl|rfl|rfl|rfl|rfl|rfl<;>decide
theorem Dw.next{r:List Row×List (List Int)}(h:Dw n m N8 Ls k r)(LL:Ln n m N8 Ls)(cb:CB c)(hn:n<=6)(hk:k<m):Dw n m N8 Ls (k+1) (cp c N8 r.1 (bH Ls m k) n,r.2++[aM r.2 k (aw c N8 r.1 (bH Ls m k) n).2 k]):=by
 have L:Lv n m N8 (AA Ls) k (bH Ls m k):=⟨LL.at_ k hk,by simp[bH,nL],hk,λi hi=>rfl,LL.kM k hk,λl hl=>vF hl⟩
 have T:=h.st.tk L cb;have ll:=cN (c:=c) h.st.wf h.st.hs L.l1 L.l2 n (SE _);have zf:=tq (c:=c) h.st L n (SE _);have led:=pI (c:=c) h.st L n (SE _);have l0:=T.zero h.st.gd n (SE _);have il:r.2.length=k:=h.qu.len;have out:=u7 h.qu ll.2 k (SE _);have jk:vf (aM r.2 k (aw c N8 r.1 (bH Ls m k) n).2 k) k=bp n λe=>aS (vf N8) (DD r.1) e/(TH (aS (vf N8) (DD r.1) e) (vf (aw c N8 r.1 (bH Ls m k) e).1 e):Nat):=by
  rw[out k (SE _) hk];exact zf.2
 have pos:∀e,e<n->0<aS (vf N8) (DD r.1) e/(TH (aS (vf N8) (DD r.1) e) (vf (aw c N8 r.1 (bH Ls m k) e).1 e):Nat):=λe he=>by
  have p:=h.st.gd.pos he;have s:=h.st.sm e he;exact(jO p.1 ⋯).1
 have pr:bp (k+1) (λj=>II (r.2++[aM r.2 k (aw c N8 r.1 (bH Ls m k) n).2 k]) j j)*bp n (aS (vf N8) (DD (cp c N8 r.1 (bH Ls m k) n)))=bp n (vf N8):=by
  rw[bp,show II (r.2++[aM r.2 k (aw c N8 r.1 (bH Ls m k) n).2 k]) k=vf (aM r.2 k (aw c N8 r.1 (bH Ls m k) n).2 k) by rw[<- il];exact jI];rw[iM (g:=λj=>II r.2 j j) λj hj=>by rw[ik ⋯],<- h.pr,jk];rw[iM (g:=λd=>((TH (aS (vf N8) (DD r.1) d) (vf (aw c N8 r.1 (bH Ls m k) d).1 d):Nat):Int)) λd hd=>T.step h.st.gd hd];rw[rV (f:=aS (vf N8) (DD r.1)) (g:=λd=>((TH (aS (vf N8) (DD r.1) d) (vf (aw c N8 r.1 (bH Ls m k) d).1 d):Nat):Int)) (h:=λe=>aS (vf N8) (DD r.1) e/(TH (aS (vf N8) (DD r.1) e) (vf (aw c N8 r.1 (bH Ls m k) e).1 e):Nat)) λd hd=>(Int.mul_ediv_cancel' (Wg ..)).symm]
  grind
 have jpos:0<vf (aM r.2 k (aw c N8 r.1 (bH Ls m k) n).2 k) k:=by rw[jk];exact j4 pos
 have St':=h.st.next L cb hn;have jle:vf (aM r.2 k (aw c N8 r.1 (bH Ls m k) n).2 k) k<2^60:=by
  have b:bp n (vf N8)<=360^n:=uT λi hi=>⟨h.st.gd.sp i hi,h.st.sm i hi⟩
  have b2:(360:Int)^n<=360^6:=MH hn;have b3:(360:Int)^6<2^60:=by decide
  rw[bp,show II (r.2++[aM r.2 k (aw c N8 r.1 (bH Ls m k) n).2 k]) k=vf (aM r.2 k (aw c N8 r.1 (bH Ls m k) n).2 k) by rw[<- il];exact jI] at pr;have p1:0<bp k (λj=>II (r.2++[aM r.2 k (aw c N8 r.1 (bH Ls m k) n).2 k]) j j):=j4 λj hj=>by rw[ik ⋯];exact h.qu.pos j hj
  have p2:0<bp n (aS (vf N8) (DD (cp c N8 r.1 (bH Ls m k) n))):=j4 λd hd=>(St'.gd.pos hd).1;generalize bp k (λj=>II (r.2++[aM r.2 k (aw c N8 r.1 (bH Ls m k) n).2 k]) j j)=a at *;generalize bp n (aS (vf N8) (DD (cp c N8 r.1 (bH Ls m k) n)))=b' at *;generalize vf (aM r.2 k (aw c N8 r.1 (bH Ls m k) n).2 k) k=x at *;have e1:1*x<=a*x:=Wh ⋯ ⋯;have e2:a*x*1<=a*x*b':=T8 ⋯ ⋯;lia
 refine⟨St',⟨by simp[il],λj hj=>?_,λj hj=>?_,λj hj=>?_,λj hj l h1 h2=>?_,λj hj l hl=>?_,λj hj=>?_⟩,pr,λj hj P hz hP=>?_⟩
 all_goals
  rcases TU j k with q|q
 .rw[CJ ⋯];exact h.qu.l2 j q
 .obtain rfl:j=r.2.length:=by lia
  rw[A4];exact span_len h.qu ll.2 k (SE _)
 .rw[ik ⋯];exact h.qu.pos j q
 .obtain rfl:j=r.2.length:=by lia
  rwa[jI,il]
 .rw[ik ⋯];exact h.qu.le j q
 .obtain rfl:j=r.2.length:=by lia
  rwa[jI,il]
 .rw[ik ⋯];exact h.qu.zero j q l h1 h2
 .obtain rfl:j=r.2.length:=by lia
  rw[jI,out l ⋯ h2];exact zf.1 l ⋯ h2
 .rw[ik ⋯,ik ⋯];exact h.qu.nf j q l hl
 .obtain rfl:j=r.2.length:=by lia
  rw[jI,ik ⋯];exact tR h.qu ll.2 ⋯ k (SE _) l ⋯ ⋯
 .rw[ik ⋯];exact h.qu.qu j q
 .obtain rfl:j=r.2.length:=by lia
  rw[jI];refine pW h.qu ll.2 (λi hi=>?_) k (SE _);have:=led i hi;rwa[show vf (aw c N8 r.1 (bH Ls m k) n).1 i=0 from l0 i hi] at this
 .rw[ik ⋯];exact h.ord j q P hz hP
 .obtain rfl:j=k:=by lia
  rw[show II (r.2++[aM r.2 j (aw c N8 r.1 (bH Ls m j) n).2 j]) j=vf (aM r.2 j (aw c N8 r.1 (bH Ls m j) n).2 j) by rw[<- il];exact jI,jk];have:=T.order h.st.gd n 0 (P j) ⋯ ?_
  .rwa [bp,aaS] at this
  .refine h.st.gd.pA ⋯ (λi hi=>?_) (G.mul (-1) ⋯ (G.sum (A:=AA Ls) (P:=P) h.st.gd j h.st.cl));have e:=hP i hi;rw[pj hk λl h1 h2=>by rw[hz l ⋯ h2,Xe]] at e;obtain⟨x,hx⟩:=e;have hx:(0:Int)-(dH j (λl=>P l*AA Ls l i)+P j*AA Ls j i)=vf N8 i*x:=hx;show vf N8 i∣P j*AA Ls j i - -1*dH j λl=>P l*AA Ls l i;exact⟨-x,by rw[aaV];lia⟩
theorem Dw.start(hs:N8.length=n)(hp:∀i,i<n->0<vf N8 i/\vf N8 i<=360):Dw n m N8 Ls 0 (Sx n (Sx n 0,Sx m 0),[]):=by
 have rw0:∀d,d<n->row (Sx n (Sx n 0,Sx m 0)) d=(Sx n 0,Sx m 0):=λd hd=>by
  rw[iC (by simpa using hd)];simp
 have D0:∀d,d<n->∀i,DD (Sx n (Sx n 0,Sx m 0)) d i=0:=λd hd i=>by
  unfold DD;rw[rw0 d hd];exact c9 n i
 have P0:∀d,d<n->∀i,PP (Sx n (Sx n 0,Sx m 0)) d i=0:=λd hd i=>by
  unfold PP;rw[rw0 d hd];exact c9 m i
 have st:∀d,d<n->aS (vf N8) (DD (Sx n (Sx n 0,Sx m 0))) d=vf N8 d:=λd hd=>by
  unfold aS;rw[if_pos (D0 d hd d)]
 refine⟨⟨⟨by simp,λr hr=>by rw[Vm hr];simp,λr hr=>by rw[Vm hr];simp⟩,hs,λi hi=>(hp i hi).2,⟨λi hi=>(hp i hi).1,λd hd i hi=>?_,λd hd i hi=>D0 d hd i,λd hd=>by rw[st d hd];exact Zg _,λd k hn=>?_⟩,λd hd i hi=>?_,λd hd l _ _=>P0 d hd l,λd hd=>?_,λl hl=>by lia⟩,⟨rfl,λj hj=>by lia,λj hj=>by lia,λj hj=>by lia,λj hj=>by lia,λj hj=>by lia,λj hj=>by lia⟩,?_,λj hj=>by lia⟩
 .rw[D0 d hd i];have:=(hp i hi).1;lia
 .exact G.ext ⋯ (λi hi=>by rw[D0 d ⋯ i,Wl]) (G.zero ⋯)
 .rw[D0 d hd i,gA (g:=λ_=>0) λl hl=>by rw[P0 d hd l,Xe],eV];exact UK _
 .rw[rw0 d hd];intro x hx;rw[Vm hx];exact Vw _
 .rw[bp,WB];exact iM λd hd=>st d hd
theorem Dw.all(hs:N8.length=n)(hp:∀i,i<n->0<vf N8 i/\vf N8 i<=360)(LL:Ln n m N8 Ls)(cb:CB c)(hn:n<=6):∀k,k<=m->Dw n m N8 Ls k (RK c N8 Ls n m k)
 | 0,_=>Dw.start hs hp
 |k+1,hk=>(Dw.all hs hp LL cb hn k ⋯).next LL cb hn ⋯
end
theorem iH{a:Int}(h:b∣a)(h1:-b<a)(h2:a<b):a=0:=by
 obtain⟨c,rfl⟩:=h;rcases aaD c 0 with q|q|q
 .have:b*c<=b*(-1):=T8 ⋯ ⋯;lia
 .rw[q,Wl]
 .have:b*1<=b*c:=T8 ⋯ ⋯;lia
theorem G.diff(Gd:Good n s D):∀k d (v:cV),d+k=n->(∀i,i<n->-(s i)<v i/\v i<s i)->(∀i,d<=i->i<n->-(aS s D i)<v i/\v i<aS s D i)->G n s D k d v->∀i,i<n->v i=0
 | 0,d,v,hn,h0,_,g,i,hi=>iH (g i hi) (h0 i hi).1 (h0 i hi).2
 | k+1,d,v,hn,h0,h1,g,i,hi=>by
  have z:=iH g.1 (h1 d (SE _) ⋯).1 (h1 d (SE _) ⋯).2;refine G.diff Gd k (d+1) v ⋯ h0 (λi hi=>h1 i ⋯) (G.ext ⋯ (λi _=>?_) g.2) i hi;show v i-v d/aS s D d*D d i=v i;rw[z];simp
variable{Q:Int}
section
variable{D:Nat->cV}{w v u:cV}
end
section
variable{D':Nat->cV}
theorem G.at_{j:Nat}:∀{k d:Nat}{v:cV},G n s D k d v->(∀i,d<=i->i<j->v i=0)->d<=j->j<d+k->aS s D j∣v j
 | 0,d,v,_,_,h1,h2=>by lia
 | k+1,d,v,g,h0,h1,h2=>by
  rcases Nat.lt_or_eq_of_le h1 with q|q
  .have z:=h0 d (SE _) q;have e:(λi=>v i-v d/aS s D d*D d i)=v:=by funext i;rw[z];simp
   have g2:=g.2;rw[e] at g2;exact G.at_ g2 (λi a b=>h0 i ⋯ b) ⋯ ⋯
  .subst q;exact g.1
end
theorem xf(g:Good n s D)(low:∀d,d<n->∀e,d<e->e<n->D d e<aS s D e)(hd:d<n)(nz:D d d≠0){x:cV}(hx:∀i,i<n->0<=x i)(gx:G n s D n 0 x)(z:∀i,i<d->x i=0)(p:0<x d):(∀i,i<n->x i=D d i)\/∃e,e<n/\(∀i,i<e->x i=D d i)/\D d e<x e:=by
 have key:∀m,m<=n->(∀i,i<m->x i=D d i)\/∃e,e<n/\(∀i,i<e->x i=D d i)/\D d e<x e:=by
  intro m
  induction m with
  | zero=>exact λ_=>.inl λi hi=>absurd hi (XG i)
  | succ m ih =>
   intro hm;rcases ih ⋯ with h|h
   .by_cases e:x m=D d m
    .exact .inl λi hi=>by
      rcases YA.mp hi with c|c
      .exact h i c
      .rw[c];exact e
    .refine .inr ⟨m,by lia,h,?_⟩;have rm:=g.kM d hd m ⋯;have pm:=g.pos (d:=m) ⋯;rcases Yu m d with c|c|c
     .exact absurd ((z m c).trans (g.v5 d hd m c).symm) e
     .subst c;have dv:=gx.at_ (j:=m) (λi _ hi=>z i hi) (SX _) ⋯;have sm:aS s D m=D m m:=by unfold aS;rw[if_neg nz]
      rw[sm] at dv;have:=aab p dv;lia
     .have gv:=g.sub ⋯ gx (g.row hd ⋯ (SX _));have dv:=gv.at_ (j:=m) (λi _ hi=>by rw[h i hi];lia) (SX _) ⋯;have l:=low d hd m c ⋯;have h0:=hx m ⋯;rcases aaD (D d m) (x m) with q|q|q
      .exact q
      .exact absurd q.symm e
      .exfalso;have:=iH dv ⋯ ⋯;lia
   .exact .inr h
 exact key n (SE n)
theorem yY(g:Good n s D)(hd:d<n)(nz:D d d=0){x:cV}(hx:0<=x d/\x d<s d)(gx:G n s D n 0 x)(z:∀i,i<d->x i=0):x d=0:=by
 have dv:=gx.at_ (j:=d) (λi _ hi=>z i hi) (SX _) ⋯;unfold aS at dv;rw[if_pos nz] at dv;exact iO hx.1 hx.2 dv
end Rg
namespace L2
theorem xB:∀a:List Int,HT.lexLt a a=false
 | []=>rfl
 |x::xs=>by rw[HT.bJ,if_pos rfl];exact xB xs
def CN{a b:List Int}(h:HT.lexLt a b=true):HT.lexLt b a=false:=by
 have:=vv a b;rw[h] at this;simpa using this
theorem CQ:∀{a b:List Int}(e:Nat),a.length=b.length->e<a.length->(∀i,i<e->a.getD i 0=b.getD i 0)->a.getD e 0<b.getD e 0->HT.lexLt a b=true
 | [],_,_,_,he,_,_=>absurd he (XG _)
 | _::_,[],_,hl,_,_,_=>by cases hl
 | x::xs,y::ys,0,_,_,_,lt=>by
  have lt:x<y:=lt;rw[HT.bJ,if_neg ⋯];exact decide_eq_true lt
 | x::xs,y::ys,e+1,hl,he,pre,lt=>by
  have:x=y:=pre 0 (Wk _);rw[HT.bJ,if_pos this];exact CQ e (by simpa using hl) (by simpa using he) (λi hi=>pre (i+1) ⋯) lt
theorem fold_min{r:List Int}:∀(l:List (List Int))(b:List Int),(b=r\/HT.lexLt r b=true)->(∀k∈l,k=r\/HT.lexLt r k=true)->r∈b::l->l.foldl (λb y=>if HT.lexLt y b then y else b) b=r
 | [],b,_,_,m=>by simpa using (S7.mp m).symm
 | y::l,b,hb,hl,m=>by
  rw[Wo];have hy:=hl y SS;have hl':∀k∈l,k=r\/HT.lexLt r k=true:=λk h=>hl k (SO _ h);cases e:HT.lexLt y b with
  | true =>
   rw[if_pos rfl];refine fold_min l y hy hl' ?_;rcases SQ.mp m with c|c
   .exfalso;subst c;rcases hy with c|c
    .rw[c,xB] at e;cases e
    .rw[CN c] at e;cases e
   .exact c
  | false =>
   rw[if_neg ↑12];refine fold_min l b hb hl' ?_;rcases SQ.mp m with c|c
   .exact c▸SS
   .rcases SQ.mp c with c|c
    .subst c;rcases hb with c|c
     .rw[c];exact SS
     .rw[c] at e;cases e
    .exact SO _ c
def Ad{ks:List (List Int)}{r:List Int}(hr:r∈ks)(h:∀k∈ks,k=r\/HT.lexLt r k=true):yi ks=r:=by
 cases ks with
 | nil=>cases hr
 |cons k l=>exact fold_min l k (h k SS) (λy hy=>h y (SO _ hy)) hr
end L2
namespace vX
open PySem L2 PyProof.Rows Rg
local macro_rules|`(tactic| dsimp? [$ts,*])=>do
 let l<-("cI bq az mZ aj vB uB retS a_ mD sG kF ao M.aH M.bind_some M.bind_none M.AZ M.bind_assoc aa ai ah ae ak FI FY Jl Iw JG Jd Jp IQ Hd Hr G5 Ja Ia Jg IV HS cR gM pQ sy Ii BL NR yu kA Lr fN EA itemsOf kL FT F1 sH Fo Fm CC C0 CV yg EO Cv Dr A0 dz cw xH G1 List.length_cons List.length_nil List.map_cons List.map_nil List.cons_append List.nil_append List.replicate List.getElem?_cons_zero List.getElem?_cons_succ List.getElem?_nil List.set_cons_zero List.set_cons_succ List.set_nil Nat.reduceAdd Nat.reduceSub if_true if_false Bool.not_true Bool.not_false Bool.false_eq_true ite_true ite_false reduceIte reduceCtorEq Nat.sub_self kU cH cq Option.map_some Option.map_none wY G8 JC DV EG Ew GP Ey FN Fz jU List.any_cons List.any_nil String.reduceBEq Bool.or_false Bool.or_true Bool.true_or Bool.false_or Bool.and_true Bool.and_false Bool.true_and Bool.false_and DX Fv Iy Hj F3 FO EJ Ei BE Cf iz mT List.foldl_cons List.foldl_nil mI".splitOn " ").toArray.mapM fun n=>`(Lean.Parser.Tactic.simpLemma|$(Lean.mkIdent n.toName):term)
 `(tactic| simp only[$(⟨(Lean.Syntax.TSepArray.ofElems (sep:=",") l).elemsAndSeps⟩),*,ar trivial,$(⟨ts.elemsAndSeps⟩),*])
def mN(i:Int):eR [.int i]=M.ok (.bl true):=by rfl
variable{p:PV}{α:Type}
def ym{inj:α->PV}{h:α->Bool}(xs:List α)(n:Int)(hp:p=.tup (xs.map inj)\/p=.lst (xs.map inj))(H:∀a∈xs,eR [inj a]=M.ok (.bl (h a)))(hz:xs.length<=sizeLine):gC [p,.int n]=M.ok (.bl (decide ((xs.length:Int)=n)&&xs.all h)):=by
 have key:bI (bL 0) none (ah eR (ae (aa 0) ak)) (xs.map inj) [none]=M.ok (xs.map λa=>.bl (h a)):=fK xs λa ha=>by dsimp? [H a ha]
 have key2:vg [.lst (xs.map λa=>.bl (h a))]=M.ok (.bl (xs.all h)):=by
  have:=vt (xs.map h);rw[Ti] at this;rw[show (λa=>PV.bl (h a))=PV.bl∘h from rfl,this];simp[List.all_map]
 unfold gC jM;rcases hp with rfl|rfl
 all_goals
  dsimp? [SG]
  by_cases e:(xs.length:Int)=n
  .simp only[e,decide_true,Bool.not_true,M.aH,T5,if_false,vB,aac];dsimp? [SG,ar hz,key,key2]
  .simp only[e,decide_false,ZW,M.aH,if_true,uB,ZO];dsimp? []
def HL(xs:List Int)(n:Int)(hz:xs.length<=sizeLine):gC [tI xs,.int n]=M.ok (.bl (decide ((xs.length:Int)=n))):=by
 exact(ym (p:=tI xs) (h:=λ_=>true) xs n (.inl rfl) (λa _=>mN a) hz).trans (by rw[Uq.mpr λ_ _=>rfl,aad])
def Jw(xs:List Int)(n:Int)(hz:xs.length<=sizeLine):gC [lI xs,.int n]=M.ok (.bl (decide ((xs.length:Int)=n))):=by
 exact(ym (p:=lI xs) (h:=λ_=>true) xs n (.inr rfl) (λa _=>mN a) hz).trans (by rw[Uq.mpr λ_ _=>rfl,aad])
def within_int(x a b:Int):fk [.int x,.int a,.int b]=M.ok (.bl (decide (a<=x/\x<=b))):=by
 unfold fk fw;dsimp? [mN]
 by_cases h:a<=x
 .simp only[h,decide_true,if_true,true_and];dsimp? []
 .simp only[h,decide_false,false_and];dsimp? []
theorem qC(xs:List Int)(h1:1<=xs.length)(h6:xs.length<=6)(hx:∀x∈xs,2<=x/\x<=360):fR [lI xs]=M.ok .dq:=by
 unfold fR fP;have a1:¬ (6:Int)<xs.length:=by lia
 have a2:¬ (xs.length:Int)=0:=by lia
 dsimp? [a1,a2,decide_false,HE];refine eS xs.zipIdx (λzs env=>(∃b c,env=[some (.sh (lI xs)),b,c])/\∀z∈zs,2<=z.1/\z.1<=360) ⟨⟨_,_,rfl⟩,λz hz=>hx z.1 (Yh hz)⟩ ?_ ?_
 .rintro⟨a,i⟩ r env ⟨⟨b,c,rfl⟩,hz⟩;have ha:=hz (a,i) SS;refine⟨_,[some (.sh (lI xs)),some (.sh (.int i)),some (.sh (.int a))],rfl,?_,⟨_,_,rfl⟩,λz Q2=>hz z (SO _ Q2)⟩;dsimp? [within_int,ha,and_self,decide_true]
 .rintro Od ⟨⟨b,c,rfl⟩,_⟩;rfl
theorem oV(n:Nat)(xs:List (List Int))(h8:xs.length<=8)(hx:∀x∈xs,x.length=n)(hn:n<=100):eX [.lst (xs.map lI),.int n]=M.ok .dq:=by
 unfold eX fe;have a1:¬ (8:Int)<xs.length:=by lia
 dsimp? [a1,decide_false,SG,n_];refine eS xs.zipIdx (λzs env=>(∃b c,env=[some (.sh (.lst (xs.map lI))),some (.sh (.int n)),b,c])/\∀z∈zs,z.1.length=n) ⟨⟨_,_,rfl⟩,λz hz=>hx z.1 (Yh hz)⟩ ?_ ?_
 .rintro⟨a,i⟩ r env ⟨⟨b,c,rfl⟩,hz⟩;have ha:a.length=n:=hz (a,i) SS;refine⟨_,[some (.sh (.lst (xs.map lI))),some (.sh (.int n)),some (.sh (.int i)),some (.sh (lI a))],rfl,?_,⟨_,_,rfl⟩,λz Q2=>hz z (SO _ Q2)⟩;dsimp? [Jw a n (aP ⋯),ha,decide_true]
 .rintro Od ⟨⟨b,c,rfl⟩,_⟩;rfl
def Aj(n:Nat)(p:PV):(Sx n [p]).flatten=Sx n p:=by
 induction n with
 | zero=>rfl
 |succ n ih=>rw[Uh,U8,ih];rfl
theorem mul_one(p:PV)(n:Nat)(h8:n<=1000):eU (.tup [p]) (.int (n:Int))=M.ok (.tup (Sx n p)):=by
 have h2:[p].length*(n:Int).toNat<=sizeLine:=by
  rw[Ud];exact aP (by show 1*n<=1000;lia)
 have h3:(n:Int)<2^63:=Int.lt_of_le_of_lt (Int.ofNat_le.mpr h8) ↑12;have h4:-(2^63)<=(n:Int):=Xd ↑12 (Int.natCast_nonneg n);rw[eU,ar ⟨rfl,h4,h3,h2⟩,Ud,Aj]
theorem ki(xs:List PV)(h8:xs.length<=8):fQ [.lst xs,.dq]=M.ok (tI (Sx xs.length 1)):=by
 unfold fQ fS;dsimp? [zO,xO,mul_one (.int 1) xs.length ⋯];rw[tI,Wm]
def z9(xs N8:List Int):List Int:=(xs.zip N8).map λz=>z.1%z.2
def uz(p q:PV)(xs N8:List Int)(hp:bX p=some (xs.map PV.int))(hq:bX q=some (N8.map PV.int))(hs:∀s∈N8,0<s)(hz:xs.length<=1000):j6 [p,q]=M.ok (tI (z9 xs N8)):=by
 have key:bI (bT 0 1) none (ai gy (aa 0) (aa 1)) ((xs.zip N8).map λz=>.tup [.int z.1,.int z.2]) [none,none]=M.ok ((xs.zip N8).map λz=>.int (z.1%z.2)):=by
  refine qp (p:=λz:Int×Int=>PV.int z.1) (q:=λz:Int×Int=>PV.int z.2) (xs.zip N8) λz hz=>?_;have:=hs z.2 (UD (a:=z.1) (b:=z.2) hz).2;dsimp? [bG this]
 unfold j6 lH;have hl:(xs.zip N8).length<=sizeLine:=by rw[UW];exact aP (Ug (XJ _ _) hz)
 dsimp? [lD xs N8 hp hq,SG,ar hl,key];rw[tI,z9,Ti];rfl
def xm(a b c:PV):aA (.tup [a,b,c]) (.int 0)=M.ok a:=aX (j:=0) rfl rfl
def IB(a b c:PV):aA (.tup [a,b,c]) (.int 1)=M.ok b:=aX (j:=1) rfl rfl
def JK(a b c:PV):aA (.tup [a,b,c]) (.int 2)=M.ok c:=aX (j:=2) rfl rfl
theorem rC(a b:Int)(ha:a.natAbs<2^60)(hb:b.natAbs<2^60):∃s t,fy [.int a,.int b]=M.ok (.tup [.int (TH a b),.int s,.int t])/\s*a+t*b=TH a b/\s.natAbs<=b.natAbs+1/\t.natAbs<=a.natAbs+(b.natAbs+1)*a.natAbs+b.natAbs+1:=by
 let J:af->Prop:=λenv=>∃r s t r' s' t' x y,env=[some (.sh (.int a)),some (.sh (.int b)),some (.sh ((PV.tup [PV.int r,PV.int s,PV.int t]))),some (.sh ((PV.tup [PV.int r',PV.int s',PV.int t']))),x,y]/\Eu.St a b r s t r' s' t'
 let m:af->Nat:=λenv=>match env with
  | [_,_,_,some (.sh (.tup [.int r,_,_])),_,_]=>r.natAbs
  | _=>0
 have hk:(b.natAbs+1)*a.natAbs<=2^60*2^60:=ZZ ⋯ ⋯;have hk2:(2:Nat)^60*2^60=2^120:=by decide
 have start:J [some (.sh (.int a)),some (.sh (.int b)),some (.sh ((PV.tup [PV.int a,PV.int 1,PV.int 0]))),some (.sh ((PV.tup [PV.int b,PV.int 0,PV.int 1]))),none,none]:=⟨_,_,_,_,_,_,_,_,rfl,Eu.start a b⟩
 have loop:=rD (u:=cR (ai nv (ai aA (aa 3) (λ_=>M.ok (.int 0))) (λ_=>M.ok (.int 0)))) (b:=(aj (a_ 4 (ai cG (ai aA (aa 2) (λ_=>M.ok (.int 0))) (ai aA (aa 3) (λ_=>M.ok (.int 0)))))
  (aj (a_ 5 (kX (ae (ai nP (ai aA (aa 2) (λ_=>M.ok (.int 0))) (ai eU (aa 4) (ai aA (aa 3) (λ_=>M.ok (.int 0))))) (ae (ai nP (ai aA (aa 2) (λ_=>M.ok (.int 1))) (ai eU (aa 4) (ai aA (aa 3) (λ_=>M.ok (.int 1))))) (ae (ai nP (ai aA (aa 2) (λ_=>M.ok (.int 2))) (ai eU (aa 4) (ai aA (aa 3) (λ_=>M.ok (.int 2))))) ak)))))
  (aj (a_ 2 (aa 3))
  (aj (a_ 3 (aa 5))
  ao))))) J m ?_ _ start
 .obtain⟨Od,e1,⟨r,s,t,r',s',t',x,y,rfl,st⟩,e2⟩:=loop;have hr':r'=0:=by
   revert e2;dsimp? [xm];intro e2;have:(!decide (r'=0))=false:=by injection e2 with e2;injection e2
   simpa using this
  subst hr';obtain⟨d1,d2⟩:=Eu.done st;have hg:(r.natAbs:Int)=TH a b:=by
   have h1:r.natAbs∣TH a b:=Int.dvd_gcd (Int.natAbs_dvd.mpr d1) (Int.natAbs_dvd.mpr d2);have h2:((TH a b:Nat):Int)∣r:=by
    rw[st.c0];exact ZY (VD (Wg ..) (Vh _ _)) (VD (aaC ..) (Vh _ _))
   have h3:TH a b∣r.natAbs:=Int.ofNat_dvd_left.mp h2;rw[Nat.dvd_antisymm h1 h3]
  unfold fy jT;dsimp? [];rw[e1];dsimp? [xm,IB,JK]
  by_cases hneg:r<0
  .refine⟨-s,-t,?_,?_,by rw[Xc];exact st.b0,by rw[Xc];exact st.d0⟩
   .simp only[hneg,decide_true,if_true];dsimp? [];rw[show -r=(TH a b:Int) by lia]
   .have:=st.c0;rw[aaX,aaX];lia
  .refine⟨s,t,?_,?_,st.b0,st.d0⟩
   .simp only[hneg,decide_false,T5,if_false];dsimp? [];rw[show r=(TH a b:Int) by lia]
   .have:=st.c0;lia
 .rintro env ⟨r,s,t,r',s',t',x,y,rfl,st⟩
  by_cases h0:r'=0
  .refine .inl ?_;dsimp? [xm];simp[h0]
  .refine .inr ⟨?_,?_⟩
   .dsimp? [xm];simp[h0]
   .obtain⟨Om,lt⟩:=Eu.turn st h0;have b1:=st.m1;have b0:=st.m0;have c1:=st.b1;have c2:=st.d1;have c3:=Om.m1;have q1:(r.fdiv r').natAbs<=r.natAbs+1:=by
     obtain⟨f1,f2,f3⟩:=Eu.rn r r' h0;generalize r.fdiv r'=q at *;have e:q*r'=r-(r-q*r'):=by lia
     have e2:(q*r').natAbs<=r.natAbs+(r-q*r').natAbs:=by lia
     rw[WA] at e2;have:q.natAbs*1<=q.natAbs*r'.natAbs:=Vy _ ⋯;rcases TU (r.natAbs+1) q.natAbs with h|h
     .have h5:(r.natAbs+2)*r'.natAbs<=q.natAbs*r'.natAbs:=XA _ ⋯;have h6:r.natAbs*1<=r.natAbs*r'.natAbs:=Vy _ ⋯;rw[aaW] at h5;lia
     .exact h
    have q2:(r.fdiv r').natAbs<2^200:=by lia
    refine⟨[some (.sh (.int a)),some (.sh (.int b)),some (.sh ((PV.tup [PV.int r',PV.int s',PV.int t']))),some (.sh ((PV.tup [PV.int (r-r.fdiv r'*r'),PV.int (s-r.fdiv r'*s'),PV.int (t-r.fdiv r'*t')]))),some (.sh (.int (r.fdiv r'))),some (.sh ((PV.tup [PV.int (r-r.fdiv r'*r'),PV.int (s-r.fdiv r'*s'),PV.int (t-r.fdiv r'*t')])))],?_,⟨_,_,_,_,_,_,_,_,rfl,Om⟩,lt⟩;dsimp? [xm,IB,JK,mE h0 (S8 (show r'.natAbs<2^200 by lia) (U4 ↑12 ↑12)),cO (k:=200) (l:=200) q2 (show r'.natAbs<2^200 by lia),cO (k:=200) (l:=200) q2 (show s'.natAbs<2^200 by lia),cO (k:=200) (l:=200) q2 (show t'.natAbs<2^200 by lia)]
def R(N8:List Int):Int:=(Lc.KW (N8.map WH):Nat)
structure Sz (N8:List Int):Prop where
 h1:1<=N8.length
 h6:N8.length<=6
 hx:∀x∈N8,2<=x/\x<=360
structure Acc (N8 r:List Int) (acc:Nat):Prop where
 pos:0<acc
 le:acc<=2^(9*(6-r.length))
 len:r.length<=6
 val:(r.map WH).foldl Zh acc=Lc.KW (N8.map WH)
 kM:∀x∈r,2<=x/\x<=360
variable{N8:List Int}
def Acc.start(h:Sz N8):Acc N8 N8 1:=⟨by decide,Nat.one_le_two_pow,h.h6,rfl,h.hx⟩
variable{acc:Nat}
theorem Acc.lt{r:List Int}(h:Acc N8 r acc):acc<2^60:=by
 have h2:(2:Nat)^(9*(6-r.length))<=2^54:=U4 ↑12 ⋯;have:=h.le;lia
theorem Acc.turn{r:List Int}{x:Int}(h:Acc N8 (x::r) acc):Acc N8 r (Zh acc x.toNat)/\(acc:Int)/(TH acc x:Nat)*x=(Zh acc x.toNat:Nat)/\(acc:Int)/(TH acc x:Nat)<=acc/\0<TH acc x:=by
 have hx:=h.kM x SS;have hp:=h.pos;obtain⟨n,rfl⟩:=Vs (show 0<=x by lia);have hg:TH (acc:Int) (n:Int)=Nat.gcd acc n:=rfl;refine⟨⟨Nat.lcm_pos hp ⋯,?_,?_,h.val,λy hy=>h.kM y (SO _ hy)⟩,?_,?_,?_⟩
 .have h1:Zh acc n<=acc*n:=Nat.le_of_dvd (Nat.mul_pos hp ⋯) (Nat.lcm_dvd (Nat.dvd_mul_right ..) (Nat.dvd_mul_left ..));have h2:acc*n<=2^(9*(6-(r.length+1)))*2^9:=ZZ h.le ⋯;have hl:r.length+1<=6:=h.len;rw[<- Nat.pow_add,show 9*(6-(r.length+1))+9=9*(6-r.length) by lia] at h2;exact Ug h1 h2
 .have hl:r.length+1<=6:=h.len;lia
 .rw[hg,Ud,<- Lc.BD];norm_cast
 .rw[hg];exact Int.ofNat_le.mpr (Nat.div_le_self acc (Nat.gcd acc n))
 .rw[hg];exact Nat.gcd_pos_of_pos_left _ hp
theorem gU(N8:List Int)(h:Sz N8):e9 [lI N8]=M.ok (.int (R N8)):=by
 unfold e9 eW;dsimp? [];refine eS N8 (λr env=>∃acc x,env=[some (.sh (lI N8)),some (.sh (.int (acc:Nat))),x]/\Acc N8 r acc) ⟨1,_,rfl,.start h⟩ ?_ ?_
 .rintro a r env ⟨acc,x,rfl,A⟩;obtain⟨A2,e1,e2,e3⟩:=A.turn;have l1:=A.lt;have ha:=A.kM a SS;obtain⟨s,t,ec,_,_,_⟩:=rC (acc:Int) a ⋯ ⋯;have g1:TH acc a<=acc:=Nat.le_of_dvd A.pos (Int.ofNat_dvd.mp (Wg ..));have d0:0<=(acc:Int)/(TH acc a:Nat):=VT ⋯ ⋯;refine⟨_,[some (.sh (lI N8)),some (.sh (.int (Zh acc a.toNat:Nat))),some (.sh (.int a))],rfl,?_,_,_,rfl,A2⟩;dsimp? [ec,xm,cA (i:=(acc:Int)) (show (0:Int)<(TH acc a:Nat) by lia) (show ((TH acc a:Nat):Int)<2^64 by lia),cO (k:=64) (l:=64) (show ((acc:Int)/(TH acc a:Nat)).natAbs<2^64 by lia) (show a.natAbs<2^64 by lia),e1]
 .rintro Od ⟨acc,x,rfl,A⟩;dsimp? [];have:=A.val;rw[R,<- this];rfl
def ux(N8:List Int)(levers:List (List Int)):List (Str×PV):=[("dial_sizes",tI N8),("lever_settings",.tup (levers.map tI)),("lever_prices",tI (Sx levers.length 1)),("least_round",.int (R N8))]
def jr(N8:List Int)(levers:List (List Int)):PV:=.obj aC (ux N8 levers)
structure Kk (N8 xs:List Int):Prop where
 len:xs.length=N8.length
 kM:∀z∈xs.zip N8,0<=z.1/\z.1<z.2
theorem uZ(f:Str)(p:PV):∀fs:List (Str×PV),(ug f p fs).length<=fs.length+1
 | []=>by simp[ug]
 | (g,q)::r=>by
  have:=uZ f p r;unfold ug
  split
  .simp
  .simp;lia
variable{n:Nat}
theorem iY{f:Str}{fs:List (Str×PV)}(h:fs.length<=n):(ug f p fs).length<=n+1:=Ug (uZ f p fs) ⋯
def jh(a C:Addr)(f:Str)(p:PV)(fs:List (Str×PV))(r:af)(h:fs.length<1000):BP 0 C f p (some (.bd a C fs)::r)=M.ok (.nx (some (.bd a C (ug f p fs))::r)):=by
 show cM _ _=_;rw[ar ⟨rfl,h⟩];rfl
theorem Ez(N8:List Int)(levers:List (List Int))(h:Sz N8)(h8:levers.length<=8)(hl:∀l∈levers,l.length=N8.length):jD aC gZ [.dq] [lI N8,.lst (levers.map lI)]=M.ok (jr N8 (levers.map λl=>z9 l N8)):=by
 have key:∀a,gZ a ([lI N8,.lst (levers.map lI)]++[.dq])=M.ok (ux N8 (levers.map λl=>z9 l N8)):=by
  intro a;have e1:bI (bL 0) none (ah j6 (ae (aa 0) (ae (aa 1) ak))) (levers.map lI) [none,some (.sh (lI N8))]=M.ok (levers.map λl=>tI (z9 l N8)):=by
   refine fK levers λl hm=>?_;have hs:=hl l hm;have:=uz (lI l) (lI N8) l N8 rfl rfl (λs hs=>by have:=h.hx s hs;lia) (by rw[hs];have:=h.h6;lia);dsimp? [this]
  unfold gZ jo;simp only[uc];rw[ar (show ([lI N8,PV.lst (levers.map lI)]++[PV.dq]).length+1=4 from rfl)];simp only[za,yv];dsimp? [qC N8 h.h1 h.h6 h.hx,oV N8.length levers h8 hl (by have:=h.h6;lia),kW,SG,ar (aP (show levers.length<=1000 by lia)),e1,ki _ (show (levers.map lI).length<=8 by rwa[SG]),gU N8 h];rw[jh _ _ _ _ _ _ ↑13];dsimp? [kW,SG,ar (aP (show levers.length<=1000 by lia)),e1,ki _ (show (levers.map lI).length<=8 by rwa[SG]),gU N8 h];rw[jh _ _ _ _ _ _ (UY (iY (SX 0)) ↑12)];dsimp? [kW,SG,ar (aP (show levers.length<=1000 by lia)),e1,ki _ (show (levers.map lI).length<=8 by rwa[SG]),gU N8 h];rw[jh _ _ _ _ _ _ (UY (iY (iY (SX 0))) ↑12)];dsimp? [kW,SG,ar (aP (show levers.length<=1000 by lia)),e1,ki _ (show (levers.map lI).length<=8 by rwa[SG]),gU N8 h];rw[jh _ _ _ _ _ _ (UY (iY (iY (iY (SX 0)))) ↑12)];dsimp? [];show cM _ _=_;rw[ar ⟨rfl,rfl⟩];rw[ux,Ti,SG];rfl
 unfold jD;rw[Bx key];rfl
def AJ(N8:List Int)(levers:List (List Int)):(ux N8 levers).lookup (Tp "dial_sizes")=some (tI N8):=rfl
def zT(N8:List Int)(levers:List (List Int)):(ux N8 levers).lookup (Tp "lever_settings")=some (.tup (levers.map tI)):=rfl
def Lz(N8:List Int)(levers:List (List Int)):(ux N8 levers).lookup (Tp "sizes")=none:=rfl
def Kc(N8:List Int)(levers:List (List Int)):(ux N8 levers).lookup (Tp "levers")=none:=rfl
def vj(N8:List Int)(levers:List (List Int)):bu [jr N8 levers]=M.ok (tI N8):=by
 unfold bu bR;dsimp? [fq,jr,beq_self_eq_true,AJ]
def yW(N8:List Int)(levers:List (List Int)):bS [jr N8 levers]=M.ok (.tup (levers.map tI)):=by
 unfold bS cy;dsimp? [fq,jr,beq_self_eq_true,zT]
variable{levers:List (List Int)}
def om{g:af->M PV}{env:af}(h:g env=M.ok (jr N8 levers)):bV aC "sizes" bu g ak env=M.ok (tI N8):=by
 have:=vj N8 levers;rw[bV,h,M.aH];show cM _ (M.bind (ak env) _)=_;rw[ar ⟨rfl,Lz N8 levers⟩];exact this
def pK{g:af->M PV}{env:af}(h:g env=M.ok (jr N8 levers)):bV aC "levers" bS g ak env=M.ok (.tup (levers.map tI)):=by
 have:=yW N8 levers;rw[bV,h,M.aH];show cM _ (M.bind (ak env) _)=_;rw[ar ⟨rfl,Kc N8 levers⟩];exact this
def EZ(N8 xs:List Int):Bool:=decide ((xs.length:Int)=N8.length)&&(xs.zip N8).all λz=>decide (0<=z.1/\z.1<z.2)
variable{xs:List Int}
theorem EN:EZ N8 xs=true ↔ Kk N8 xs:=by
 unfold EZ;constructor
 .intro h;simp only[Ui,decide_eq_true_eq,Uq] at h;exact⟨by lia,h.2⟩
 .intro h;simp only[Ui,decide_eq_true_eq,Uq];exact⟨by rw[h.len],h.kM⟩
def AS(x s:Int):∀env:af,env=[some (.sh (.int x)),some (.sh (.int s))]->fN AI z_ (λ_=>M.ok (.int 0)) (aa 0) (aa 1) env=M.ok (.bl (decide (0<=x/\x<s))):=by
 rintro env rfl;dsimp? []
 by_cases h:0<=x
 .simp only[h,decide_true,if_true,true_and]
  try dsimp? []
 .simp only[h,decide_false,false_and]
  try dsimp? []
def Jo(h:α->Bool)(xs:List α):vg [.lst (xs.map λa=>.bl (h a))]=M.ok (.bl (xs.all h)):=by
 have:=vt (xs.map h);rw[Ti] at this;rw[show (λa=>PV.bl (h a))=PV.bl∘h from rfl,this];simp[List.all_map]
def wU(h:Sz N8)(xs:List Int)(hz:xs.length<=1000):f7 [jr N8 levers,tI xs]=M.ok (.bl (EZ N8 xs)):=by
 have key:bI (bT 0 1) none (fN AI z_ (λ_=>M.ok (.int 0)) (aa 0) (aa 1)) ((xs.zip N8).map λz=>.tup [.int z.1,.int z.2]) [none,none]=M.ok ((xs.zip N8).map λz=>.bl (decide (0<=z.1/\z.1<z.2))) :=
  qp (p:=λz:Int×Int=>PV.int z.1) (q:=λz:Int×Int=>PV.int z.2) (xs.zip N8) λz hz=>AS z.1 z.2 _ rfl
 have hl:(xs.zip N8).length<=sizeLine:=by rw[UW];exact aP (Ug (XJ _ _) hz)
 unfold f7 fV;dsimp? [om (N8:=N8) (levers:=levers) (g:=aa 0) (env:=[some (.sh (jr N8 levers)),some (.sh (tI xs)),none]) rfl,HL xs N8.length (aP hz)];unfold EZ
 by_cases e:(xs.length:Int)=N8.length
 .simp only[e,decide_true,Bool.not_true,T5,if_false,aac];dsimp? [lD (p:=tI xs) (q:=tI N8) xs N8 rfl rfl,SG,ar hl,key,Jo]
 .simp only[e,decide_false,ZW,if_true,ZO];dsimp? []
theorem FZ(h:Sz N8)(hs:Kk N8 xs):eE [jr N8 levers,tI xs]=M.ok .dq:=by
 unfold eE ef;dsimp? [wU (levers:=levers) h xs (by rw[hs.len];have:=h.h6;lia),EN.mpr hs]
def BH(xs N8:List Int):z9 xs N8=yG xs N8:=rfl
def cf(a b:Int):Int×Int:=open Classical in if h:∃p:Int×Int,fy [.int a,.int b]=M.ok (.tup [.int (TH a b),.int p.1,.int p.2])/\p.1*a+p.2*b=TH a b/\p.1.natAbs<=b.natAbs+1/\p.2.natAbs<=a.natAbs+(b.natAbs+1)*a.natAbs+b.natAbs+1 then h.choose else (0,0)
def GB(a b:Int)(ha:a.natAbs<2^60)(hb:b.natAbs<2^60):fy [.int a,.int b]=M.ok (.tup [.int (TH a b),.int (cf a b).1,.int (cf a b).2])/\(cf a b).1*a+(cf a b).2*b=TH a b/\(cf a b).1.natAbs<=b.natAbs+1/\(cf a b).2.natAbs<=a.natAbs+(b.natAbs+1)*a.natAbs+b.natAbs+1:=by
 have h:∃p:Int×Int,fy [.int a,.int b]=M.ok (.tup [.int (TH a b),.int p.1,.int p.2])/\p.1*a+p.2*b=TH a b/\p.1.natAbs<=b.natAbs+1/\p.2.natAbs<=a.natAbs+(b.natAbs+1)*a.natAbs+b.natAbs+1:=by
  obtain⟨s,t,h⟩:=rC a b ha hb;exact⟨(s,t),h⟩
 unfold cf;rw[dif_pos h];exact h.choose_spec
theorem AY:CB cf:=λa b h1 h2 h3 h4=>by
 obtain⟨_,e,b1,b2⟩:=GB a b ⋯ ⋯;refine⟨e,by lia,?_⟩;have:(b.natAbs+1)*a.natAbs<=361*360:=ZZ ⋯ ⋯;lia
def mk(r:Row):PV:=.tup [tI r.1,tI r.2]
def pJ(r:Row):aA (mk r) (.int 0)=M.ok (tI r.1):=aX (p:=mk r) (j:=0) rfl rfl
def De(r:Row):aA (mk r) (.int 1)=M.ok (tI r.2):=aX (p:=mk r) (j:=1) rfl rfl
variable{i:Nat}
def iB(h:i<xs.length):aA (tI xs) (.int (i:Int))=M.ok (.int (vf xs i)) :=
 aX (p:=tI xs) rfl (by rw[Te,Sy h,aY h];rfl)
variable{d:Nat}{rows:List Row}
def vQ(h:d<rows.length):aA (.lst (rows.map mk)) (.int (d:Int))=M.ok (mk (row rows d)) :=
 aX (p:=.lst (rows.map mk)) rfl (by rw[Te,Sy h,iC h];rfl)
def oO{A B:Nat}(p q:PV)(xs ys:List Int)(a b:Int)(hp:bX p=some (xs.map PV.int))(hq:bX q=some (ys.map PV.int))(hx:Bd B xs)(hy:Bd B ys)(ha:a.natAbs<2^A)(hb:b.natAbs<2^A)(hB:B<=9000)(hA:A<=9000)(hz:xs.length<=1000):j0 [p,.int a,q,.int b]=M.ok (tI (nN xs a ys b)):=by
 have key:bI (bT 0 1) none (ai gH (ai eU (aa 2) (aa 0)) (ai eU (aa 3) (aa 1))) ((xs.zip ys).map λz=>.tup [.int z.1,.int z.2]) [none,none,some (.sh (.int a)),some (.sh (.int b))]=M.ok ((xs.zip ys).map λz=>.int (a*z.1+b*z.2)):=by
  refine qp (p:=λz:Int×Int=>PV.int z.1) (q:=λz:Int×Int=>PV.int z.2) (xs.zip ys) λz hz=>?_;have m:=UD (a:=z.1) (b:=z.2) hz;dsimp? [cO (k:=A) (l:=B) ha (hx _ m.1) hA hB,cO (k:=A) (l:=B) hb (hy _ m.2) hA hB]
 have hl:(xs.zip ys).length<=sizeLine:=by rw[UW];exact aP (Ug (XJ _ _) hz)
 unfold j0 me;dsimp? [lD xs ys hp hq,SG,ar hl,key];rw[tI,nN,Ti];rfl
variable{r:Row}
theorem wd{A B:Nat}{q:Row}{a b:Int}(hs:∀s∈N8,0<s)(h1:Bd B r.1)(h2:Bd B r.2)(h3:Bd B q.1)(h4:Bd B q.2)(ha:a.natAbs<2^A)(hb:b.natAbs<2^A)(hB:B<=9000)(hA:A<=9000)(z1:r.1.length<=100)(z2:r.2.length<=100):dc [tI N8,mk r,.int a,mk q,.int b]=M.ok (mk (qt N8 r a q b)):=by
 unfold dc et;dsimp? [pJ,De,oO (tI r.1) (tI q.1) r.1 q.1 a b rfl rfl h1 h3 ha hb hB hA ⋯,oO (tI r.2) (tI q.2) r.2 q.2 a b rfl rfl h2 h4 ha hb hB hA ⋯,uz (tI (nN r.1 a q.1 b)) (tI N8) (nN r.1 a q.1 b) N8 rfl rfl hs (by rw[bK];lia)];rfl
variable{m:Nat}
theorem sO(w:Wf n m rows)(hs:N8.length=n)(hd:d<n):cY [tI N8,.lst (rows.map mk),.int (d:Int)]=M.ok (.int (aS (vf N8) (DD rows) d)):=by
 unfold cY dS;have e1:=w.oj hd;dsimp? [vQ (rows:=rows) (d:=d) (by rwa[w.len]),pJ,iB (xs:=(row rows d).1) (i:=d) ⋯];unfold aS
 by_cases z:DD rows d d=0
 .have z':vf (row rows d).1 d=0:=z;simp only[z',z,decide_true,if_true];dsimp? [iB (xs:=N8) (i:=d) ⋯]
 .have z':¬ vf (row rows d).1 d=0:=z;simp only[z',z,decide_false,T5,if_false];dsimp? [];rfl
def drop_cons{xs:List α}{a:α}{r:List α}(h:xs.drop d=a::r):d<xs.length/\xs[d]?=some a/\xs.drop (d+1)=r:=by
 have hd:d<xs.length:=by
  rcases TU d xs.length with q|q
  .exact q
  .rw[Wj q] at h;cases h
 rw[Va hd] at h;injection h with h1 h2
 exact⟨hd,by rw[Sy hd,h1],h2⟩
def de(env:af):gO ak env=M.ok []:=by
 simp only[gO,ak,M.aH];exact if_pos (SX _)
def uj{f:af->M PV}{env:af}{xs:List PV}(h:env[i]?=some (some (.ow xs)))(hf:f env=M.ok p)(hz:xs.length<1000):jc i f env=M.ok (.nx (env.set i (some (.ow (xs++[p]))))):=by
 unfold jc;rw[h];show M.bind (f env) _=_;rw[hf,M.aH,if_pos (ni (Vz hz))]
theorem uu(hl:xs.length=n)(h:∀i,i<n->0<=vf xs i/\vf xs i<vf N8 i)(hs:∀i,i<n->vf N8 i<=360):Bd 9 xs:=λx hx=>by
 obtain⟨i,hi,rfl⟩:=S9.mp hx;have h1:=h i ⋯;have h2:=hs i ⋯;rw[aY hi] at h1;lia
theorem DH{a b:Int}(h1:-1000<=a)(h2:a<=1000)(h3:-1000<=b)(h4:b<=1000):yP [.int a,.int b]=M.ok ((S1 (b-a).toNat).map λ(i:Nat)=>.int (a+(i:Int))):=by
 have h:-(2^62)<=a/\a<2^62/\-(2^62)<=b/\b<2^62:=by lia
 show cM (-(2^62)<=a/\a<2^62/\-(2^62)<=b/\b<2^62) _=_;rw[ar h]
variable{k:Nat}
section
variable{A:Nat->cV}{left:Row}
def St.Bt(h:St n m N8 A k rows)(hd:d<n):Bd 9 (row rows d).1:=uu (h.wf.oj hd) (λi hi=>h.gd.kM d hd i hi) h.sm
def Df(h:St n m N8 A k rows):∀s∈N8,0<s:=λs hs=>by
 obtain⟨i,hi,rfl⟩:=S9.mp hs;have:=h.gd.sp i (by rwa[<- h.hs])
 rwa [aY hi] at this
theorem AH(h:St n m N8 A k rows)(L:Lv n m N8 A k left)(hn:n<=6)(hm:m<=8):iZ [tI N8,.lst (rows.map mk),mk left]=M.ok (.tup [.lst ((cp cf N8 rows left n).map mk),tI (aw cf N8 rows left n).2]):=by
 have rl:=h.wf.len;have hkm:=L.km;unfold iZ iX;dsimp? [de,n_];refine eS rows.zipIdx (λzs env=>∃d x4 x5 x6 x7 x8,d<=n/\rows.zipIdx.drop d=zs/\env=[some (.sh (tI N8)),some (.sh (.lst (rows.map mk))),some (.sh (mk (aw cf N8 rows left d))),some (.ow ((cp cf N8 rows left d).map mk)),x4,x5,x6,x7,x8]) ⟨0,none,none,none,none,none,SX _,rfl,rfl⟩ ?_ ?_
 .rintro⟨a,i⟩ zs env ⟨d,x4,x5,x6,x7,x8,hd,Qh,rfl⟩;obtain⟨h1,h2,h3⟩:=drop_cons Qh;rw[TV,rl] at h1;have h4:a=row rows d/\i=d:=by
   rw[List.getElem?_zipIdx] at h2;rw[iC (by rwa[rl])];rw[Sy (by rwa[rl])] at h2;simp at h2;exact⟨h2.1.symm,h2.2.symm⟩
  obtain⟨rfl,rfl⟩:=h4;have ll:=cN (c:=cf) h.wf h.hs L.l1 L.l2 i ⋯;have lk:=kd (c:=cf) h L i ⋯;have lb:=oq (c:=cf) h L hn i ⋯;have st:=h.gd.pos h1;have sm:=h.sm i h1;have nt:=lk i h1;have e1:=h.wf.oj h1;have e2:=h.wf.at2 h1;generalize OV:aS (vf N8) (DD rows) i=Oc at *;generalize hnt:vf (aw cf N8 rows left i).1 i=nt' at *;obtain⟨c1,c2,c3,c4⟩:=GB Oc nt' ⋯ ⋯;have cb:=AY Oc nt' st.1 ⋯ nt.1 ⋯;have gp:=fW (b:=nt') st.1;have gl:(TH Oc nt':Int)<=Oc:=aab st.1 (Wg ..);have a1:=jO (b:=nt') st.1 ⋯;have a2:=mh (b:=nt') st.1 nt.1 ⋯;have B1:Bd 1300 (row rows i).1:=(St.Bt h h1).mono ⋯;have B2:Bd 1300 (row rows i).2:=(h.bd i h1).mono ⋯;have B3:Bd 1300 (aw cf N8 rows left i).1:=(uu ll.1 lk h.sm).mono ⋯;have B4:Bd 1300 (aw cf N8 rows left i).2:=lb.mono ⋯;have w1:=wd (A:=20) (N8:=N8) (Df h) B1 B2 B3 B4 cb.2.1 cb.2.2 ↑12 ↑12 ⋯ ⋯;have w2:=wd (A:=20) (N8:=N8) (a:=Oc/(TH Oc nt':Nat)) (b:=-(nt'/(TH Oc nt':Nat))) (Df h) B3 B4 B1 B2 ⋯ ⋯ ↑12 ↑12 ⋯ ⋯;have ew:dN cf N8 rows left i=qt N8 (row rows i) (cf Oc nt').1 (aw cf N8 rows left i) (cf Oc nt').2:=by
   simp only[dN,OV,hnt]
  have el:aw cf N8 rows left (i+1)=qt N8 (aw cf N8 rows left i) (Oc/(TH Oc nt':Nat)) (row rows i) (-(nt'/(TH Oc nt':Nat))):=by
   simp only[aw,OV,hnt]
  refine⟨_,[some (.sh (tI N8)),some (.sh (.lst (rows.map mk))),some (.sh (mk (aw cf N8 rows left (i+1)))),some (.ow ((cp cf N8 rows left (i+1)).map mk)),some (.sh (.int i)),some (.sh (mk (row rows i))),some (.sh (.int Oc)),some (.sh (.int nt')),some (.sh (.tup [.int (TH Oc nt'),.int (cf Oc nt').1,.int (cf Oc nt').2]))],rfl,?_,i+1,_,_,_,_,_,by lia,h3,rfl⟩;have sok:=sO h.wf h.hs h1;rw[OV] at sok;have nok:=iB (xs:=(aw cf N8 rows left i).1) (i:=i) ⋯;rw[hnt] at nok;dsimp? [sok,pJ,nok,c1];rw[uj (i:=3) rfl (p:=mk (dN cf N8 rows left i)) (by dsimp? [IB,JK,w1,ew]) (by simp[cp];lia)];dsimp? [xm,cA (i:=Oc) gp ⋯,cA (i:=nt') gp ⋯,w2,el];rw[cp,cp,List.range_succ,Vx,Vx];rfl
 .rintro env ⟨d,x4,x5,x6,x7,x8,hd,Qh,rfl⟩;have Rl:d=n:=by
   have:=congrArg Xx Qh;rw[VE,TV,rl] at this;simp at this;lia
  subst Rl;dsimp? [De]
def aV(N8:List Int)(rows:List Row)(r:Row)(f:Nat):Nat->Row
 | 0=>r
 | c+1 =>
  let l:=aV N8 rows r f c
  qt N8 l 1 (row rows (f+c)) (-(vf l.1 (f+c)/aS (vf N8) (DD rows) (f+c)))
theorem g9(h:St n m N8 A k rows){r:Row}{f:Nat}(h1:r.1.length=n)(h2:r.2.length=m):∀c,f+c<=n->(aV N8 rows r f c).1.length=n/\(aV N8 rows r f c).2.length=m
 | 0,_=>⟨h1,h2⟩
 | c+1,hc=>by
  obtain⟨i1,i2⟩:=g9 h (f:=f) h1 h2 c ⋯;have e1:=h.wf.oj (d:=f+c) ⋯;have e2:=h.wf.at2 (d:=f+c) ⋯;have hs:=h.hs;simp only[aV,qt];rw[jX,bK,bK];exact⟨by lia,by lia⟩
theorem ng(h:St n m N8 A k rows){f:Nat}(h1:r.1.length=n)(h2:r.2.length=m)(h0:∀i,i<n->0<=vf r.1 i/\vf r.1 i<vf N8 i):Dn n (vf N8) (DD rows) f (λd=>vf (aV N8 rows r f (d-f)).1) where
 w0:=λi hi=>by rw[Zm];exact h0 i hi
 ws:=λd hf hd i hi=>by
  obtain⟨c,rfl⟩:∃c,d=f+c:=⟨d-f,by lia⟩
  obtain⟨i1,i2⟩:=g9 h (f:=f) h1 h2 c ⋯;have e1:=h.wf.oj (d:=f+c) ⋯;have hs:=h.hs;show vf (aV N8 rows r f (f+c+1-f)).1 i=_;rw[show f+c+1-f=c+1 by lia,show f+c-f=c by lia];simp only[aV,qt];rw[jY (by rw[bK];lia) ⋯,eN ⋯ ⋯];rfl
theorem sS(h:St n m N8 A k rows){r:Row}{f:Nat}(h1:r.1.length=n)(h2:r.2.length=m){P₀:cV}{B:cV}(hl:Led n (vf N8) m A (λi=>vf r.1 i-B i) (λl=>vf r.2 l-P₀ l)):∀c,f+c<=n->Led n (vf N8) m A (λi=>vf (aV N8 rows r f c).1 i-B i) (λl=>vf (aV N8 rows r f c).2 l-P₀ l)
 | 0,_=>hl
 | c+1,hc=>by
  obtain⟨i1,i2⟩:=g9 h (f:=f) h1 h2 c ⋯;have e1:=h.wf.oj (d:=f+c) ⋯;have e2:=h.wf.at2 (d:=f+c) ⋯;have hs:=h.hs;refine Led.mix (a:=1) (b:=-(vf (aV N8 rows r f c).1 (f+c)/aS (vf N8) (DD rows) (f+c))) (sS h (f:=f) h1 h2 hl c ⋯) (h.led (f+c) ⋯) (λi hi=>?_) λl hl=>?_
  .simp only[aV,qt];rw[jY (by rw[bK];lia) ⋯,eN ⋯ ⋯];obtain⟨z,hz⟩:=fm (1*vf (aV N8 rows r f c).1 i+-(vf (aV N8 rows r f c).1 (f+c)/aS (vf N8) (DD rows) (f+c))*vf (row rows (f+c)).1 i) (vf N8 i);refine⟨z,?_⟩;rw[<- hz];unfold DD
   grind
  .simp only[aV,qt];rw[eN ⋯ ⋯];unfold PP
   grind
theorem tW(h:St n m N8 A k rows){r:Row}{f B:Nat}(h1:r.1.length=n)(h2:r.2.length=m)(h0:∀i,i<n->0<=vf r.1 i/\vf r.1 i<vf N8 i)(hB:150*k+1<=B)(hb:Bd B r.2):∀c,f+c<=n->Bd (B+11*c) (aV N8 rows r f c).2
 | 0,_=>hb
 | c+1,hc=>by
  have k0:=(ng h (f:=f) h1 h2 h0).kept h.gd (f+c) ⋯ ⋯ (f+c) ⋯;rw[show f+c-f=c by lia] at k0;have sm:=h.sm (f+c) ⋯;have p:=h.gd.pos (d:=f+c) ⋯;have q:=YN (aS (vf N8) (DD rows) (f+c)) k0.1;have q0:=VT k0.1 (Zl p.1);have:=Bd.mix (A:=10) (tW h (f:=f) h1 h2 h0 hB hb c ⋯) ((h.bd (f+c) ⋯).mono (show 150*k+1<=B+11*c by lia)) (a:=1) (b:=-(vf (aV N8 rows r f c).1 (f+c)/aS (vf N8) (DD rows) (f+c))) ↑12 ⋯;exact this.mono ⋯
theorem pq(h:St n m N8 A k rows){f B:Nat}(hn:n<=6)(hm:m<=8)(h1:r.1.length=n)(h2:r.2.length=m)(h0:∀i,i<n->0<=vf r.1 i/\vf r.1 i<vf N8 i)(hB:150*k+1<=B)(hB2:B<=8000)(hb:Bd B r.2)(hf:f<=n):eP [tI N8,.lst (rows.map mk),mk r,.int (f:Int)]=M.ok (mk (aV N8 rows r f (n-f))):=by
 have hs:=h.hs;have rl:=h.wf.len;unfold eP iT;have kM:yP [.int (f:Int),.int (N8.length:Int)]=M.ok ((S1 (n-f)).map λ(i:Nat)=>.int ((f+i:Nat):Int)):=by
  rw[DH ⋯ ⋯ ⋯ ⋯,hs,show ((n:Int)-(f:Int)).toNat=n-f by lia];simp
 dsimp? [kM];refine eS (S1 (n-f)) (λzs env=>∃c x4 x5,c<=n-f/\(S1 (n-f)).drop c=zs/\env=[some (.sh (tI N8)),some (.sh (.lst (rows.map mk))),some (.sh (mk (aV N8 rows r f c))),some (.sh (.int (f:Int))),x4,x5]) ⟨0,none,none,SX _,rfl,rfl⟩ ?_ ?_
 .rintro i zs env ⟨c,x4,x5,hc,Qh,rfl⟩;obtain⟨c1,c2,c3⟩:=drop_cons Qh;rw[Uj] at c1;obtain rfl:i=c:=by
   rw[WL c1] at c2;exact(Th c2).symm
  have Rm:f+i<n:=by lia
  have ll:=g9 h (f:=f) h1 h2 i ⋯;have lk:=(ng h (f:=f) h1 h2 h0).kept h.gd (f+i) ⋯ ⋯;rw[show f+i-f=i by lia] at lk;have k0:=lk (f+i) Rm;have sm:=h.sm (f+i) Rm;have p:=h.gd.pos Rm;have e1:=h.wf.oj Rm;have e2:=h.wf.at2 Rm;have B1:Bd 8200 (row rows (f+i)).1:=(St.Bt h Rm).mono ⋯;have B2:Bd 8200 (row rows (f+i)).2:=(h.bd _ Rm).mono ⋯;have B3:Bd 8200 (aV N8 rows r f i).1:=(uu ll.1 lk h.sm).mono ⋯;have B4:Bd 8200 (aV N8 rows r f i).2:=(tW h (f:=f) h1 h2 h0 hB hb i ⋯).mono ⋯;have q:=YN (aS (vf N8) (DD rows) (f+i)) k0.1;have q0:=VT k0.1 (Zl p.1);have w:=wd (A:=20) (N8:=N8) (a:=1) (b:=-(vf (aV N8 rows r f i).1 (f+i)/aS (vf N8) (DD rows) (f+i))) (Df h) B3 B4 B1 B2 ↑12 ⋯ ↑12 ↑12 ⋯ ⋯;refine⟨_,[some (.sh (tI N8)),some (.sh (.lst (rows.map mk))),some (.sh (mk (aV N8 rows r f (i+1)))),some (.sh (.int (f:Int))),some (.sh (.int ((f+i:Nat):Int))),some (.sh (.int (vf (aV N8 rows r f i).1 (f+i)/aS (vf N8) (DD rows) (f+i))))],rfl,?_,i+1,_,_,by lia,c3,rfl⟩;dsimp? [pJ,iB (xs:=(aV N8 rows r f i).1) (i:=f+i) ⋯,sO h.wf h.hs Rm,cA (i:=vf (aV N8 rows r f i).1 (f+i)) p.1 ⋯,vQ (rows:=rows) (d:=f+i) ⋯,w];rfl
 .rintro env ⟨c,x4,x5,hc,Qh,rfl⟩;have:c=n-f:=by
   have:=congrArg Xx Qh;rw[VE,Uj] at this;simp at this;lia
  subst this;dsimp? []
end
theorem EE(m k:Nat)(hm:m<=1000):ji [.int (m:Int),.int (k:Int)]=M.ok (tI (nL m k)):=by
 have key:bI (bL 0) none (yu (cR (ai nH (aa 0) (aa 1))) (λ_=>M.ok (.int 1)) (λ_=>M.ok (.int 0))) ((S1 m).map λ(i:Nat)=>.int (i:Int)) [none,some (.sh (.int (k:Int)))]=M.ok ((S1 m).map λ(i:Nat)=>.int (if i=k then 1 else 0)):=by
  refine fK (inj:=λ(i:Nat)=>PV.int (i:Int)) (S1 m) λi hi=>?_;dsimp? []
  by_cases z:i=k
  .subst z;simp only[decide_true,if_true]
  .have z':¬ (i:Int)=(k:Int):=by lia
   simp only[z,z',decide_false,T5,if_false]
 unfold ji jf;dsimp? [gu (n:=(m:Int)) ⋯ ⋯,Ud,SG,Uj,ar (aP hm),key];rw[tI,nL,Ti];rfl
theorem q_{n:Int}(h:0<=n):Tz (n-1) (-1) (-1)=n:=by
 unfold Tz;rw[if_neg ↑12]
 split
 .rw[show -(-1:Int)=1 from rfl,Int.ediv_one];lia
 .lia
theorem EV{n:Int}(h:0<=n)(h2:n<=1000):C3 (n-1) (-1) (-1)=true:=by
 unfold C3 XQ;have f:∀x:Int,-(2^40)<x->x<2^40->XY x=true:=λx h1 h2=>by
  unfold XY;simp only[Ui,decide_eq_true_eq];lia
 simp only[q_ h,f (n-1) ⋯ ⋯,f (-1) ↑12 ↑12,f n ⋯ ⋯,f (n-1+n*-1) ⋯ ⋯,aad,aac,Bool.and_self,Ui,decide_eq_true_eq];refine⟨by decide,?_⟩;rw[if_neg ↑12,f (-1+(-1+1)) ↑12 ↑12,Bool.or_true]
theorem Dx(k:Nat)(hk:k<=1000):Af [.int ((k:Int)-1),.int (-1),.int (-1)]=M.ok ((S1 k).map λ(i:Nat)=>.int ((k:Int)-1+(i:Int)*-1)):=by
 show cM (C3 ((k:Int)-1) (-1) (-1)=true) _=_;rw[ar (EV ⋯ ⋯),q_ ⋯,Ud]
variable{N_:List (List Int)}
def EK{j:Nat}(h:j<N_.length):aA (.lst (N_.map tI)) (.int (j:Int))=M.ok (tI (N_.getD j [])) :=
 aX (p:=.lst (N_.map tI)) rfl (by rw[Te,Sy h,SJ,Sy h];rfl)
theorem vm{B:Nat}{s:cV}{A:Nat->cV}{P:List Int}(h:yA n m s A k N_)(hP:P.length=m)(hm:m<=8)(hk:k<=m)(hB:60<=B)(hB2:B<=8000)(hb:Bd B P):gG [tI P,.lst (N_.map tI)]=M.ok (tI (aM N_ k P k)):=by
 have il:=h.len;unfold gG gk;dsimp? [SG,il,Dx k ⋯];refine eS (S1 k) (λzs env=>∃c x2 x3,c<=k/\(S1 k).drop c=zs/\env=[some (.sh (tI (aM N_ k P c))),some (.sh (.lst (N_.map tI))),x2,x3]) ⟨0,none,none,SX _,rfl,rfl⟩ ?_ ?_
 .rintro i zs env ⟨c,x2,x3,hc,Qh,rfl⟩;obtain⟨c1,c2,c3⟩:=drop_cons Qh;rw[Uj] at c1;obtain rfl:i=c:=by
   rw[WL c1] at c2;exact(Th c2).symm
  have hj:k-1-i<k:=by lia
  have ej:(k:Int)-1+(i:Int)*-1=((k-1-i:Nat):Int):=by lia
  have sl:=span_len h hP i ⋯;have rl:=h.l2 (k-1-i) hj;have p:=h.pos (k-1-i) hj;have pl60:=h.le (k-1-i) hj;have zb:=xR h hP hk hB hb i ⋯;have B1:Bd 8600 (aM N_ k P i):=zb.mono ⋯;have B2:Bd 8600 (N_.getD (k-1-i) []):=(h.bd hj hk).mono ⋯;have q:(-(vf (aM N_ k P i) (k-1-i)/vf (N_.getD (k-1-i) []) (k-1-i))).natAbs<2^8600:=by
   rw[Xc];exact UY (Ym ..) (B1.vf _)
  have w:=oO (A:=8600) (tI (aM N_ k P i)) (tI (N_.getD (k-1-i) [])) (aM N_ k P i) (N_.getD (k-1-i) []) 1 (-(vf (aM N_ k P i) (k-1-i)/vf (N_.getD (k-1-i) []) (k-1-i))) rfl rfl B1 B2 (Nat.one_lt_two_pow ↑12) q ↑12 ↑12 ⋯;refine⟨_,[some (.sh (tI (aM N_ k P (i+1)))),some (.sh (.lst (N_.map tI))),some (.sh (.int ((k-1-i:Nat):Int))),some (.sh (tI (N_.getD (k-1-i) [])))],rfl,?_,i+1,_,_,by lia,c3,rfl⟩;rw[ej];dsimp? [EK (N_:=N_) (j:=k-1-i) ⋯,iB (xs:=aM N_ k P i) (i:=k-1-i) ⋯,iB (xs:=N_.getD (k-1-i) []) (i:=k-1-i) ⋯,cA (i:=vf (aM N_ k P i) (k-1-i)) (j:=vf (N_.getD (k-1-i) []) (k-1-i)) p (by show II N_ (k-1-i) (k-1-i)<2^64;lia),w];rfl
 .rintro env ⟨c,x2,x3,hc,Qh,rfl⟩;have:c=k:=by
   have:=congrArg Xx Qh;rw[VE,Uj] at this;simp at this;lia
  subst this;dsimp? []
variable{Ls:List (List Int)}
theorem mH(h:N8.length<=6):iQ [jr N8 Ls]=M.ok (tI (Sx N8.length 0)):=by
 unfold iQ jH;dsimp? [om (N8:=N8) (levers:=Ls) (g:=aa 0) (env:=[some (.sh (jr N8 Ls))]) rfl,mul_one (.int 0) N8.length ⋯];rw[tI,Wm]
theorem nF(hm:Ls.length<=8)(xs:List Int):eQ [jr N8 Ls,tI xs]=M.ok (mk (xs,Sx Ls.length 0)):=by
 unfold eQ gz;dsimp? [pK (N8:=N8) (levers:=Ls) (g:=aa 0) (env:=[some (.sh (jr N8 Ls)),some (.sh (tI xs))]) rfl,SG,mul_one (.int 0) Ls.length ⋯];rw[mk,tI,tI,Wm]
theorem EM(hm:Ls.length<=8)(hk:k<Ls.length):fg [jr N8 Ls,.int (k:Int)]=M.ok (mk (bH Ls Ls.length k)):=by
 have e:aA (.tup (Ls.map tI)) (.int (k:Int))=M.ok (tI (Ls.getD k [])):=aX (p:=.tup (Ls.map tI)) rfl (by rw[Te,Sy hk,SJ,Sy hk];rfl);unfold fg e_;dsimp? [pK (N8:=N8) (levers:=Ls) (g:=aa 0) (env:=[some (.sh (jr N8 Ls)),some (.sh (.int (k:Int))),none]) rfl,SG,e,EE Ls.length k ⋯];rfl
def DA:∀xs:List Int,oH (tI xs)=true:=by
 intro xs;have:∀ys:List Int,my (ys.map PV.int)=true:=by
  intro ys
  induction ys with
  | nil=>rfl
  | cons a r ih=>simp[my,oH,ih]
 exact this xs
def Kz(x y:PV):aA (.tup [x,y]) (.int 0)=M.ok x:=aX (j:=0) rfl rfl
def LS(x y:PV):aA (.tup [x,y]) (.int 1)=M.ok y:=aX (j:=1) rfl rfl
def mG(N8:List Int)(rows:List Row)(n:Nat):List Row:=(S1 n).map λd=>aV N8 rows (row rows d) (d+1) (n-(d+1))
def vK(V:PV)(rows:List Row)(N_:List (List Int)):List (Str×PV):=[("vault",V),("made_rows",.lst (rows.map mk)),("idle_rows",.lst (N_.map tI))]
theorem B5(hn1:1<=N8.length)(hn:N8.length<=6)(hm:Ls.length<=8)(hp:∀i,i<N8.length->0<vf N8 i/\vf N8 i<=360)(LL:Ln N8.length Ls.length N8 Ls):jD av g8 [] [jr N8 Ls]=M.ok (.obj av (vK (jr N8 Ls) (mG N8 (RK cf N8 Ls N8.length Ls.length Ls.length).1 N8.length) (RK cf N8 Ls N8.length Ls.length Ls.length).2)):=by
 have all:=λk hk=>Dw.all (c:=cf) rfl hp LL AY hn k hk;have key:∀a,g8 a ([jr N8 Ls]++[])=M.ok (vK (jr N8 Ls) (mG N8 (RK cf N8 Ls N8.length Ls.length Ls.length).1 N8.length) (RK cf N8 Ls N8.length Ls.length Ls.length).2):=by
  intro a;have e1:bI (bL 0) none (ah eQ (ae (aa 1) (ae (ah iQ (ae (aa 1) ak)) ak))) (N8.map PV.int) [none,some (.sh (jr N8 Ls))]=M.ok ((Sx N8.length ((Sx N8.length (0:Int)),(Sx Ls.length (0:Int)))).map mk):=by
   rw[fK (h:=λ_=>mk (Sx N8.length 0,Sx Ls.length 0)) N8 λx _=>by dsimp? [mH (Ls:=Ls) hn,nF (N8:=N8) hm (Sx N8.length 0)]];congr 1;rw[aa3,Wm]
  have e2:bI (bT 0 1) none (ah eP (ae (aa 2) (ae (aa 3) (ae (aa 1) (ae (ai gH (aa 0) (λ_=>M.ok (.int 1))) ak))))) ((RK cf N8 Ls N8.length Ls.length Ls.length).1.zipIdx.map λz=>.tup [.int (z.2:Int),mk z.1]) [none,none,some (.sh (tI N8)),some (.sh (.lst ((RK cf N8 Ls N8.length Ls.length Ls.length).1.map mk)))]=M.ok ((mG N8 (RK cf N8 Ls N8.length Ls.length Ls.length).1 N8.length).map mk):=by
   have I:=all Ls.length (SE _);generalize RK cf N8 Ls N8.length Ls.length Ls.length=rk at *;have rl:=I.st.wf.len;rw[qp (p:=λz:Row×Nat=>PV.int (z.2:Int)) (q:=λz:Row×Nat=>mk z.1) (h:=λz:Row×Nat=>mk (aV N8 rk.1 z.1 (z.2+1) (N8.length-(z.2+1)))) rk.1.zipIdx λz hz=>?_]
   .congr 1;rw[mG,Ti];refine YM (by simp[rl]) λi h1 h2=>?_;have hi:i<rk.1.length:=by simpa using h1
    simp[iC hi]
   .obtain⟨i,hi,e⟩:=S9.mp hz;rw[TV] at hi;rw[XT] at e;have ez:z=(row rk.1 i,i):=by rw[<- e,iC hi];simp
    subst ez;have R4:i<N8.length:=by lia
    have:=pq (f:=i+1) (B:=150*Ls.length+1) I.st hn hm (I.st.wf.oj R4) (I.st.wf.at2 R4) (λj hj=>I.st.gd.kM i R4 j hj) (SE _) ⋯ (I.st.bd i R4) ⋯;rw[show ((i+1:Nat):Int)=(i:Int)+1 by lia] at this;dsimp? [this]
  have zl:N8.length<=sizeLine:=aP ⋯;have I:=all Ls.length (SE _);have rl:=I.st.wf.len;unfold g8 i4;simp only[uc];rw[ar (show ([jr N8 Ls]++([]:List PV)).length+1=2 from rfl)];simp only[za,yv];dsimp? [om (N8:=N8) (levers:=Ls) (g:=aa 1) (env:=[some (.bd a av []),some (.sh (jr N8 Ls)),none,none,none,none,none]) rfl,SG,ar zl,e1,de,pK (N8:=N8) (levers:=Ls) (g:=aa 1) (env:=[some (.bd a av []),some (.sh (jr N8 Ls)),some (.sh (tI N8)),some (.sh (.lst ((Sx N8.length ((Sx N8.length (0:Int)),(Sx Ls.length (0:Int)))).map mk))),some (.ow []),none,none]) rfl,gu (n:=(Ls.length:Int)) ⋯ ⋯,Ud];refine eS (S1 Ls.length) (λzs env=>∃k x5 x6,k<=Ls.length/\(S1 Ls.length).drop k=zs/\env=[some (.bd a av []),some (.sh (jr N8 Ls)),some (.sh (tI N8)),some (.sh (.lst ((RK cf N8 Ls N8.length Ls.length k).1.map mk))),some (.ow ((RK cf N8 Ls N8.length Ls.length k).2.map tI)),x5,x6]) ⟨0,none,none,SX _,rfl,rfl⟩ ?_ ?_
  .rintro i zs env ⟨k,x5,x6,hk,Qh,rfl⟩;obtain⟨c1,c2,c3⟩:=drop_cons Qh;rw[Uj] at c1;obtain rfl:i=k:=by
    rw[WL c1] at c2;exact(Th c2).symm
   have J:=all i hk;have L:Lv N8.length Ls.length N8 (AA Ls) i (bH Ls Ls.length i):=⟨LL.at_ i c1,by simp[bH,nL],c1,λj hj=>rfl,LL.kM i c1,λl hl=>vF hl⟩
   have tk:=AH J.st L hn hm;have ll:=cN (c:=cf) J.st.wf J.st.hs L.l1 L.l2 N8.length (SE _);have lb:=oq (c:=cf) J.st L hn N8.length (SE _);have sp:=vm (B:=1400) J.qu ll.2 hm ⋯ ↑12 ↑12 (lb.mono ⋯);have il:=J.qu.len;refine⟨_,[some (.bd a av []),some (.sh (jr N8 Ls)),some (.sh (tI N8)),some (.sh (.lst ((RK cf N8 Ls N8.length Ls.length (i+1)).1.map mk))),some (.ow ((RK cf N8 Ls N8.length Ls.length (i+1)).2.map tI)),some (.sh (.int (i:Int))),some (.sh (.tup [.lst ((cp cf N8 (RK cf N8 Ls N8.length Ls.length i).1 (bH Ls Ls.length i) N8.length).map mk),tI (aw cf N8 (RK cf N8 Ls N8.length Ls.length i).1 (bH Ls Ls.length i) N8.length).2]))],rfl,?_,i+1,_,_,by lia,c3,rfl⟩;dsimp? [EM (N8:=N8) hm c1,tk,Kz];rw[uj (i:=4) rfl (p:=tI (aM (RK cf N8 Ls N8.length Ls.length i).2 i (aw cf N8 (RK cf N8 Ls N8.length Ls.length i).1 (bH Ls Ls.length i) N8.length).2 i)) (by
    dsimp? [uF,ownAt,LS,sp];exact ar (DA _)) (by simp[il];lia)]
   dsimp? [RK,Vx]
  .rintro env ⟨k,x5,x6,hk,Qh,rfl⟩;have:k=Ls.length:=by
    have:=congrArg Xx Qh;rw[VE,Uj] at this;simp at this;lia
   subst this;dsimp? [kW];rw[jh _ _ _ _ _ _ ↑13];dsimp? [kW,n_,SG,TV,rl,ar zl,e2];rw[jh _ _ _ _ _ _ (UY (iY (SX 0)) ↑12)];dsimp? [kW];rw[jh _ _ _ _ _ _ (UY (iY (iY (SX 0))) ↑12)];dsimp? [];show cM _ _=_;rw[ar ⟨rfl,rfl⟩];rfl
 unfold jD;rw[Bx key];rfl
section
variable{A:Nat->cV}
def lF(h:d<n):row (mG N8 rows n) d=aV N8 rows (row rows d) (d+1) (n-(d+1)):=by
 rw[iC (by simp[mG,h])];simp[mG]
theorem JE(h:St n m N8 A m rows)(hn:n<=6)(hA:∀i,A m i=0):St n m N8 A (m+1) (mG N8 rows n):=by
 have hl:∀d,d<n->(aV N8 rows (row rows d) (d+1) (n-(d+1))).1.length=n/\(aV N8 rows (row rows d) (d+1) (n-(d+1))).2.length=m:=λd hd=>g9 h (h.wf.oj hd) (h.wf.at2 hd) _ ⋯;have lg:=vH (D':=DD (mG N8 rows n)) h.gd (λd e=>vf (aV N8 rows (row rows d) (d+1) (e-(d+1))).1) (λd hd=>ng h (h.wf.oj hd) (h.wf.at2 hd) λi hi=>h.gd.kM d hd i hi) (λd hd i hi=>by
  show vf (aV N8 rows (row rows d) (d+1) (d+1-(d+1))).1 i=_;rw[Zm];rfl) λd hd i hi=>by
  unfold DD;rw[lF hd]
 refine⟨⟨by simp[mG],λr hr=>?_,λr hr=>?_⟩,h.hs,h.sm,lg.1,λd hd=>?_,λd hd l h1 h2=>by lia,λd hd=>?_,λl hl=>?_⟩
 .obtain⟨d,hd,rfl⟩:=TF.mp hr;exact(hl d (Uo.mp hd)).1
 .obtain⟨d,hd,rfl⟩:=TF.mp hr;exact(hl d (Uo.mp hd)).2
 .unfold DD PP;rw[lF hd];have:=sS h (f:=d+1) (h.wf.oj hd) (h.wf.at2 hd) (P₀:=λ_=>0) (B:=λ_=>0) (by
   have q:=h.led d hd;intro i hi;have:=q i hi;simp only[Zd];exact this) (n-(d+1)) ⋯
  intro i hi;have:=this i hi;simp only[Zd] at this;exact this
 .rw[lF hd];exact(tW h (f:=d+1) (h.wf.oj hd) (h.wf.at2 hd) (λi hi=>h.gd.kM d hd i hi) (SE _) (h.bd d hd) (n-(d+1)) ⋯).mono ⋯
 .rcases TU l m with q|q
  .exact lg.2.2.2.2 n 0 ⋯ _ (h.cl l q)
  .obtain rfl:l=m:=by lia
   exact G.ext ⋯ (λi _=>(hA i).symm) (G.zero ⋯)
end
def kh(N8:List Int)(Ls:List (List Int))(R:List Row)(N_:List (List Int)):PV:=.obj av (vK (jr N8 Ls) R N_)
section
variable{R:List Row}
def Kn:(vK (jr N8 Ls) R N_).lookup (Tp "vault")=some (jr N8 Ls):=rfl
def LB:(vK (jr N8 Ls) R N_).lookup (Tp "made_rows")=some (.lst (R.map mk)):=rfl
def KY:(vK (jr N8 Ls) R N_).lookup (Tp "idle_rows")=some (.lst (N_.map tI)):=rfl
def My:(vK (jr N8 Ls) R N_).lookup (Tp "brought_down")=none:=rfl
def MF{g:af->M PV}{env:af}(h:g env=M.ok (kh N8 Ls R N_)):fq (λc=>c==av) "vault" g env=M.ok (jr N8 Ls):=by
 rw[fq,h,M.aH];show cM _ (eB (VX _ _))=_;rw[ar (beq_self_eq_true _),Kn];rfl
def NX{g:af->M PV}{env:af}(h:g env=M.ok (kh N8 Ls R N_)):fq (λc=>c==av) "made_rows" g env=M.ok (.lst (R.map mk)):=by
 rw[fq,h,M.aH];show cM _ (eB (VX _ _))=_;rw[ar (beq_self_eq_true _),LB];rfl
def Nq{g:af->M PV}{env:af}(h:g env=M.ok (kh N8 Ls R N_)):fq (λc=>c==av) "idle_rows" g env=M.ok (.lst (N_.map tI)):=by
 rw[fq,h,M.aH];show cM _ (eB (VX _ _))=_;rw[ar (beq_self_eq_true _),KY];rfl
def Fj:fZ [kh N8 Ls R N_]=M.ok (.lst (N_.map tI)):=by
 unfold fZ f6;dsimp? [Nq (N8:=N8) (Ls:=Ls) (R:=R) (N_:=N_) (g:=aa 0) (env:=[some (.sh (kh N8 Ls R N_))]) rfl]
theorem tK{A:Nat->cV}(S:Sz N8)(hm:Ls.length<=8)(h:St N8.length Ls.length N8 A k R)(hk:k<=9)(hx:Kk N8 xs)(h0:∀i,i<N8.length->0<=vf xs i/\vf xs i<vf N8 i):bj [kh N8 Ls R N_,tI xs]=M.ok (mk (aV N8 R (xs,Sx Ls.length 0) 0 N8.length)):=by
 have lo:=pq (f:=0) (B:=150*k+1) (r:=(xs,Sx Ls.length 0)) h S.h6 hm hx.len ↑13 h0 (SE _) ⋯ (λx hx=>by rw[Vm hx];exact Vw _) (SX _);rw[Y4] at lo;unfold bj bF;dsimp? [MF (N8:=N8) (Ls:=Ls) (R:=R) (N_:=N_) (g:=aa 0) (env:=[some (.sh (kh N8 Ls R N_)),some (.sh (tI xs))]) rfl,NX (N8:=N8) (Ls:=Ls) (R:=R) (N_:=N_) (g:=aa 0) (env:=[some (.sh (kh N8 Ls R N_)),some (.sh (tI xs))]) rfl,FZ (levers:=Ls) S hx,nF (N8:=N8) hm xs,om (N8:=N8) (levers:=Ls) (g:=fq (λc=>c==av) "vault" (aa 0)) (env:=[some (.sh (kh N8 Ls R N_)),some (.sh (tI xs))]) (MF (R:=R) (N_:=N_) rfl),show eP [tI N8,.lst (R.map mk),mk (xs,Sx Ls.length 0),.int 0]=_ from lo]
end
def pR(xs:List Int):List Int:=xs.map λx=>-x
def Jb(xs:List Int)(i:Nat):vf (pR xs) i=-vf xs i:=by
 rcases TU i xs.length with h|h
 .rw[aY (by simpa [pR] using h),aY h];simp[pR]
 .rw[oF (by simpa [pR] using h),oF h];rfl
def JH{B:Nat}(h:Bd B xs):Bd B (pR xs):=λx hx=>by
 obtain⟨y,hy,rfl⟩:=TF.mp hx;rw[Xc];exact h y hy
section
variable{R:List Row}
def told(N8:List Int)(Ls:List (List Int))(R:List Row)(N_:List (List Int))(xs:List Int):List Int:=aM N_ Ls.length (pR (aV N8 R (xs,Sx Ls.length 0) 0 N8.length).2) Ls.length
theorem Ag{A:Nat->cV}(S:Sz N8)(hm:Ls.length<=8)(h:St N8.length Ls.length N8 A k R)(hk:k<=9)(I:yA N8.length Ls.length (vf N8) A Ls.length N_)(hx:Kk N8 xs)(h0:∀i,i<N8.length->0<=vf xs i/\vf xs i<vf N8 i)(hg:G N8.length (vf N8) (DD R) N8.length 0 (vf xs)):bC [kh N8 Ls R N_,tI xs]=M.ok (tI (told N8 Ls R N_ xs))/\(told N8 Ls R N_ xs).length=Ls.length/\Led N8.length (vf N8) Ls.length A (vf xs) (vf (told N8 Ls R N_ xs))/\∀l,l<Ls.length->0<=vf (told N8 Ls R N_ xs) l/\vf (told N8 Ls R N_ xs) l<II N_ l l:=by
 have l6:=S.h6;have r2:(Sx Ls.length (0:Int)).length=Ls.length:=by simp
 have ll:=g9 h (f:=0) (r:=(xs,Sx Ls.length 0)) hx.len r2 N8.length ⋯;have dn:=ng h (f:=0) (r:=(xs,Sx Ls.length 0)) hx.len r2 h0;have z:=dn.run h.gd N8.length 0 (SE _) ⋯ (by rwa[Zm]);rw[Y4] at z;have nz:(aV N8 R (xs,Sx Ls.length 0) 0 N8.length).1=Sx N8.length 0:=pD (by rw[ll.1];simp) λi hi=>by rw[z i ⋯,c9]
 have b:=tW h (f:=0) (B:=150*k+1) (r:=(xs,Sx Ls.length 0)) hx.len r2 h0 (SE _) (λx hx=>by rw[Vm hx];exact Vw _) N8.length ⋯;have nl:(pR (aV N8 R (xs,Sx Ls.length 0) 0 N8.length).2).length=Ls.length:=by rw[pR,SG];exact ll.2
 have sp:=vm (B:=1500) I nl hm (SE _) ↑12 ↑12 (JH (b.mono ⋯));have led:=sS h (f:=0) (r:=(xs,Sx Ls.length 0)) hx.len r2 (P₀:=λ_=>0) (B:=vf xs) (by
  intro i hi;rw[gA (g:=λ_=>0) λl hl=>by
   show (vf (Sx Ls.length 0) l-0)*A l i=0;rw[c9];simp,eV]
  show vf N8 i∣vf xs i-vf xs i-0;rw[Zi];exact UK _) N8.length ⋯
 have Qb:Led N8.length (vf N8) Ls.length A (vf xs) (vf (pR (aV N8 R (xs,Sx Ls.length 0) 0 N8.length).2)):=by
  refine Led.mix (a:=-1) (b:=0) led led (λi hi=>?_) λl hl=>?_
  .rw[z i hi];exact⟨0,by lia⟩
  .rw[Jb];lia
 refine⟨?_,span_len I nl _ (SE _),pW I nl Qb _ (SE _),λl hl=>tR I nl (SE _) _ (SE _) l ⋯ hl⟩;have dk:=tK (N_:=N_) S hm h hk hx h0;have md:∀y,bV av "brought_down" bj (aa 0) (ae (aa 1) ak) [some (.sh (kh N8 Ls R N_)),some (.sh (tI xs)),y]=M.ok (mk (aV N8 R (xs,Sx Ls.length 0) 0 N8.length)):=λy=>by
  show M.bind (M.ok (kh N8 Ls R N_)) _=_;rw[M.aH];show cM _ (M.bind (M.ok [tI xs]) _)=_;rwa[ar ⟨rfl,My⟩,M.aH]
 have cm:bI (bL 0) none (kA (aa 0)) ((aV N8 R (xs,Sx Ls.length 0) 0 N8.length).2.map PV.int) [none]=M.ok ((aV N8 R (xs,Sx Ls.length 0) 0 N8.length).2.map λx=>.int (-x)):=fK _ λx _=>by dsimp? []
 have lz:(aV N8 R (xs,Sx Ls.length 0) 0 N8.length).2.length<=sizeLine:=by rw[ll.2];exact aP ⋯
 have en:PV.tup ((aV N8 R (xs,Sx Ls.length 0) 0 N8.length).2.map λx=>PV.int (-x))=tI (pR (aV N8 R (xs,Sx Ls.length 0) 0 N8.length).2):=by rw[tI,pR,Ti];rfl
 unfold bC cx;dsimp? [md,pJ,De,MF (N8:=N8) (Ls:=Ls) (R:=R) (N_:=N_) (g:=aa 0) (env:=[some (.sh (kh N8 Ls R N_)),some (.sh (tI xs)),some (.sh (mk (aV N8 R (xs,Sx Ls.length 0) 0 N8.length)))]) rfl,mH (Ls:=Ls) l6,nz,p_,decide_true,Nq (N8:=N8) (Ls:=Ls) (R:=R) (N_:=N_) (g:=aa 0) (env:=[some (.sh (kh N8 Ls R N_)),some (.sh (tI xs)),some (.sh (mk (aV N8 R (xs,Sx Ls.length 0) 0 N8.length)))]) rfl,SG,ar lz,cm,en,sp];rfl
end
theorem gj{i j:Int}(h0:0<j)(h:j<2^200):cG (.int i) (.int j)=M.ok (.int (i/j)):=by
 rw[mE ⋯ (S8 (show j.natAbs<2^200 by lia) (U4 ↑12 ↑12)),VM _ ⋯]
theorem tm(ns:List Int)(k:Nat):∃c,cF [.jz (ns.map PV.int),.int (k:Int)]=M.ok (.int c):=by
 unfold cF fG
 by_cases h:k<ns.length
 .refine⟨ns[k],?_⟩;have h':(k:Int)<((ns.length:Nat):Int):=by lia
  have e:=aX (p:=.jz (ns.map PV.int)) (xs:=ns.map PV.int) (j:=k) (x:=.int ns[k]) rfl (by rw[Te,Sy h];rfl);dsimp? [SG,h',decide_true,e]
 .refine⟨0,?_⟩;have h':¬ (k:Int)<((ns.length:Nat):Int):=by lia
  dsimp? [SG,h',decide_false]
theorem rR(c:Int)(p:PV)(bases:List Int)(hp:bX p=some (bases.map PV.int))(hb:∀b∈bases,0<b/\b<2^200)(hl:bases.length<=100):∃xs:List Int,dI [.int c,p]=M.ok (lI xs)/\xs.length=bases.length/\∀z∈xs.zip bases,0<=z.1/\z.1<z.2:=by
 suffices h:∃Od:af,jG (bL 4) (aj (jc 2 (ai gy (aa 3) (aa 4))) (aj (a_ 3 (ai cG (aa 3) (aa 4))) ao)) (bases.map PV.int) [some (.sh (.int c)),some (.sh p),some (.ow []),some (.sh (.int c)),none]=M.ok (.nx Od)/\∃(d xs:List Int)(left:Int)(y:Option SV),Od=[some (.sh (.int c)),some (.sh p),some (.ow (xs.map PV.int)),some (.sh (.int left)),y]/\bases=d++[]/\xs.length=d.length/\∀z∈xs.zip d,0<=z.1/\z.1<z.2 by
  obtain⟨Od,e,d,xs,left,y,rfl,hd,hx,hz⟩:=h;rw[UC] at hd;subst hd;refine⟨xs,?_,hx,hz⟩;unfold dI dG;dsimp? [de,hp,e];rfl
 refine qo (λr env=>∃(d xs:List Int)(left:Int)(y:Option SV),env=[some (.sh (.int c)),some (.sh p),some (.ow (xs.map PV.int)),some (.sh (.int left)),y]/\bases=d++r/\xs.length=d.length/\∀z∈xs.zip d,0<=z.1/\z.1<z.2) ?_ bases _ ⟨[],[],c,none,rfl,rfl,rfl,λ_ h=>nomatch h⟩;rintro b r env ⟨d,xs,left,y,rfl,hd,hx,hz⟩;have RI:=hb b (by rw[hd];simp);have dl:d.length<=100:=by
  have:=congrArg Xx hd;rw[S6] at this;lia
 refine⟨_,[some (.sh (.int c)),some (.sh p),some (.ow ((xs++[left%b]).map PV.int)),some (.sh (.int (left/b))),some (.sh (.int b))],rfl,?_,d++[b],xs++[left%b],left/b,_,rfl,by rw[hd];simp,by simp[hx],λz Q2=>?_⟩
 .dsimp? [];rw[uj (i:=2) rfl (p:=.int (left%b)) (by dsimp? [bG (i:=left) RI.1]) (by simp;lia)];dsimp? [gj (i:=left) RI.1 RI.2,Vx]
 .rw[List.zip_append hx] at Q2;rcases TR.mp Q2 with q|q
  .exact hz z q
  .rw[UX,Yp] at q;rw[S7.mp q];exact⟨T3 _ ⋯,Tt _ RI.1⟩
def dX(N8 xs ys:List Int)(t:Int):List Int:=(xs.zip (ys.zip N8)).map λz=>(z.1+t*z.2.1)%z.2.2
variable{ys:List Int}
theorem uR{t:Int}(h1:xs.length=N8.length)(h2:ys.length=N8.length):(dX N8 xs ys t).length=N8.length:=by
 simp[dX];lia
theorem AG{t:Int}(h1:xs.length=N8.length)(h2:ys.length=N8.length)(hi:i<N8.length):vf (dX N8 xs ys t) i=(vf xs i+t*vf ys i)%vf N8 i:=by
 rw[aY (by rwa[uR h1 h2]),aY ⋯,aY ⋯,aY hi];simp[dX]
theorem jL{t:Int}{q:PV}(hs:∀s∈N8,0<s)(hl:N8.length<=6)(h1:xs.length=N8.length)(hq:bX q=some (ys.map PV.int))(hy:Bd 200 ys)(ht:t.natAbs<2^200):aL [lI N8,tI xs,q,.int t]=M.ok (tI (dX N8 xs ys t)):=by
 have k1:bI (lN 0 1 2) none (ai gy (ai gH (aa 0) (ai eU (aa 3) (aa 1))) (aa 2)) ((xs.zip (ys.zip N8)).map λz=>.tup [.int z.1,.int z.2.1,.int z.2.2]) [none,none,none,some (.sh (.int t))]=M.ok ((xs.zip (ys.zip N8)).map λz=>.int ((z.1+t*z.2.1)%z.2.2)):=by
  refine Dt (p:=λz:Int×Int×Int=>PV.int z.1) (q:=λz:Int×Int×Int=>PV.int z.2.1) (s:=λz:Int×Int×Int=>PV.int z.2.2) (xs.zip (ys.zip N8)) λz hz=>?_;obtain⟨m1,m2⟩:=UD (a:=z.1) (b:=z.2) hz;obtain⟨m3,m4⟩:=UD (a:=z.2.1) (b:=z.2.2) m2;dsimp? [cO (k:=200) (l:=200) ht (hy _ m3),bG (i:=z.1+t*z.2.1) (hs _ m4)]
 have z1:(xs.zip (ys.zip N8)).length<=sizeLine:=by rw[UW];exact aP (Ug (XJ _ _) ⋯)
 unfold aL cj;dsimp? [pd (p:=tI xs) (q:=q) (r:=lI N8) xs ys N8 rfl hq rfl,SG,ar z1,k1];rw[tI,dX,Ti];rfl
theorem rT(c:Int)(m:Nat)(hm:m<=100):iI (dE [.int c,.int (m:Int)]) λp=>∃xs:List Int,p=lI xs/\xs.length=m/\∀x∈xs,0<=x/\x<2^31:=by
 unfold dE dD;dsimp? [de,bG (j:=2147483629) (i:=c) ↑12,gu (n:=(m:Int)) ⋯ ⋯];refine iI.loop (xs:=S1 (m:Int).toNat) (inj:=λ(i:Nat)=>.int (i:Int)) (λzs env=>∃(xs:List Int)(u:Int)(y:Option SV),env=[some (.sh (.int c)),some (.sh (.int (m:Int))),some (.ow (xs.map PV.int)),some (.sh (.int u)),y]/\xs.length+zs.length=m/\(∀z∈zs,z<m)/\0<=u/\u<2^31/\∀x∈xs,0<=x/\x<2^31) ⟨[],c%2147483629+17,none,rfl,by simp,λz hz=>by simpa using hz,by lia,by lia,λx hx=>nomatch hx⟩ ?_ ?_
 .rintro a r env ⟨xs,u,y,rfl,hl,hz,u0,u1,hx⟩;have ha:=hz a SS;dsimp? [bL,cO (i:=u) (j:=48271) (k:=31) (l:=31) ⋯ ↑12,cO (i:=7919) (j:=(a:Int)) (k:=31) (l:=31) ↑12 ⋯,bG (i:=u*48271+7919*(a:Int)+1) (j:=2147483647) ↑12,cA (i:=(u*48271+7919*(a:Int)+1)%2147483647) (j:=5) ↑12 ↑12,hX,ownAt,gY (xs:=xs.map PV.int) (by simp at hl ⊢;lia),kn];exact⟨_,rfl,_,_,_,rfl,by simp at hl ⊢;lia,λz h=>hz z (SO _ h),by lia,by lia,λx hx'=>by
    rcases TR.mp hx' with h|h
    .exact hx x h
    .rw[S7] at h;lia⟩
 .rintro env ⟨xs,u,y,rfl,hl,_,_,_,hx⟩;exact⟨_,rfl,xs,rfl,by simpa using hl,hx⟩
theorem pick(l:List Int)(c:Int)(n:Nat)(hn:l.length=n)(h0:0<n):∃x,x∈l/\aA (.lst (l.map PV.int)) (.int (c%(n:Int)))=M.ok (.int x):=by
 have h1:0<=c%(n:Int):=T3 _ ⋯;have h2:c%(n:Int)<n:=Tt _ ⋯;obtain⟨j,hj⟩:=Vs h1;have hj':j<l.length:=by lia
 refine⟨l[j],TZ _,?_⟩;rw[hj];exact aX (p:=.lst (l.map PV.int)) (j:=j) rfl (by rw[Te,Sy hj'];rfl)
def getD_at{β:Type}(f:α->β){xs:List α}{a:α}{b:β}{l:Nat}(h:l<xs.length):(xs.map f).getD l b=f (xs.getD l a):=by
 rw[SJ,SJ,Te,Sy h];rfl
def getD_mem{xs:List α}{a:α}{l:Nat}(h:l<xs.length):xs.getD l a∈xs:=by
 rw[SJ,Sy h];exact TZ h
theorem By{raw:List (List Int)}(S:Sz N8)(hr:∀l∈raw,l.length=N8.length/\Bd 200 l):Ln N8.length raw.length N8 (raw.map λl=>z9 l N8)/\∀l,l<raw.length->∀i,i<N8.length->AA (raw.map λl=>z9 l N8) l i=vf (raw.getD l []) i%vf N8 i:=by
 have e:∀l,l<raw.length->∀i,i<N8.length->AA (raw.map λl=>z9 l N8) l i=vf (raw.getD l []) i%vf N8 i:=λl hl i hi=>by
  unfold AA;rw[getD_at (a:=[]) _ hl,BH,jY (by rwa[(hr _ (getD_mem hl)).1]) hi]
 refine⟨⟨by simp,λl hl=>?_,λl hl i hi=>?_⟩,e⟩
 .rw[getD_at (a:=[]) _ hl,BH,jX,(hr _ (getD_mem hl)).1];lia
 .rw[e l hl i hi];have:=S.hx _ (TZ hi);rw[<- aY hi] at this;exact⟨T3 _ ⋯,Tt _ ⋯⟩
theorem yc(S:Sz N8):∀i,i<N8.length->0<vf N8 i/\vf N8 i<=360:=λi hi=>by
 have:=S.hx _ (TZ hi);rw[<- aY hi] at this;lia
theorem wF(h:xs.length=N8.length)(h0:∀i,i<N8.length->0<=vf xs i/\vf xs i<vf N8 i):Kk N8 xs:=⟨h,λz hz=>by
 obtain⟨i,hi,rfl⟩:=S9.mp hz;rw[UW] at hi;have:=h0 i ⋯;rw[aY ⋯,aY ⋯] at this;simpa using this⟩
def rM(ns:List Int)(a b:Nat):List Int:=(ns.drop (HT.cW ns.length 0 (some (a:Int)))).take (HT.cW ns.length ns.length (some (b:Int))-HT.cW ns.length 0 (some (a:Int)))
def Fi(ns:List Int)(a b:Nat):L5 (.jz (ns.map PV.int)) (some (a:Int)) (some (b:Int))=M.ok (.lst ((rM ns a b).map PV.int)):=by
 show M.ok (PV.lst (nR (ns.map PV.int) _ _))=_;rw[nR,rM,List.map_take,List.map_drop,SG]
theorem zX(ns:List Int)(a b:Nat):(rM ns a b).length<=b-a:=by
 unfold rM;rw[Xl,VE,HT.sU,HT.sU];lia
theorem zq(xs:List Int)(h:xs.length<=100):gH (.lst (xs.map PV.int)) (.lst [.int 0])=M.ok (lI (xs++[0])):=by
 rw[gH,ar (aP (by simp;lia)),lI,Vx];rfl
def w6(xs:List Int):(xs.map λ_=>PV.int 0)=(Sx xs.length 0).map PV.int:=by
 rw[Wm];simp[aa3]
def HB(Ls:List (List Int))(i:Nat):AA Ls Ls.length i=0:=by
 unfold AA;rw[SJ,Wt (SE _)];exact oF (SX _)
variable{sem:List PV->M PV}
section
variable{R:List Row}{A:Nat->cV}
def oP{m:Str}{x:M (List PV)}(h:(vK (jr N8 Ls) R N_).lookup m=none):yl av m sem (kh N8 Ls R N_) x=x.bind λps=>sem (kh N8 Ls R N_::ps):=sI h
def Nh:BR (λc=>c==av) "vault" (kh N8 Ls R N_)=M.ok (jr N8 Ls):=p8 (beq_self_eq_true _) Kn
def Nu:BR (λc=>c==av) "made_rows" (kh N8 Ls R N_)=M.ok (.lst (R.map mk)):=p8 (beq_self_eq_true _) LB
def NJ:BR (λc=>c==av) "idle_rows" (kh N8 Ls R N_)=M.ok (.lst (N_.map tI)):=p8 (beq_self_eq_true _) KY
def NA:yl aC "sizes" bu (jr N8 Ls) (M.ok [])=M.ok (tI N8):=(sI (fl:=ux N8 Ls) rfl).trans (vj N8 Ls)
def lst(N8:List Int)(Ls:List (List Int))(R:List Row)(xs:List Int):List Int:=(aV N8 R (xs,Sx Ls.length 0) 0 N8.length).1
theorem iP(h:St N8.length Ls.length N8 A k R)(hl:xs.length=N8.length)(h0:∀i,i<N8.length->0<=vf xs i/\vf xs i<vf N8 i):(lst N8 Ls R xs).length=N8.length/\(∀i,i<N8.length->0<=vf (lst N8 Ls R xs) i/\vf (lst N8 Ls R xs) i<aS (vf N8) (DD R) i)/\(∀i,i<N8.length->0<=vf (lst N8 Ls R xs) i/\vf (lst N8 Ls R xs) i<vf N8 i)/\G N8.length (vf N8) (DD R) N8.length 0 (λi=>vf xs i-vf (lst N8 Ls R xs) i):=by
 have r2:(Sx Ls.length (0:Int)).length=Ls.length:=by simp
 have ll:=g9 h (f:=0) (r:=(xs,Sx Ls.length 0)) hl r2 N8.length ⋯;have dn:=ng h (f:=0) (r:=(xs,Sx Ls.length 0)) hl r2 h0;exact⟨ll.1,λi hi=>dn.low h.gd N8.length (SX _) (SE _) i (SX _) hi,λi hi=>dn.kept h.gd N8.length (SX _) (SE _) i hi,dn.away h.gd N8.length (SX _) (SE _) N8.length ⋯⟩
theorem H_(h:St N8.length Ls.length N8 A k R)(hl:xs.length=N8.length)(h0:∀i,i<N8.length->0<=vf xs i/\vf xs i<vf N8 i)(hl':ys.length=N8.length)(h0':∀i,i<N8.length->0<=vf ys i/\vf ys i<vf N8 i)(hg:G N8.length (vf N8) (DD R) N8.length 0 (λi=>vf xs i-vf ys i)):lst N8 Ls R xs=lst N8 Ls R ys:=by
 obtain⟨a1,a2,a3,a4⟩:=iP h hl h0;obtain⟨b1,b2,b3,b4⟩:=iP h hl' h0';refine pD (a1.trans b1.symm) λi hi=>?_;have g:=G.add ⋯ (h.gd.sub ⋯ hg a4) b4;have:=G.diff h.gd N8.length 0 (λi=>vf (lst N8 Ls R xs) i-vf (lst N8 Ls R ys) i) ⋯ (λi hi=>by have:=a3 i hi;have:=b3 i hi;lia) (λi _ hi=>by have:=a2 i hi;have:=b2 i hi;lia) (G.ext ⋯ (λi _=>by lia) g) i ⋯;lia
def Bh(S:Sz N8)(hm:Ls.length<=8)(h:St N8.length Ls.length N8 A k R)(hk:k<=9)(hl:xs.length=N8.length)(h0:∀i,i<N8.length->0<=vf xs i/\vf xs i<vf N8 i):e8 [kh N8 Ls R N_,tI xs]=M.ok (tI (lst N8 Ls R xs)):=by
 have dk:=tK (N_:=N_) S hm h hk (wF hl h0) h0;unfold e8 eY;dsimp? [gE,oP (m := "brought_down") rfl,dk,pJ];rfl
def yw(N8:List Int)(R:List Row):List Int:=(S1 N8.length).map λd=>aS (vf N8) (DD R) d
def B6:(yw N8 R).length=N8.length:=by simp[yw]
def kK(N_:List (List Int)):List Int:=N_.zipIdx.map λz=>vf z.1 z.2
def i7:(kK N_).length=N_.length:=by simp[kK]
def w4(h:i<N_.length):vf (kK N_) i=II N_ i i:=by
 rw[aY (by rwa[i7])];simp only[kK,UJ,XT,Ze];unfold II;rw[SJ,Sy h];rfl
theorem C7(S:Sz N8)(h:St N8.length Ls.length N8 A k R):e6 [kh N8 Ls R N_]=M.ok (tI (yw N8 R)):=by
 have l6:=S.h6;have key:bI (bL 0) none (ah cY (ae (aa 2) (ae (fq (λc=>c==av) "made_rows" (aa 1)) (ae (aa 0) ak)))) ((S1 N8.length).map λ(i:Nat)=>.int (i:Int)) [none,some (.sh (kh N8 Ls R N_)),some (.sh (tI N8))]=M.ok ((S1 N8.length).map λd=>.int (aS (vf N8) (DD R) d)):=by
  refine fK (inj:=λ(i:Nat)=>PV.int (i:Int)) (S1 N8.length) λi hi=>?_;dsimp? [lY,Nu,sO h.wf h.hs (Uo.mp hi)]
 unfold e6 e7;dsimp? [lY,Nh,gE,NA,gu (n:=(N8.length:Int)) ⋯ ⋯,Ud,SG,Uj,ar (aP (show N8.length<=1000 by lia)),key];rw[tI,yw,Ti];rfl
theorem sA(hm:Ls.length<=8)(I:yA N8.length Ls.length (vf N8) A Ls.length N_):dC [kh N8 Ls R N_]=M.ok (tI (kK N_)):=by
 have il:=I.len;have key:bI (bT 0 1) none (ai aA (aa 1) (aa 0)) (N_.zipIdx.map λz=>.tup [.int (z.2:Int),tI z.1]) [none,none]=M.ok (N_.zipIdx.map λz=>.int (vf z.1 z.2)):=by
  refine qp (p:=λz:List Int×Nat=>PV.int (z.2:Int)) (q:=λz:List Int×Nat=>tI z.1) N_.zipIdx λz hz=>?_;obtain⟨i,hi,rfl⟩:=S9.mp hz;rw[TV] at hi;have:=I.l2 i ⋯;rw[SJ,Sy hi] at this;simp only[XT,Ze];dsimp? [iB (xs:=N_[i]) (i:=i) (by rw[show N_[i].length=Ls.length from this];lia)]
 unfold dC dJ;dsimp? [lY,NJ,n_,SG,TV,ar (aP (show N_.length<=1000 by lia)),key];rw[tI,kK,Ti];rfl
def Ap(S:Sz N8)(hm:Ls.length<=8)(h:St N8.length Ls.length N8 A k R)(hk:k<=9)(hl:xs.length=N8.length)(h0:∀i,i<N8.length->0<=vf xs i/\vf xs i<vf N8 i)(hn:lst N8 Ls R xs≠Sx N8.length 0):bC [kh N8 Ls R N_,tI xs]=M.ok .dq:=by
 have dk:=tK (N_:=N_) S hm h hk (wF hl h0) h0;unfold bC cx;dsimp? [gE,oP (m := "brought_down") rfl,dk,pJ,lY,Nh,mH (Ls:=Ls) S.h6,p_];simp only[show ¬ (aV N8 R (xs,Sx Ls.length 0) 0 N8.length).1=Sx N8.length 0 from hn,decide_false];dsimp? []
end
section
variable{raw:List (List Int)}{R:List Row}
theorem mr(S:Sz N8):∀s∈N8,0<s:=λs hs=>by have:=S.hx s hs;lia
def En(n:Nat):(Sx n (0:Int)).length=n:=by simp
theorem eK(S:Sz N8):∀i,i<N8.length->0<=vf (Sx N8.length 0) i/\vf (Sx N8.length 0) i<vf N8 i:=λi hi=>by rw[c9];have:=yc S i hi;lia
theorem fU{F F':List Int}(h:F.length=N8.length)(h':F'.length=N8.length)(k:∀i,i<N8.length->0<=vf F i/\vf F i<vf N8 i)(k':∀i,i<N8.length->0<=vf F' i/\vf F' i<vf N8 i)(d:∀i,i<N8.length->vf N8 i∣vf F i-vf F' i):F=F' :=
 pD (h.trans h'.symm) λi hi=>by
  have:=k i ⋯;have:=k' i ⋯;have:=iH (d i ⋯) ⋯ ⋯;lia
theorem Lp{P v:cV}(h:St N8.length Ls.length N8 (AA Ls) k R)(hk:Ls.length<=k)(led:Led N8.length (vf N8) Ls.length (AA Ls) v P):G N8.length (vf N8) (DD R) N8.length 0 v:=by
 have g:=G.sum (A:=AA Ls) (P:=P) h.gd Ls.length λl hl=>h.cl l ⋯;exact h.gd.pA ⋯ (λi hi=>led i hi) g
theorem LR{v:cV}(h:St N8.length Ls.length N8 (AA Ls) k R)(g:G N8.length (vf N8) (DD R) N8.length 0 v):G N8.length (vf N8) (DD R) N8.length 0 (λi=>-v i) :=
 G.ext ⋯ (λi _=>by lia) (h.gd.sub ⋯ (G.zero ⋯) g)
theorem wH(S:Sz N8){F:List Int}(h:F.length=N8.length)(k:∀i,i<N8.length->0<=vf F i/\vf F i<vf N8 i):Bd 200 F:=λx hx=>by
 obtain⟨i,hi,rfl⟩:=S9.mp hx;have h2:=k i ⋯;rw[aY hi] at h2;have:=yc S i ⋯;lia
theorem wG(S:Sz N8){t:Int}(h1:xs.length=N8.length)(h2:ys.length=N8.length):(dX N8 xs ys t).length=N8.length/\(∀i,i<N8.length->0<=vf (dX N8 xs ys t) i/\vf (dX N8 xs ys t) i<vf N8 i)/\∀i,i<N8.length->vf N8 i∣vf (dX N8 xs ys t) i-(vf xs i+t*vf ys i) :=
 ⟨uR h1 h2,λi hi=>by
  rw[AG h1 h2 hi];have:=yc S i hi;exact⟨T3 _ ⋯,Tt _ ⋯⟩,λi hi=>by rw[AG h1 h2 hi];exact fm _ _⟩
structure ml (ns:List Int) (N8:List Int) (raw Ls:List (List Int)) (R:List Row) (N_:List (List Int)):Prop where
 S:Sz N8
 hr:∀l∈raw,l.length=N8.length/\Bd 200 l
 eL:Ls=raw.map λl=>z9 l N8
 hm:raw.length=Ls.length
 m8:Ls.length<=8
 eA:∀l,l<raw.length->∀i,i<N8.length->AA Ls l i=vf (raw.getD l []) i%vf N8 i
 LL:Ln N8.length Ls.length N8 Ls
 st:St N8.length Ls.length N8 (AA Ls) (Ls.length+1) R
 I:yA N8.length Ls.length (vf N8) (AA Ls) Ls.length N_
 pr:bp Ls.length (λj=>II N_ j j)*bp N8.length (aS (vf N8) (DD R))=bp N8.length (vf N8)
 ord:∀j,j<Ls.length->∀P:cV,Zf (j+1) Ls.length P->Led N8.length (vf N8) Ls.length (AA Ls) (λ_=>0) P->II N_ j j∣P j
 low:∀d,d<N8.length->∀e,d<e->e<N8.length->DD R d e<aS (vf N8) (DD R) e
 nul:∀d,d<N8.length->DD R d d=0->∀i,i<N8.length->DD R d i=0
 Na:jD aC gZ [.dq] [lI N8,.lst (raw.map lI)]=M.ok (jr N8 Ls)
 MN:jD av g8 [] [jr N8 Ls]=M.ok (kh N8 Ls R N_)
theorem ml.get(ns:List Int)(S:Sz N8){raw:List (List Int)}(r8:raw.length<=8)(hr:∀l∈raw,l.length=N8.length/\Bd 200 l):∃Ls R N_,ml ns N8 raw Ls R N_:=by
 have l6:=S.h6;have sp:=yc S;obtain⟨LL,eA⟩:=By S hr;have Na:=Ez N8 raw S r8 λl h=>(hr l h).1;have hm:raw.length=(raw.map λl=>z9 l N8).length:=by simp
 generalize hLs:(raw.map λl=>z9 l N8)=Ls at *;rw[hm] at LL r8;have K:=Dw.all (c:=cf) rfl sp LL AY l6 Ls.length (SE _);have MN:=B5 S.h1 l6 r8 sp LL;generalize RK cf N8 Ls N8.length Ls.length Ls.length=rk at *;have h:=K.st;have hl:∀d,d<N8.length->(aV N8 rk.1 (row rk.1 d) (d+1) (N8.length-(d+1))).1.length=N8.length:=λd hd=>(g9 h (h.wf.oj hd) (h.wf.at2 hd) _ ⋯).1;have lg:=vH (D':=DD (mG N8 rk.1 N8.length)) h.gd (λd e=>vf (aV N8 rk.1 (row rk.1 d) (d+1) (e-(d+1))).1) (λd hd=>ng h (h.wf.oj hd) (h.wf.at2 hd) λi hi=>h.gd.kM d hd i hi) (λd hd i hi=>by
  show vf (aV N8 rk.1 (row rk.1 d) (d+1) (d+1-(d+1))).1 i=_;rw[Zm];rfl) (λd hd i hi=>by unfold DD;rw[lF hd])
 refine⟨Ls,mG N8 rk.1 N8.length,rk.2,S,hr,hLs.symm,hm,r8,eA,LL,JE K.st l6 (HB Ls),K.qu,?_,K.ord,?_,?_,Na,MN⟩
 .rw[iM (f:=aS (vf N8) (DD (mG N8 rk.1 N8.length))) (g:=aS (vf N8) (DD rk.1)) lg.2.1];exact K.pr
 .intro d hd e h1 h2;rw[lg.2.1 e h2];exact lg.2.2.1 d hd e h1 h2
 .exact lg.2.2.2.1
end
def pr:List Int->Int
 | []=>1
 |s::r=>s*pr r
theorem oy:∀(l:List Int)(s:Int),pr (l++[s])=pr l*s
 | [],s=>by simp[pr]
 |x::l,s=>by show x*pr (l++[s])=x*pr l*s;rw[oy l s,WO]
structure Sm (N8:List Int):Prop where
 S:Sz N8
 n4:N8.length<=4
 p:pr N8<=192
theorem qm(xs:List PV)(x:PV){ys:List PV}(e:ys=xs++[x]):aA (.lst ys) (.int (-1))=M.ok x:=by
 have i1:Gr (xs++[x]).length (-1)=some xs.length:=by
  unfold Gr;rw[S6];simp only[UP];rw[if_neg ⋯,if_pos ⋯];congr 1;lia
 subst e;show eB (qr (xs++[x]) (-1))=_;rw[qr,i1];simp[eB]
def AK(i:Int):Cw (M.ok (.int i))=M.ok (.int i):=T6 rfl rfl
theorem yq(c:Int):iI (fX [.int c]) λp=>∃xs:List Int,p=lI xs/\Sm xs:=by
 obtain⟨_,es,xs,rfl,xl,_⟩:=rT (c/8) 1 ↑12;rw[show ((1:Nat):Int)=1 from rfl] at es;obtain⟨x0,rfl⟩:∃x0,xs=[x0]:=by
  cases xs with
  | nil=>simp at xl
  | cons a r=>cases r with
   | nil=>exact⟨a,rfl⟩
   | cons b r=>simp at xl
 obtain⟨u,hu,eu⟩:=pick [c/8,x0] (c/4) 2 rfl ↑12;rw[show ((2:Nat):Int)=2 from rfl] at eu;simp only[S0,VY] at eu;have i0:aA (lI [x0]) (.int 0)=M.ok (.int x0):=aX (p:=lI [x0]) (j:=0) rfl rfl;have n0:=T3 c (show (4:Int)≠0 by decide);have n1:=Tt c (show (0:Int)<4 by decide);unfold fX fY;dsimp? [de,gj (i:=c) (j:=8) ↑12 ↑12,es,i0,gj (i:=c) (j:=4) ↑12 ↑12,bG (i:=c/4) (j:=2) ↑12,eu,bG (i:=c) (j:=4) ↑12,gu (n:=1+c%4) ⋯ ⋯];have N1:(S1 (1+c%4).toNat).length<=4:=by rw[Uj];lia
 have N0:(S1 (1+c%4).toNat).length≠0:=by rw[Uj];lia
 generalize S1 (1+c%4).toNat=N at *;refine iI.loop (xs:=N) (inj:=λ(i:Nat)=>.int (i:Int)) (λzs env=>∃(ss:List Int)(left u:Int)(y4 y5:Option SV),env=[some (.sh (.int c)),some (.ow (ss.map PV.int)),some (.sh (.int left)),some (.sh (.int u)),y4,y5]/\ss.length+zs.length<=N.length/\(ss=[]->left=192/\zs.length=N.length)/\1<=left/\(∀s∈ss,2<=s/\s<=16)/\0<pr ss/\pr ss*left<=192) ⟨[],192,u,none,none,rfl,by simp,λ_=>⟨rfl,rfl⟩,by decide,by simp,by decide,by decide⟩ ?_ ?_
 .rintro i r env ⟨ss,left,u,y4,y5,rfl,hl,h0,l1,hs,hp,hq⟩;rw[Tj] at hl h0
  by_cases h:1<left
  .obtain⟨b,eb,b1,b2⟩:∃b:Int,xQ (λi j=>if j<i then j else i) [.int 15,.int (left-1)]=M.ok (.int b)/\1<=b/\b<=15/\b<=left-1:=by
    refine⟨if left-1<15 then left-1 else 15,rfl,?_,?_,?_⟩<;>split<;>lia
   have m0:=T3 u (show b≠0 by lia);have m1:=Tt u (show 0<b by lia);have hk:(ss.map PV.int).length<1000:=by simp;lia
   generalize hx:2+u%b=s at *;have s2:2<=s/\s<=16/\s<=left:=by lia
   have il:aA (.lst ((ss++[s]).map PV.int)) (.int (-1))=M.ok (.int s):=by
    exact qm (ss.map PV.int) (.int s) ↑13
   have gl:(1<left)=True:=eq_true h;dsimp? [bL,gl,decide_true,eb,bG (i:=u) (j:=b) ⋯,hx,hX,ownAt,gY hk,kn,gj (i:=u) (j:=b) ⋯ ⋯,uF,mI,il,cA (i:=left) (j:=s) ⋯ ⋯,AK];refine⟨_,rfl,ss++[s],left/s,u/b,_,_,rfl,by rw[S6,UP];lia,λz=>absurd z ↑13,?_,λx hx=>?_,by rw[oy];exact Int.mul_pos hp ⋯,?_⟩
   .exact(Int.le_ediv_iff_mul_le ⋯).mpr ⋯
   .rcases TR.mp hx with h|h
    .exact hs x h
    .rw[S7.mp h];lia
   .rw[oy,WO];exact Xd (T8 (Int.mul_ediv_self_le ⋯) ⋯) hq
  .have gl:(1<left)=False:=eq_false h;dsimp? [bL,gl,decide_false];refine⟨_,rfl,ss,left,u,_,_,rfl,by lia,λz=>?_,l1,hs,hp,hq⟩;have:=(h0 z).1;lia
 .rintro env ⟨ss,left,u,y4,y5,rfl,hl,h0,l1,hs,hp,hq⟩;have ne:ss≠[]:=λz=>N0 (by have:=(h0 z).2;simpa using this.symm);have:=Z6.mpr ne;dsimp? [];refine⟨_,rfl,ss,rfl,⟨by lia,by simp at hl;lia,λx hx=>by have:=hs x hx;lia⟩,by simp at hl;lia,?_⟩;have:=T8 l1 (Zl hp);lia
theorem wk(ns:List Int)(S:Sz N8):iI (fc [.jz (ns.map PV.int),lI N8]) λp=>∃raw:List (List Int),p=.lst (raw.map lI)/\raw.length<=8/\∀l∈raw,l.length=N8.length/\Bd 200 l:=by
 have l6:=S.h6;obtain⟨c1,e1⟩:=tm ns 1;rw[show ((1:Nat):Int)=1 from rfl] at e1;have n0:=T3 c1 (show (9:Int)≠0 by decide);have n1:=Tt c1 (show (0:Int)<9 by decide);unfold fc eZ;dsimp? [de,e1,bG (i:=c1) (j:=9) ↑12,gu (n:=c1%9) ⋯ ⋯];have N1:(S1 (c1%9).toNat).length<=8:=by rw[Uj];lia
 have N2:∀i∈S1 (c1%9).toNat,i<9:=λi hi=>by have:=Uo.mp hi;lia
 generalize S1 (c1%9).toNat=N at *;refine iI.loop (xs:=N) (inj:=λ(i:Nat)=>.int (i:Int)) (λzs env=>∃(raw:List (List Int))(y3 y4 y5 y6:Option SV),env=[some (.sh (.jz (ns.map PV.int))),some (.sh (lI N8)),some (.ow (raw.map lI)),y3,y4,y5,y6]/\raw.length+zs.length<=8/\(∀i∈zs,i<9)/\∀l∈raw,l.length=N8.length/\Bd 200 l) ⟨[],none,none,none,none,rfl,by simpa using N1,N2,by simp⟩ ?_ ?_
 .rintro i r env ⟨raw,y3,y4,y5,y6,rfl,hl,hi,hr⟩;rw[Tj] at hl;have i9:=hi i SS;obtain⟨c2,e2⟩:=tm ns (2+i);rw[show ((2+i:Nat):Int)=2+(i:Int) by lia] at e2;have hk:(raw.map lI).length<1000:=by simp;lia
  have app:∀l:List Int,raw.map lI++[lI l]=(raw++[l]).map lI:=λl=>by simp
  by_cases h:c1/9%2=1
  .obtain⟨xs,ex,xl,xz⟩:=rR c2 (lI N8) N8 rfl (λb hb=>by have:=S.hx b hb;lia) ⋯;dsimp? [bL,de,e1,cA (i:=c1) (j:=9) ↑12 ↑12,bG (i:=c1/9) (j:=2) ↑12,h,decide_true,e2,ex,hX,ownAt,gY hk,app];refine⟨_,rfl,raw++[xs],_,_,_,_,rfl,by simp;lia,λi z=>hi i (SO _ z),λl z=>?_⟩;rcases TR.mp z with z|z
   .exact hr l z
   .rw[S7.mp z];refine⟨xl,λx hx=>?_⟩;obtain⟨j,hj,rfl⟩:=S9.mp hx;have:=xz (xs[j],N8[j]'(by lia)) (S9.mpr ⟨j,by simp;lia,by simp⟩);have:=S.hx (N8[j]'(by lia)) (TZ _);simp only at *;lia
  .obtain⟨_,es,xs,rfl,xl,xz⟩:=rT (c2+7919*(i:Int)) N8.length ⋯;dsimp? [bL,de,e1,cA (i:=c1) (j:=9) ↑12 ↑12,bG (i:=c1/9) (j:=2) ↑12,h,decide_false,e2,cO (i:=7919) (j:=(i:Int)) (k:=31) (l:=31) ↑12 ⋯,SG,es,lD (p:=lI xs) (q:=lI N8) xs N8 rfl rfl];refine iI.loop (xs:=xs.zip N8) (inj:=λz:Int×Int=>.tup [.int z.1,.int z.2]) (λzs env=>∃(l:List Int)(y5 y6:Option SV),env=[some (.sh (.jz (ns.map PV.int))),some (.sh (lI N8)),some (.ow (raw.map lI)),some (.sh (.int (i:Int))),some (.ow (l.map PV.int)),y5,y6]/\l.length+zs.length=N8.length/\(∀z∈zs,2<=z.2/\z.2<=360/\0<=z.1)/\Bd 200 l) ⟨[],_,_,rfl,by simp[xl],λz hz=>?_,(λ_ h=>nomatch h)⟩ ?_ ?_
   .obtain⟨a,b⟩:=UD (a:=z.1) (b:=z.2) hz;have:=S.hx z.2 b;have:=xz z.1 a;lia
   .rintro z rr env ⟨l,y5,y6,rfl,hll,hz,hb⟩;rw[Tj] at hll;have h2:=hz z SS;obtain⟨v,hv,ev⟩:=pick [0,z.1/3%z.2,z.2/2,z.1/3%z.2-z.2] z.1 4 rfl ↑12;rw[show ((4:Nat):Int)=4 from rfl] at ev;simp only[S0,VY] at ev;have m0:=T3 (z.1/3) (show z.2≠0 by lia);have m1:=Tt (z.1/3) (show 0<z.2 by lia);have vb:v.natAbs<2^200:=by
     simp only[SQ,List.not_mem_nil,or_false] at hv;have:v.natAbs<1000:=by lia
     exact W7 this ↑12
    have PM:(l.map PV.int).length<1000:=by simp;lia
    dsimp? [bT,cA (i:=z.1) (j:=3) ↑12 ↑12,bG (i:=z.1/3) (j:=z.2) ⋯,cA (i:=z.2) (j:=2) ↑12 ↑12,bG (i:=z.1) (j:=4) ↑12,hX,ownAt];rw[ev];dsimp? [gY PM,kn];refine⟨_,rfl,l++[v],_,_,rfl,by simp;lia,λz h=>hz z (SO _ h),λx hx=>?_⟩;rcases TR.mp hx with q|q
    .exact hb x q
    .rw[S7.mp q];exact vb
   .rintro env ⟨l,y5,y6,rfl,hll,hz,hb⟩;have app':raw.map lI++[PV.lst (l.map PV.int)]=(raw++[l]).map lI:=app l;dsimp? [hX,ownAt,gY hk,app'];refine⟨_,rfl,raw++[l],_,_,_,_,rfl,by simp;lia,λi z=>hi i (SO _ z),λx z=>?_⟩;rcases TR.mp z with z|z
    .exact hr x z
    .rw[S7.mp z];exact⟨by simpa using hll,hb⟩
 .rintro env ⟨raw,y3,y4,y5,y6,rfl,hl,hi,hr⟩;dsimp? [];exact⟨_,rfl,raw,rfl,by simpa using hl,hr⟩
def y_(sm:List Int->List Int->List Int)(r:List Int):Nat->List Int
 | 0=>r
 |j+1=>sm (y_ sm r j) r
def zL(sm:List Int->List Int->List Int)(z r:List Int):Nat->List Int
 | 0=>z
 |j+1=>sm (zL sm z r j) r
def Nx(sm:List Int->List Int->List Int)(z r:List Int)(m:Nat)(T:List Int->Prop)(B:List Int):Prop:=T B\/∃A j,T A/\j<m/\B=sm A (zL sm z r (j+1))
def Kp(N8 xs:List Int):Prop:=xs.length=N8.length/\∀i,i<N8.length->0<=vf xs i/\vf xs i<vf N8 i
abbrev sm(N8 A B:List Int):List Int:=dX N8 A B 1
variable{T:List Row}{ns:List Int}
variable{c:Nat}
section
variable{raw:List (List Int)}
def kP{t:Int}(S:Sz N8){A B:List Int}(h1:A.length=N8.length)(h2:B.length=N8.length):Kp N8 (dX N8 A B t)/\∀i,i<N8.length->vf N8 i∣vf (dX N8 A B t) i-(vf A i+t*vf B i):=by
 obtain⟨a,b,c⟩:=wG (t:=t) S h1 h2;exact⟨⟨a,b⟩,c⟩
def dF(S:Sz N8){A B:List Int}(h1:A.length=N8.length)(h2:B.length=N8.length):Kp N8 (sm N8 A B)/\∀i,i<N8.length->vf N8 i∣vf (sm N8 A B) i-(vf A i+vf B i):=by
 obtain⟨a,b⟩:=kP (t:=1) S h1 h2;exact⟨a,λi hi=>by have:=b i hi;rwa [WB] at this⟩
theorem j7(S:Sz N8){r:List Int}(h:Kp N8 r):∀j,Kp N8 (y_ (sm N8) r j)/\∀i,i<N8.length->vf N8 i∣vf (y_ (sm N8) r j) i-((j:Int)+1)*vf r i
 | 0=>⟨h,λi hi=>⟨0,by show vf r i-_=_;simp⟩⟩
 | j+1=>by
  obtain⟨k,d⟩:=j7 S h j;obtain⟨k2,d2⟩:=dF S k.1 h.1;refine⟨k2,λi hi=>?_⟩;obtain⟨a,ea⟩:=d i hi;obtain⟨b,eb⟩:=d2 i hi;refine⟨a+b,?_⟩;show vf (sm N8 (y_ (sm N8) r j) r) i-_=_;have:((j+1:Nat):Int)=(j:Int)+1:=by lia
  rw[this]
  grind
theorem j9(S:Sz N8){r:List Int}(h:Kp N8 r):∀j,Kp N8 (zL (sm N8) (Sx N8.length 0) r j)/\∀i,i<N8.length->vf N8 i∣vf (zL (sm N8) (Sx N8.length 0) r j) i-(j:Int)*vf r i
 | 0=>⟨⟨by simp[zL],eK S⟩,λi hi=>⟨0,by show vf (Sx N8.length 0) i-_=_;rw[c9];simp⟩⟩
 | j+1=>by
  obtain⟨k,d⟩:=j9 S h j;obtain⟨k2,d2⟩:=dF S k.1 h.1;refine⟨k2,λi hi=>?_⟩;obtain⟨a,ea⟩:=d i hi;obtain⟨b,eb⟩:=d2 i hi;refine⟨a+b,?_⟩;show vf (sm N8 (zL (sm N8) (Sx N8.length 0) r j) r) i-_=_;have:((j+1:Nat):Int)=(j:Int)+1:=by lia
  rw[this]
  grind
def Rc(N8:List Int)(Ls:List (List Int))(c:Nat)(B:List Int):Prop:=Kp N8 B/\∃P:cV,Zf c Ls.length P/\Led N8.length (vf N8) Ls.length (AA Ls) (vf B) P
def ml.kp(Q:ml ns N8 raw Ls T N_)(hc:c<Ls.length):Kp N8 (Ls.getD c []):=⟨Q.LL.at_ c hc,Q.LL.kM c hc⟩
theorem lT(Q:ml ns N8 raw Ls T N_)(hc:c<Ls.length):Led N8.length (vf N8) Ls.length (AA Ls) (AA Ls c) (λl=>if l=c then 1 else 0):=λi hi=>by
 rw[mO c (AA Ls c i) Ls.length hc (λl=>(if l=c then 1 else 0)*AA Ls l i) λl hl=>by
  by_cases z:l=c
  .subst z;simp
  .simp[z]]
 exact⟨0,by lia⟩
theorem Rc.zero(Q:ml ns N8 raw Ls T N_)(B:List Int):Rc N8 Ls 0 B ↔ B=Sx N8.length 0:=by
 constructor
 .rintro⟨k,P,zf,led⟩;refine fU k.1 ↑13 k.2 (eK Q.S) λi hi=>?_;have:=led i hi;rw[gA (g:=λ_=>0) λl hl=>by rw[zf l (SX _) hl,Xe],eV] at this;rw[c9];exact this
 .rintro rfl;refine⟨⟨by simp,eK Q.S⟩,λ_=>0,λ_ _ _=>rfl,λi hi=>?_⟩;rw[gA (g:=λ_=>0) λl hl=>Xe _,eV,c9];exact⟨0,by lia⟩
theorem Rc.before(Q:ml ns N8 raw Ls T N_){j:Nat}(hc:c<Ls.length)(hj:(j:Int)+1<II N_ c c):¬ Rc N8 Ls c (y_ (sm N8) (Ls.getD c []) j):=by
 rintro⟨k,P,zf,led⟩;obtain⟨_,d⟩:=j7 Q.S (Q.kp hc) j;have:=Q.ord c hc (λl=>1*P l+(-((j:Int)+1))*(if l=c then 1 else 0)) (λl a b=>by
  show 1*P l+(-((j:Int)+1))*(if l=c then 1 else 0)=0;rw[zf l ⋯ b,if_neg ⋯];lia) (Led.mix (a:=1) (b:=-((j:Int)+1)) led (lT Q hc) (λi hi=>by
   obtain⟨x,hx⟩:=d i hi;exact⟨-x,by show 0-(1*_+-((j:Int)+1)*AA Ls c i)=_;unfold AA;grind⟩) λl hl=>rfl)
 simp only[if_pos,zf c (SE _) hc] at this;have h0:=iH (a:=(j:Int)+1) (b:=II N_ c c) (by
  obtain⟨x,hx⟩:=this;exact⟨-x,by grind⟩) ⋯ hj
 lia
theorem Rc.at_(Q:ml ns N8 raw Ls T N_)(hc:c<Ls.length)(hm:(m:Int)+1=II N_ c c):Rc N8 Ls c (y_ (sm N8) (Ls.getD c []) m):=by
 obtain⟨k,d⟩:=j7 Q.S (Q.kp hc) m;refine⟨k,λl=>(-1)*II N_ c l+II N_ c c*(if l=c then 1 else 0),λl a b=>?_,Led.mix (a:=-1) (b:=II N_ c c) (Q.I.qu c hc) (lT Q hc) (λi hi=>?_) λl hl=>rfl⟩
 .show (-1)*II N_ c l+II N_ c c*(if l=c then 1 else 0)=0
  by_cases z:l=c
  .subst z;simp;lia
  .rw[if_neg z,Q.I.zero c hc l ⋯ b];lia
 .obtain⟨x,hx⟩:=d i hi;refine⟨x,?_⟩;show _-(-1*0+II N_ c c*AA Ls c i)=_;unfold AA;rw[<- hm]
  grind
theorem Rc.next(Q:ml ns N8 raw Ls T N_)(hc:c<Ls.length)(hm:(m:Int)+1=II N_ c c)(B:List Int):Nx (sm N8) (Sx N8.length 0) (Ls.getD c []) m (Rc N8 Ls c) B ↔ Rc N8 Ls (c+1) B:=by
 have kr:=Q.kp hc;constructor
 .rintro(⟨k,P,zf,led⟩|⟨A,j,⟨k,P,zf,led⟩,hj,rfl⟩)
  .exact⟨k,P,λl a b=>zf l ⋯ b,led⟩
  .obtain⟨k2,d2⟩:=j9 Q.S kr (j+1);obtain⟨k3,d3⟩:=dF Q.S k.1 k2.1;refine⟨k3,λl=>1*P l+((j+1:Nat):Int)*(if l=c then 1 else 0),λl a b=>?_,Led.mix (a:=1) (b:=((j+1:Nat):Int)) led (lT Q hc) (λi hi=>?_) λl hl=>rfl⟩
   .show 1*P l+((j+1:Nat):Int)*(if l=c then 1 else 0)=0;rw[zf l ⋯ b,if_neg ⋯];lia
   .obtain⟨x,hx⟩:=d2 i hi;obtain⟨y,hy⟩:=d3 i hi;exact⟨x+y,by unfold AA;grind⟩
 .rintro⟨k,P,zf,led⟩;have ip:=Q.I.pos c hc;obtain⟨j,hj⟩:=Vs (T3 (P c) (show II N_ c c≠0 by lia));have jl:=Tt (P c) ip;have ed:=Int.emod_add_mul_ediv (P c) (II N_ c c);have Qb:Led N8.length (vf N8) Ls.length (AA Ls) (vf B) (λl=>1*P l+(-(P c/II N_ c c))*II N_ c l):=Led.mix (a:=1) (b:=-(P c/II N_ c c)) led (Q.I.qu c hc) (λi hi=>⟨0,by show vf B i-(1*vf B i+_*0)=_;lia⟩) λl hl=>rfl;have pc:1*P c+(-(P c/II N_ c c))*II N_ c c=(j:Int):=by rw[<- hj];grind
  have pz:∀l,c<l->l<Ls.length->1*P l+(-(P c/II N_ c c))*II N_ c l=0:=λl a b=>by rw[zf l ⋯ b,Q.I.zero c hc l a b];lia
  cases j with
  | zero =>
   refine .inl ⟨k,_,λl a b=>?_,Qb⟩;rcases aal a with z|z
   .subst z;exact pc
   .exact pz l z b
  | succ j =>
   obtain⟨ka,da⟩:=kP (t:=-((j+1:Nat):Int)) Q.S k.1 kr.1;obtain⟨k2,d2⟩:=j9 Q.S kr (j+1);obtain⟨k3,d3⟩:=dF Q.S ka.1 k2.1;refine .inr ⟨dX N8 B (Ls.getD c []) (-((j+1:Nat):Int)),j,⟨ka,λl=>1*(1*P l+(-(P c/II N_ c c))*II N_ c l)+(-((j+1:Nat):Int))*(if l=c then 1 else 0),λl a b=>?_,Led.mix (a:=1) (b:=-((j+1:Nat):Int)) Qb (lT Q hc) (λi hi=>?_) λl hl=>rfl⟩,by lia,?_⟩
   .rcases aal a with z|z
    .subst z;show 1*(1*P c+(-(P c/II N_ c c))*II N_ c c)+(-((j+1:Nat):Int))*(if c=c then 1 else 0)=0;rw[pc,if_pos rfl];lia
    .show 1*(1*P l+(-(P c/II N_ c c))*II N_ c l)+(-((j+1:Nat):Int))*(if l=c then 1 else 0)=0;rw[pz l z b,if_neg ⋯];lia
   .obtain⟨x,hx⟩:=da i hi;exact⟨x,by unfold AA;grind⟩
   .refine(fU k3.1 k.1 k3.2 k.2 λi hi=>?_).symm;obtain⟨x,hx⟩:=da i hi;obtain⟨y,hy⟩:=d2 i hi;obtain⟨z,hz⟩:=d3 i hi;exact⟨x+y+z,by grind⟩
end
def tw(k:List Int):z8 (tI k)=some k:=mL k
def CT(Oa:KD)(k:List Int):(l8 Oa k).isSome=true ↔ k∈Oa.map (·.1):=by
 rw[<- oQ,List.any_eq_true];constructor
 .rintro⟨x,h,e⟩;exact TF.mpr ⟨x,h,of_decide_eq_true e⟩
 .intro h;obtain⟨x,h,e⟩:=TF.mp h;exact⟨x,h,decide_eq_true e⟩
def fx(l:List (List Int)):KD:=l.map λk=>(k,.bl true)
def oX(l:List (List Int)):(fx l).map (·.1)=l:=by unfold fx;rw[Ti];exact Ys _
def mz(l:List (List Int)):rN (fx l)=l.map tI:=by unfold rN fx;rw[Ti];rfl
def Bk(l:List (List Int))(k:List Int):(l8 (fx l) k).isSome=decide (k∈l):=by
 rw[XE,CT,oX,decide_eq_true_eq]
def jg(n:Bool)(l:List (List Int))(k:List Int):IM n (fx l) (tI k)=M.ok (.bl (n ^^ decide (k∈l))):=by
 unfold IM;rw[tw];show M.ok (PV.bl (n ^^ (l8 (fx l) k).isSome))=_;rw[Bk]
variable{l:List (List Int)}
def B0{k:List Int}(h:k ∉ l):putD (fx l) k (.bl true)=fx (l++[k]):=by
 unfold putD;rw[oQ,Bk,decide_eq_false h,if_neg ↑13];unfold fx;rw[Vx];rfl
theorem iI.nx{b:M Out}{J:af->Prop}(h:iI b λo=>∃e,o=.nx e/\J e):∃e,b=M.ok (.nx e)/\J e:=by
 obtain⟨_,e,e',rfl,j⟩:=h;exact⟨e',e,j⟩
def iI.Gx{β:Type}{R:β->Prop}{u:af->M Bool}{b:af->M Out}{k:Out->M β}(J:af->Prop)(m:af->Nat){env:af}(h:J env)(H:∀env,J env->(u env=M.ok false)\/(u env=M.ok true/\∃Od,b env=M.ok (.nx Od)/\J Od/\m Od<m env))(hk:∀Od,J Od->u Od=M.ok false->iI (k (.nx Od)) R):iI (M.bind (jK u b env) k) R:=by
 obtain⟨Od,e,h',hu⟩:=rD J m H env h;rw[e,M.aH];exact hk Od h' hu
theorem GG{α:Type}[DecidableEq α]:∀(l m:List α),l.Nodup->(∀x∈l,x∈m)->l.length<=m.length
 | [],_,_,_=>SX _
 | a::l,m,nd,h=>by
  have ha:=h a SS;obtain⟨na,nd'⟩:=Vv.mp nd;have:=GG l (m.erase a) nd' λx hx=>(List.mem_erase_of_ne (λe:x=a=>na (by rwa[<- e]))).mpr (h x (SO _ hx));rw[List.length_erase_of_mem ha] at this;have:=Zn ha;simp only[Tj];lia
def D5(ls:List (List Int))(s:Int):List (List Int):=ls.flatMap λl=>(S1 s.toNat).map λ(k:Nat)=>l++[(k:Int)]
def vh(N8:List Int):List (List Int):=N8.foldl D5 [[]]
theorem Fn(ls:List (List Int))(s:Int):(D5 ls s).length=ls.length*s.toNat:=by
 unfold D5
 induction ls with
 | nil=>simp
 |cons l r ih=>rw[List.flatMap_cons,S6,ih,SG,Uj,Tj,aaW];lia
variable{x:List Int}
theorem Ed{ls:List (List Int)}{s:Int}:x∈D5 ls s ↔ ∃l k,l∈ls/\0<=k/\k<s/\x=l++[k]:=by
 unfold D5;rw[aaR];constructor
 .rintro⟨l,hl,h⟩;obtain⟨k,hk,rfl⟩:=TF.mp h;have:=Uo.mp hk;exact⟨l,k,hl,by lia,by lia,rfl⟩
 .rintro⟨l,k,hl,h0,h1,rfl⟩;exact⟨l,hl,TF.mpr ⟨k.toNat,Uo.mpr ⋯,by rw[V9 h0]⟩⟩
theorem xt{l:List Int}{k:Int}:vf (l++[k]) i=if i<l.length then vf l i else if i=l.length then k else 0:=by
 unfold vf;rcases Yu i l.length with h|h|h
 .rw[if_pos h];simp[X3,TX h]
 .subst h;simp[X3]
 .rw[if_neg ⋯,if_neg ⋯];simp[X3];rw[Wt (by simp;lia)];rfl
def r_(d:List Int)(s:Int):vh (d++[s])=D5 (vh d) s:=by unfold vh;rw[List.foldl_append];rfl
def take_snoc(N8:List Int)(h:c<N8.length):N8.take (c+1)=N8.take c++[N8[c]]:=V1 h
theorem sE{N8:List Int}:∀c,c<=N8.length->∀x:List Int,x∈vh (N8.take c) ↔ x.length=c/\∀i,i<c->0<=vf x i/\vf x i<vf N8 i
 | 0,_,x=>by
  rw[List.take_zero,show vh []=[[]] from rfl,S7];exact⟨λh=>by rw[h];exact⟨rfl,λi hi=>absurd hi (XG i)⟩,λh=>Wd.mp h.1⟩
 | c+1,h,x=>by
  rw[take_snoc N8 h,r_,Ed];have ih:=sE (N8:=N8) c ⋯;constructor
  .rintro⟨l,k,hl,h0,h1,rfl⟩;obtain⟨e,q⟩:=(ih l).mp hl;refine⟨by rw[S6,e];rfl,λi hi=>?_⟩;rcases YA.mp hi with z|z
   .rw[xt,if_pos ⋯];exact q i z
   .subst z;rw[xt,if_neg ⋯,if_pos ⋯,aY h];exact⟨h0,h1⟩
  .rintro⟨e,q⟩;have qc:=q c ⋯;rw[aY ⋯,aY (xs:=N8) h] at qc;refine⟨x.take c,x[c]'(by lia),(ih _).mpr ⟨by simp;lia,λi hi=>?_⟩,qc.1,qc.2,?_⟩
   .have:=q i ⋯;rw[aY ⋯] at this;rw[aY (by simp;lia),List.getElem_take];exact this
   .rw[<- V1 ⋯,Xf ⋯]
def Bi:x∈vh N8 ↔ Kp N8 x:=by
 have:=sE (N8:=N8) N8.length (SE _) x;rw[WE] at this;exact this.trans ⟨λh=>⟨h.1,h.2⟩,λh=>⟨h.1,h.2⟩⟩
theorem uJ:∀S:List (List Int),(∀x∈S,x≠[])->rY (S.map tI)=some S
 | [],_=>rfl
 | []::S,h=>absurd rfl (h _ (.head _))
 | (n::x)::S,h=>by
  rw[S0,rY,uJ S λy hy=>h y (.tail _ hy)];rw[show Ce (tI (n::x))=some (n::x) from mB _]
theorem qX(xs ys:List (List Int)):nv (.lst (xs.map tI)) (.lst (ys.map tI))=M.ok (.bl (!decide (xs=ys))):=by
 simp only[nv,n5,dat,sv,XI,Ft];have h1:=iW xs;have h2:=iW ys;rw[ar (by simp[SeqAt.shaped,U_,VB,nG,SeqAt.noMix,k9];lia)];unfold Spec.same;rw[m_];rfl
def BS(xs:List Int)(c:Nat):L5 (tI xs) none (some (c:Int))=M.ok (tI (xs.take c)):=by
 show M.ok (PV.tup (nR (xs.map PV.int) none (some (c:Int))))=_;have:xs.take (min c xs.length)=xs.take c:=by
  rcases Nat.le_total c xs.length with h|h
  .rw[Nat.min_eq_left h]
  .rw[Nat.min_eq_right h,WE,Xf h]
 rw[nR,HT.BQ,HT.sU,List.drop_zero,SG,Y4,<- List.map_take,this];rfl
def Ba{F:List (List Int)}(h:F≠[])(hn:∀x∈F,x≠[]):sC [.lst (F.map tI)]=M.ok (tI (yi F)):=by
 simp only[sC];rw[uJ F hn];cases F with
 | nil=>exact absurd rfl h
 |cons x r=>rfl
theorem xC{N8:List Int}(S:Sz N8):∀c,c<=N8.length->((vh (N8.take c)).length:Int)=pr (N8.take c)
 | 0,_=>rfl
 | c+1,h=>by
  rw[take_snoc N8 h,r_,Fn,oy,Zv,xC S c ⋯];have:=S.hx _ (TZ h);rw[V9 ⋯]
theorem Sm.Bc(S:Sm N8)(nd:l.Nodup)(h:∀x∈l,Kp N8 x):l.length<=192:=by
 have a:=GG l (vh N8) nd λx hx=>Bi.mpr (h x hx);have b:=xC S.S N8.length (SE _);rw[WE] at b;have:=S.p;lia
theorem Dk:∀(N8 xs:List Int),xs.length=N8.length->(∀i,i<N8.length->0<=vf xs i/\vf xs i<vf N8 i)->(RH.box (xs.map WH):Int)<=pr N8
 | [],[],_,_=>Int.le_refl _
 | s::N8,x::xs,hl,h=>by
  have ih:=Dk N8 xs (by simpa using hl) λi hi=>h (i+1) (by simpa using hi);have h0:0<=x/\x<s:=h 0 (Nat.zero_lt_succ _);have e:((RH.box ((x::xs).map WH):Nat):Int)=(x+1)*(RH.box (xs.map WH):Int):=by
   show (((x.toNat+1)*RH.box (xs.map WH):Nat):Int)=_;rw[Zv,Int.natCast_add,V9 h0.1];rfl
  rw[e];show _<=s*pr N8;have p:=RH.ot (xs.map WH);exact Xd (Wh (show x+1<=s by lia) ⋯) (T8 ih ⋯)
theorem Sm.key(S:Sm N8)(h:Kp N8 x):IE N8.length x:=by
 refine⟨h.1,S.n4,λy hy=>?_,?_⟩
 .obtain⟨i,hi,rfl⟩:=S9.mp hy;have:=(h.2 i (by rwa[<- h.1])).1
  rwa [aY hi] at this
 .have:=Dk N8 x h.1 h.2;have:=S.p;lia
variable{ks:List (List Int)}
def FC(S:Sm N8)(ne:ks≠[])(nd:ks.Nodup)(h:∀x∈ks,Kp N8 x)(i:Nat)(env:af):A8 i env (.dR (fx ks))=M.ok (.nx (env.set i (some (.dw (fx ks))))):=by
 refine if_pos ⟨?_,by rwa[oX],N8.length,λz hz=>S.key (h _ ?_)⟩
 .intro z;exact ne (XR.mp z)
 .obtain⟨k,hk,rfl⟩:=TF.mp hz;exact hk
def Eo{l j:Nat}{env:af}{xs:List PV}(h:ownAt l env=M.ok (xs++[p])):Ab i l j k sem env=(aa j env).bind λa=>(aa k env).bind λb=>(sem [a,p,b,.int 1]).bind λq=>M.ok (.nx ((env.set l (some (.ow xs))).set i (some (.sh q)))):=by
 unfold Ab;rw[h,M.aH,List.getLast?_concat,sH,M.aH,List.dropLast_concat]
section
variable{raw:List (List Int)}
def Be(b:Bool):C8 (M.ok b)=M.ok b:=T6 rfl rfl
theorem ml.uI(Q:ml ns N8 raw Ls T N_)(hc:c<Ls.length):(raw.getD c []).length=N8.length/\Bd 200 (raw.getD c []):=Q.hr _ (by
 have:=Q.hm;rw[SJ,Sy ⋯];exact TZ _)
theorem uq(Q:ml ns N8 raw Ls T N_)(hc:c<Ls.length)(h:x.length=N8.length)(t:Int):dX N8 x (raw.getD c []) t=dX N8 x (Ls.getD c []) t:=by
 obtain⟨k1,d1⟩:=kP (t:=t) Q.S h (Q.uI hc).1;obtain⟨k2,d2⟩:=kP (t:=t) Q.S h (Q.kp hc).1;refine fU k1.1 k2.1 k1.2 k2.2 λi hi=>?_;obtain⟨a,ha⟩:=d1 i hi;obtain⟨b,hb⟩:=d2 i hi;have e:=Q.eA c (by rwa[Q.hm]) i hi;obtain⟨y,hy⟩:=m9 (vf (raw.getD c []) i) (vf N8 i);rw[<- e] at hy;unfold AA at hy;exact⟨a-b+t*y,by grind⟩
structure Mo (N8:List Int) (Ls:List (List Int)) (c:Nat) (ks line fr:List (List Int)):Prop where
 nd:line.Nodup
 kp:∀x∈line,Rc N8 Ls (c+1) x
 sub:∀x∈ks,x∈line
 fn:fr.Nodup
 fs:∀x∈fr,x∈line
 cl:∀x∈line,x∈fr\/sm N8 x (Ls.getD c [])∈line
theorem Mo.Bc{c:Nat}{ks line fr:List (List Int)}(M:Mo N8 Ls c ks line fr)(S:Sm N8):line.length<=192/\fr.length<=192:=⟨S.Bc M.nd λx hx=>(M.kp x hx).1,S.Bc M.fn λx hx=>(M.kp x (M.fs x hx)).1⟩
theorem Rc.more(Q:ml ns N8 raw Ls T N_)(hc:c<Ls.length)(h:Rc N8 Ls (c+1) x):Rc N8 Ls (c+1) (sm N8 x (Ls.getD c [])):=by
 obtain⟨k,P,zf,led⟩:=h;obtain⟨k2,d2⟩:=dF Q.S k.1 (Q.kp hc).1;refine⟨k2,λl=>1*P l+1*(if l=c then 1 else 0),λl a b=>?_,Led.mix (a:=1) (b:=1) led (lT Q hc) (λi hi=>?_) λl hl=>rfl⟩
 .show 1*P l+1*(if l=c then 1 else 0)=0;rw[zf l a b,if_neg ⋯];rfl
 .obtain⟨y,hy⟩:=d2 i hi;exact⟨y,by unfold AA;grind⟩
theorem Rc.up(h:Rc N8 Ls c x):Rc N8 Ls (c+1) x:=by
 obtain⟨k,P,zf,led⟩:=h;exact⟨k,P,λl a b=>zf l ⋯ b,led⟩
theorem Fd(S:Sm N8)(Q:ml ns N8 raw Ls T N_)(hc:c<Ls.length)(nd:ks.Nodup)(hk:∀x,x∈ks ↔ Rc N8 Ls c x):∃QD:List (List Int),fE [lI N8,.dR (fx ks),lI (raw.getD c [])]=M.ok (.dR (fx QD))/\QD.Nodup/\∀x,x∈QD ↔ Rc N8 Ls (c+1) x:=by
 suffices h:iI (fE [lI N8,.dR (fx ks),lI (raw.getD c [])]) λp=>∃QD:List (List Int),p=.dR (fx QD)/\QD.Nodup/\∀x,x∈QD ↔ Rc N8 Ls (c+1) x by
  obtain⟨_,e,ks,rfl,q⟩:=h;exact⟨ks,e,q⟩
 have ra:=Q.uI hc;have l6:=S.S.h6;have ne:ks≠[]:=λz=>by
  have:=(hk (Sx N8.length 0)).mpr ⟨⟨by simp,eK Q.S⟩,λ_=>0,λ_ _ _=>rfl,λi hi=>by
   rw[gA (g:=λ_=>0) λl hl=>Xe _,eV,c9];exact⟨0,by lia⟩⟩
  rw[z] at this;cases this
 unfold fE gR;dsimp? [Ae,FC S ne nd λx hx=>((hk x).mp hx).1,wI,nW,mz];refine iI.Gx (λenv=>∃(line fr:List (List Int))(y5:Option SV),env=[some (.sh (lI N8)),some (.sh (.dR (fx ks))),some (.sh (lI (raw.getD c []))),some (.dw (fx line)),some (.ow (fr.map tI)),y5]/\Mo N8 Ls c ks line fr) (λenv=>match env with
  | [_,_,_,some (.dw Oa),some (.ow fs),_]=>2*(200-Oa.length)+fs.length
  | _=>0) ⟨ks,ks,none,rfl,nd,λx hx=>((hk x).mp hx).up,λx hx=>hx,nd,λx hx=>hx,λx hx=>.inl hx⟩ ?_ ?_
 .rintro env ⟨line,fr,y5,rfl,mo⟩;obtain⟨f1,f2⟩:=mo.Bc S;rcases Wu fr with rfl|⟨fr,x,rfl⟩
  .exact .inl (by dsimp? [vo,ownAt,mI,VY];rfl)
  .have nx:x ∉ fr:=λh=>by
    have:=mo.fn;rw[Wv,Xg] at this;exact this.2.2 x h x SS rfl
   rw[Wv] at mo f2 ⊢;have fn':fr.Nodup:=(Xg.mp mo.fn).1;have mx:=mo.fs x (TJ _ SS);have kx:=mo.kp x mx;have em:(fr++[x]).map tI=fr.map tI++[tI x]:=by simp
   have ad:aL [lI N8,tI x,lI (raw.getD c []),.int 1]=M.ok (tI (sm N8 x (Ls.getD c []))):=by
    rw[jL (mr S.S) l6 kx.1.1 rfl ra.2 ↑12,uq Q hc kx.1.1]
   have cl':∀y∈line,sm N8 x (Ls.getD c [])∈line->y∈fr\/sm N8 y (Ls.getD c [])∈line:=λy hy h=>by
    rcases mo.cl y hy with q|q
    .rcases TR.mp q with q|q
     .exact .inl q
     .rw[S7.mp q];exact .inr h
    .exact .inr q
   rw[S6,UP] at f2;refine .inr ⟨?_,iI.nx ?_⟩
   .have:nv (.lst ((fr++[x]).map tI)) (.lst [])=M.ok (.bl true):=by
     rw[show PV.lst []=.lst (([]:List (List Int)).map tI) from rfl,qX,decide_eq_false ↑13];rfl
    dsimp? [vo,ownAt,mI,this,Be]
   .rw[em];have pe:∀env:af,env=[some (.sh (lI N8)),some (.sh (.dR (fx ks))),some (.sh (lI (raw.getD c []))),some (.dw (fx line)),some (.ow (fr.map tI++[tI x])),y5]->Ab 5 4 0 2 aL env=M.ok (.nx [some (.sh (lI N8)),some (.sh (.dR (fx ks))),some (.sh (lI (raw.getD c []))),some (.dw (fx line)),some (.ow (fr.map tI)),some (.sh (tI (sm N8 x (Ls.getD c []))))]):=λenv e=>by
     subst e;rw[Eo (xs:=fr.map tI) (p:=tI x) rfl];dsimp? [ad]
    by_cases mem:sm N8 x (Ls.getD c [])∈line
    .dsimp? [pe _ rfl,Lu,nW,jg,decide_eq_true mem];refine⟨_,rfl,_,rfl,⟨line,fr,_,rfl,mo.nd,mo.kp,mo.sub,fn',λy hy=>mo.fs y (Ut _ hy),λy hy=>cl' y hy mem⟩,?_⟩;simp
    .have lz:(fx line).length<sizeLine:=by rw[fx,SG];exact UY f1 ↑12
     dsimp? [pe _ rfl,Lu,nW,jg,decide_eq_false mem,Dl,tw,lz,B0 mem,hX,ownAt,gY (xs:=fr.map tI) (show (fr.map tI).length<1000 by simp;lia)];refine⟨_,rfl,_,rfl,⟨line++[sm N8 x (Ls.getD c [])],fr++[sm N8 x (Ls.getD c [])],_,by rw[Vx];rfl,?_,λy hy=>?_,λy hy=>Ut _ (mo.sub y hy),?_,λy hy=>?_,λy hy=>?_⟩,?_⟩
     .rw[Xg];exact⟨mo.nd,by simp,λa ha b hb e=>mem (by rwa[<- S7.mp hb,<- e])⟩
     .rcases TR.mp hy with h|h
      .exact mo.kp y h
      .rw[S7.mp h];exact kx.more Q hc
     .rw[Xg];exact⟨fn',by simp,λa ha b hb e=>mem (by rw[<- S7.mp hb,<- e];exact mo.fs a (Ut _ ha))⟩
     .rcases TR.mp hy with h|h
      .exact Ut _ (mo.fs y (Ut _ h))
      .exact TJ _ h
     .rcases TR.mp hy with h|h
      .rcases mo.cl y h with q|q
       .rcases TR.mp q with q|q
        .exact .inl (Ut _ q)
        .rw[S7.mp q];exact .inr (TJ _ SS)
       .exact .inr (Ut _ q)
      .exact .inl (TJ _ h)
     .simp[fx];lia
 .rintro env ⟨line,fr,y5,rfl,mo⟩ hu;have e0:fr=[]:=by
   rcases Wu fr with z|⟨fr,x,rfl⟩
   .exact z
   .exfalso;have:nv (.lst ((fr.concat x).map tI)) (.lst [])=M.ok (.bl true):=by
     rw[show PV.lst []=.lst (([]:List (List Int)).map tI) from rfl,qX,decide_eq_false ↑13];rfl
    revert hu;dsimp? [vo,ownAt,mI,this,Be];intro hu;injection hu with hu
    injection hu with hu
    cases hu
  subst e0;have cl:∀x∈line,sm N8 x (Ls.getD c [])∈line:=λx hx=>(mo.cl x hx).elim (λh=>nomatch h) id;have ip:=Q.I.pos c hc;obtain⟨m,hm⟩:=Vs (show 0<=II N_ c c-1 by lia);dsimp? [LW,MP];refine⟨_,rfl,line,rfl,mo.nd,λx=>⟨mo.kp x,λh=>?_⟩⟩;rcases(Rc.next Q hc (m:=m) ⋯ x).mpr h with h|⟨A,j,hA,hj,rfl⟩
  .exact mo.sub x ((hk x).mpr h)
  .have mA:=mo.sub A ((hk A).mpr hA);have kr:=Q.kp hc;have go:∀j,sm N8 A (zL (sm N8) (Sx N8.length 0) (Ls.getD c []) j)∈line:=by
    intro j
    induction j with
    | zero =>
     have:sm N8 A (Sx N8.length 0)=A:=by
      obtain⟨k,d⟩:=dF Q.S hA.1.1 (En N8.length);refine fU k.1 hA.1.1 k.2 hA.1.2 λi hi=>?_;have:=d i hi
      rwa [c9,Zk] at this
     show sm N8 A (Sx N8.length 0)∈line;rwa[this]
    | succ j ih =>
     have:=cl _ ih;obtain⟨k0,d0⟩:=j9 Q.S kr j;obtain⟨k1,d1⟩:=dF Q.S hA.1.1 k0.1;obtain⟨k2,d2⟩:=dF Q.S k1.1 kr.1;obtain⟨k3,d3⟩:=dF Q.S k0.1 kr.1;obtain⟨k4,d4⟩:=dF Q.S hA.1.1 k3.1;have e:sm N8 A (sm N8 (zL (sm N8) (Sx N8.length 0) (Ls.getD c []) j) (Ls.getD c []))=sm N8 (sm N8 A (zL (sm N8) (Sx N8.length 0) (Ls.getD c []) j)) (Ls.getD c []):=by
      refine fU k4.1 k2.1 k4.2 k2.2 λi hi=>?_;obtain⟨a,ha⟩:=d1 i hi;obtain⟨b,hb⟩:=d2 i hi;obtain⟨x,hx⟩:=d3 i hi;obtain⟨y,hy⟩:=d4 i hi;exact⟨y+x-a-b,by grind⟩
     show sm N8 A (sm N8 (zL (sm N8) (Sx N8.length 0) (Ls.getD c []) j) (Ls.getD c []))∈line;rw[e];exact this
   exact go (j+1)
end
def EL{t:af->M Bool}{f:af->M PV}{inj h:α->PV}{b:α->Bool}{rest:af}{x0:Option SV}(xs:List α)(Ht:∀a∈xs,t (some (.sh (inj a))::rest)=M.ok (b a))(H:∀a∈xs,f (some (.sh (inj a))::rest)=M.ok (h a)):bI (bL 0) (some t) f (xs.map inj) (x0::rest)=M.ok ((xs.filter b).map h):=by
 induction xs generalizing x0 with
 | nil=>rfl
 | cons a r ih =>
  have i:=ih (x0:=some (.sh (inj a))) (λc hc=>Ht c (SO _ hc)) λc hc=>H c (SO _ hc);rw[S0,bI];show M.bind (M.ok ((x0::rest).set 0 (some (.sh (inj a))))) _=_;rw[M.aH,Vf];show M.bind (t _) _=_;rw[Ht a SS,M.aH];cases e:b a with
  | true=>rw[if_pos rfl,H a SS,M.aH,i,YK e];rfl
  |false=>rw[if_neg ↑13,i,YL (by simp[e])]
theorem GR{t:Int}{q:PV}(hs:∀s∈N8,0<s)(hl:N8.length<=6)(hp:bX p=some (xs.map PV.int))(hq:bX q=some (ys.map PV.int))(hy:Bd 200 ys)(ht:t.natAbs<2^200):aL [lI N8,p,q,.int t]=M.ok (tI (dX N8 xs ys t)):=by
 have k1:bI (lN 0 1 2) none (ai gy (ai gH (aa 0) (ai eU (aa 3) (aa 1))) (aa 2)) ((xs.zip (ys.zip N8)).map λz=>.tup [.int z.1,.int z.2.1,.int z.2.2]) [none,none,none,some (.sh (.int t))]=M.ok ((xs.zip (ys.zip N8)).map λz=>.int ((z.1+t*z.2.1)%z.2.2)):=by
  refine Dt (p:=λz:Int×Int×Int=>PV.int z.1) (q:=λz:Int×Int×Int=>PV.int z.2.1) (s:=λz:Int×Int×Int=>PV.int z.2.2) (xs.zip (ys.zip N8)) λz hz=>?_;obtain⟨m1,m2⟩:=UD (a:=z.1) (b:=z.2) hz;obtain⟨m3,m4⟩:=UD (a:=z.2.1) (b:=z.2.2) m2;dsimp? [cO (i:=t) (j:=z.2.1) (k:=200) (l:=200) ht (hy _ m3),bG (i:=z.1+t*z.2.1) (j:=z.2.2) (hs _ m4)]
 have z1:(xs.zip (ys.zip N8)).length<=sizeLine:=by simp only[UW];exact aP ⋯
 unfold aL cj;dsimp? [pd (p:=p) (q:=q) (r:=lI N8) xs ys N8 hp hq rfl,SG,ar z1,k1];rw[tI,dX,Ti];rfl
section
variable{raw:List (List Int)}
abbrev GT(N8:List Int)(T:List Row)(v:cV):Prop:=G N8.length (vf N8) (DD T) N8.length 0 v
theorem ml.Gj(Q:ml ns N8 raw Ls T N_)(h:Kp N8 x)(g:GT N8 T (vf x)):bC [kh N8 Ls T N_,tI x]=M.ok (tI (told N8 Ls T N_ x))/\(told N8 Ls T N_ x).length=Ls.length/\Led N8.length (vf N8) Ls.length (AA Ls) (vf x) (vf (told N8 Ls T N_ x))/\∀l,l<Ls.length->0<=vf (told N8 Ls T N_ x) l/\vf (told N8 Ls T N_ x) l<II N_ l l:=Ag (N_:=N_) Q.S Q.m8 Q.st (by have:=Q.m8;lia) Q.I (wF h.1 h.2) h.2 g
theorem Rc.all(Q:ml ns N8 raw Ls T N_)(x:List Int):Rc N8 Ls Ls.length x ↔ Kp N8 x/\GT N8 T (vf x):=by
 constructor
 .rintro⟨k,P,_,led⟩;exact⟨k,Lp Q.st ⋯ led⟩
 .rintro⟨k,g⟩;exact⟨k,_,λl a b=>absurd b ⋯,(Q.Gj k g).2.2.1⟩
def lL(S:Sz N8):bI (bL 0) none (λ_=>M.ok (.int 0)) (N8.map PV.int) [none]=M.ok ((Sx N8.length (0:Int)).map PV.int):=by
 rw[fK (inj:=PV.int) (h:=λ_=>.int 0) N8 λx hx=>rfl,w6]
theorem E3(S:Sm N8)(Q:ml ns N8 raw Ls T N_):iI (cP [lI N8,.lst (raw.map lI)]) λp=>∃Ds:List (List (List Int)),p=.lst (Ds.map λk=>.dR (fx k))/\Ds.length=Ls.length+1/\∀c,c<=Ls.length->(Ds.getD c []).Nodup/\∀x,x∈Ds.getD c [] ↔ Rc N8 Ls c x:=by
 have l6:=S.S.h6;have m8:=Q.m8;have hm:=Q.hm;have z1:N8.length<=sizeLine:=aP ⋯;unfold cP cT;dsimp? [gO,SG,ar z1,lL S.S,JR,show PV.tup ((Sx N8.length (0:Int)).map PV.int)=tI (Sx N8.length 0) from rfl,IS,tw];refine iI.loop (xs:=raw) (inj:=lI) (λzs env=>∃(Ds:List (List (List Int)))(y:Option SV),env=[some (.sh (lI N8)),some (.sh (.lst (raw.map lI))),some (.ow (Ds.map λk=>.dR (fx k))),y]/\zs=raw.drop (Ds.length-1)/\1<=Ds.length/\Ds.length<=Ls.length+1/\∀c,c<Ds.length->(Ds.getD c []).Nodup/\∀x,x∈Ds.getD c [] ↔ Rc N8 Ls c x) ⟨[[Sx N8.length 0]],_,rfl,rfl,SE _,by simp,λc hc=>?_⟩ ?_ ?_
 .obtain rfl:c=0:=by simpa using hc
  exact⟨by simp,λx=>by rw[Rc.zero Q];simp⟩
 .rintro l rr env ⟨Ds,y,rfl,hd,h1,h2,hD⟩;obtain⟨c1,c2,c3⟩:=drop_cons hd.symm;rcases Wu Ds with rfl|⟨Ds,k,rfl⟩
  .simp at h1
  rw[Wv] at *;simp only[S6,UP,aam] at c1 c2 c3 h2 hD;have hc:Ds.length<Ls.length:=by lia
  have el:raw.getD Ds.length []=l:=by rw[SJ,c2];rfl
  obtain⟨nk,ek⟩:=hD Ds.length ⋯;rw[show (Ds++[k]).getD Ds.length []=k by simp[X3]] at nk ek;obtain⟨QD,em,nd',PM⟩:=Fd S Q hc nk ek;rw[el] at em;have il:aA (.lst ((Ds++[k]).map λk=>.dR (fx k))) (.int (-1))=M.ok (.dR (fx k)):=qm (Ds.map λk=>.dR (fx k)) _ ↑13;have hk:((Ds++[k]).map λk=>PV.dR (fx k)).length<1000:=by simp;lia
  dsimp? [bL,M6,ownAt,il,em,hX,gY hk];refine⟨_,rfl,Ds++[k]++[QD],_,by rw[Vx (l₁:=Ds++[k])];rfl,?_,by simp,by simp;lia,λc hc=>?_⟩
  .simp only[S6,UP,aam];exact c3.symm
  .simp only[S6,UP] at hc;rcases TU c (Ds.length+1) with h|h
   .have:=hD c h
    rwa [show (Ds++[k]++[QD]).getD c []=(Ds++[k]).getD c [] by rw[SJ,SJ,TX (by simp;lia)]]
   .obtain rfl:c=Ds.length+1:=by lia
    rw[show (Ds++[k]++[QD]).getD (Ds.length+1) []=QD by rw[SJ,To ↑13];simp];exact⟨nd',PM⟩
 .rintro env ⟨Ds,y,rfl,hd,h1,h2,hD⟩;have Q1:raw.length<=Ds.length-1:=WC.mp hd.symm;dsimp? [];exact⟨_,rfl,Ds,rfl,by lia,λc hc=>hD c ⋯⟩
theorem Cu(S:Sm N8)(Q:ml ns N8 raw Ls T N_)(hc:c<Ls.length)(hk:∀x,x∈ks ↔ Rc N8 Ls c x):gQ [lI N8,.dR (fx ks),lI (raw.getD c [])]=M.ok (.int (II N_ c c)):=by
 have l6:=S.S.h6;have ra:=Q.uI hc;have kr:=Q.kp hc;have ip:=Q.I.pos c hc;have ile:=Q.I.le c hc;have e0:dX N8 (raw.getD c []) (raw.getD c []) 0=Ls.getD c []:=by
  obtain⟨k1,d1⟩:=kP (t:=0) Q.S ra.1 ra.1;refine fU k1.1 kr.1 k1.2 kr.2 λi hi=>?_;have e:=Q.eA c (by rwa[Q.hm]) i hi;obtain⟨y,hy⟩:=m9 (vf (raw.getD c []) i) (vf N8 i);rw[<- e] at hy;unfold AA at hy;obtain⟨a,ha⟩:=d1 i hi;exact⟨a+y,by grind⟩
 have ad0:aL [lI N8,lI (raw.getD c []),lI (raw.getD c []),.int 0]=M.ok (tI (Ls.getD c [])):=by
  rw[GR (mr S.S) l6 rfl rfl ra.2 ↑12,e0]
 refine iI.eq ?_;unfold gQ gN;dsimp? [ad0];refine iI.Gx (λenv=>∃j:Nat,env=[some (.sh (lI N8)),some (.sh (.dR (fx ks))),some (.sh (lI (raw.getD c []))),some (.sh (.int ((j:Int)+1))),some (.sh (tI (y_ (sm N8) (Ls.getD c []) j)))]/\(j:Int)+1<=II N_ c c) (λenv=>match env with
  | [_,_,_,some (.sh (.int q)),_]=>(II N_ c c-q).toNat
  | _=>0) ⟨0,rfl,by lia⟩ ?_ ?_
 .rintro env ⟨j,rfl,hj⟩
  by_cases mem:y_ (sm N8) (Ls.getD c []) j∈ks
  .exact .inl (by dsimp? [vp,jg,decide_eq_true mem];rfl)
  .have lt:(j:Int)+1<II N_ c c:=by
    rcases Int.lt_or_eq_of_le hj with h|h
    .exact h
    .exact absurd ((hk _).mpr (Rc.at_ Q hc h)) mem
   obtain⟨k1,_⟩:=j7 Q.S kr j;have ad:aL [lI N8,tI (y_ (sm N8) (Ls.getD c []) j),lI (raw.getD c []),.int 1]=M.ok (tI (y_ (sm N8) (Ls.getD c []) (j+1))):=by
    rw[jL (mr S.S) l6 k1.1 rfl ra.2 ↑12,uq Q hc k1.1];rfl
   refine .inr ⟨by dsimp? [vp,jg,decide_eq_false mem];rfl,iI.nx ?_⟩;dsimp? [ad];refine⟨_,rfl,_,rfl,⟨j+1,by rw[show ((j+1:Nat):Int)=(j:Int)+1 by lia],by lia⟩,?_⟩;show (II N_ c c-((j:Int)+1+1)).toNat<(II N_ c c-((j:Int)+1)).toNat;lia
 .rintro env ⟨j,rfl,hj⟩ hu;have mem:y_ (sm N8) (Ls.getD c []) j∈ks:=Decidable.byContradiction λmem=>by
   revert hu;dsimp? [vp,jg,decide_eq_false mem];intro hu;injection hu with hu
   injection hu with hu
   cases hu
  have ge:¬ (j:Int)+1<II N_ c c:=λlt=>Rc.before Q hc lt ((hk _).mp mem);dsimp? [];exact⟨_,rfl,by rw[show (j:Int)+1=II N_ c c by lia]⟩
end
theorem yb:∀(r:List Int)(m:Int),m<=dy (λi j=>decide (i>j)) r m/\∀x∈r,x<=dy (λi j=>decide (i>j)) r m
 | [],m=>⟨Int.le_refl _,λ_ h=>nomatch h⟩
 | n::r,m=>by
  obtain⟨a,b⟩:=yb r (if decide (n>m)=true then n else m);have e:m<=(if decide (n>m)=true then n else m)/\n<=(if decide (n>m)=true then n else m):=by
   by_cases h:n>m
   .rw[if_pos (decide_eq_true h)];lia
   .rw[if_neg (by simpa using h)];lia
  refine⟨Xd e.1 a,λx hx=>?_⟩;rcases SQ.mp hx with h|h
  .rw[h];exact Xd e.2 a
  .exact b x h
theorem rJ:∀(r:List Int),(∀x∈r,x=0)->dy (λi j=>decide (i>j)) r 0=0
 | [],_=>rfl
 | n::r,h=>by
  show dy _ r (if decide (n>0)=true then n else 0)=0;rw[h n SS];exact rJ r λx hx=>h x (SO _ hx)
theorem wX{l:List Int}(p:∀x∈l,0<=x):lK l 0=0 ↔ ∀x∈l,x=0:=by
 cases l with
 | nil=>exact⟨λ_ _ h=>(nomatch h),λ_=>rfl⟩
 | cons n r =>
  show dy _ r n=0 ↔ _;constructor
  .intro e x hx;obtain⟨a,b⟩:=yb r n;have:=p x hx;rcases SQ.mp hx with h|h
   .lia
   .have:=b x h;lia
  .intro h;rw[h n SS];exact rJ r λx hx=>h x (SO _ hx)
def xW(l:List Int):maxD 0 (tI l)=M.ok (.int (lK l 0)):=by
 show Hm 0 (jS (l.map PV.int))=_;rw[mL];rfl
theorem mw(xs ys:List (List Int)):nH (.lst (xs.map tI)) (.lst (ys.map tI))=M.ok (.bl (decide (xs=ys))):=by
 simp only[nH,n5,dat,sv,XI,Ft];have h1:=iW xs;have h2:=iW ys;rw[ar (by simp[SeqAt.shaped,U_,VB,nG,SeqAt.noMix,k9];lia)];unfold Spec.same;rw[m_];rfl
section
variable{raw:List (List Int)}
theorem rL(S:Sm N8)(h:∀x∈ks,Kp N8 x):uS [.dR (fx ks)]=M.ok (.lst ((cX ks).map tI)):=by
 have s1:=S.S.h1;show cM _ _=_;rw[ar λz hz=>?_,oX]
 .rfl
 .obtain⟨k,hk,rfl⟩:=TF.mp hz;intro e;have:=(h k hk).1;rw[show k=[] from e] at this;simp at this;lia
theorem Ah(S:Sm N8)(Q:ml ns N8 raw Ls T N_)(nd:ks.Nodup)(hk:∀x,x∈ks ↔ Kp N8 x/\GT N8 T (vf x))(hc:c<N8.length):dU [lI N8,.dR (fx ks),.int (c:Int)]=M.ok (.lst [.int (aS (vf N8) (DD T) c),tI (row T c).1]):=by
 have l6:=S.S.h6;have g:=Q.st.gd;have kl:=S.Bc nd λx hx=>((hk x).mp hx).1;have so:=rL S λx hx=>((hk x).mp hx).1;have zs:N8.length<=sizeLine:=aP ⋯;have mS:∀x,x∈cX ks ↔ Kp N8 x/\GT N8 T (vf x):=λx=>(fD ks).mem_iff.trans (hk x);have key:bI (bL 0) (some (pQ (cR (ai nH (uD 0 (lq (aa 0) BY (jE (aa 1)))) (λ_=>M.ok (.int 0)))) (cR (ai DK (ai aA (aa 0) (aa 1)) (λ_=>M.ok (.int 0)))))) (aa 0) ((cX ks).map tI) [none,some (.sh (.int (c:Int)))]=M.ok (((cX ks).filter λx=>decide (lK (x.take c) 0=0)&&decide (0<vf x c)).map tI):=by
  refine EL (inj:=tI) (cX ks) (λx hx=>?_) λx hx=>by dsimp? []
  have kx:=((mS x).mp hx).1;have xl:=kx.1
  by_cases p:lK (x.take c) 0=0
  .dsimp? [pQ,uD,lq,BY,jE,EU,BS,xW,p,decide_true,iB (xs:=x) (i:=c) ⋯]
  .dsimp? [pQ,uD,lq,BY,jE,EU,BS,xW,p,decide_false]
 obtain⟨F,hF⟩:∃F,F=(cX ks).filter λx=>decide (lK (x.take c) 0=0)&&decide (0<vf x c):=⟨_,rfl⟩
 rw[<- hF] at key;have sl:(cX ks).length<=sizeLine:=aP (by rw[(fD ks).length_eq];lia);have mF:∀x,x∈F ↔ (Kp N8 x/\GT N8 T (vf x))/\0<vf x c/\∀i,i<c->vf x i=0:=λx=>by
  rw[hF,Zo,mS x];refine and_congr_right λh=>?_;have xl:=h.1.1;rw[Ui,decide_eq_true_eq,decide_eq_true_eq,and_comm];refine and_congr_right λ_=>?_;rw[wX λy hy=>by
   obtain⟨i,hi,rfl⟩:=S9.mp hy;have Qc:i<c:=by simp at hi;lia
   have:=(h.1.2 i ⋯).1;rw[aY ⋯] at this;simpa using this]
  constructor
  .intro e i hi;rw[aY ⋯];exact e _ (S9.mpr ⟨i,by simp;lia,by simp⟩)
  .intro e y hy;obtain⟨i,hi,rfl⟩:=S9.mp hy;have Qc:i<c:=by simp at hi;lia
   have:=e i Qc;rw[aY ⋯] at this;simpa using this
 by_cases z:DD T c c=0
 .have eF:F=[]:=Wc.mpr λx hx=>by
   obtain⟨h1,h2,h3⟩:=(mF x).mp hx;have:=yY g hc z (h1.1.2 c hc) h1.2 h3;lia
  have rz:(row T c).1=Sx N8.length 0:=pD (by rw[Q.st.wf.oj hc];simp) λi hi=>by
   rw[Q.st.wf.oj hc] at hi;rw[c9];exact Q.nul c hc z i hi
  rw[eF] at key;have es:aS (vf N8) (DD T) c=vf N8 c:=if_pos z;have ix:aA (lI N8) (.int (c:Int))=M.ok (.int (vf N8 c)):=by
   rw[aY hc];exact aX (p:=lI N8) rfl (by rw[Te,Sy hc];rfl)
  unfold dU fj;dsimp? [so,SG,ar sl,key,show nH (.lst ([]:List PV)) (.lst [])=M.ok (.bl true) from mw [] [],ix,ar zs,lL S.S];rw[es,rz];rfl
 .have rg:=g.kM c hc;have p:0<DD T c c:=by have:=(rg c hc).1;lia
  have rk:Kp N8 (row T c).1/\GT N8 T (vf (row T c).1):=⟨⟨Q.st.wf.oj hc,rg⟩,g.row hc ⋯ (SX _)⟩
  have rF:(row T c).1∈F:=(mF _).mpr ⟨rk,p,λi hi=>g.v5 c hc i hi⟩;obtain⟨h,F',eF⟩:∃h F',F=h::F':=by
   cases F with
   | nil=>cases rF
   | cons h F'=>exact⟨h,F',rfl⟩
  have eh:h=(row T c).1:=by
   have up:F.Pairwise λa b=>HT.lexLt b a=false:=by rw[hF];exact(rA ks).filter _
   rw[eF] at up rF;rcases SQ.mp rF with e|e
   .exact e.symm
   .have n1:=(aaj.mp up).1 _ e;obtain⟨h1,h2,h3⟩:=(mF h).mp (by rw[eF];exact SS);rcases xf g Q.low hc z (λi hi=>(h1.1.2 i hi).1) h1.2 h3 h2 with e|⟨e,he,pre,lt⟩
    .exact pD (by rw[h1.1.1,rk.1.1]) λi hi=>e i (by rwa[h1.1.1] at hi)
    .rw[CQ e (by rw[h1.1.1,rk.1.1]) (by rwa[rk.1.1]) (λi hi=>(pre i hi).symm) lt] at n1;cases n1
  have es:aS (vf N8) (DD T) c=DD T c c:=if_neg z;have ne:nH (.lst (F.map tI)) (.lst [])=M.ok (.bl false):=(mw F []).trans (by rw[decide_eq_false (by rw[eF];simp)]);have i0:aA (.lst (F.map tI)) (.int 0)=M.ok (tI (row T c).1):=aX (p:=.lst (F.map tI)) (j:=0) rfl (by rw[eF,<- eh];rfl);unfold dU fj;dsimp? [so,SG,ar sl,key,ne,i0,iB (xs:=(row T c).1) (i:=c) (by rwa[rk.1.1])];rw[es];rfl
def ES(h:T.length<=1000):gc [kh N8 Ls T N_]=M.ok (.lst (T.map λr=>tI r.1)):=by
 have key:bI (bL 0) none (ai aA (aa 0) (λ_=>M.ok (.int 0))) (T.map mk) [none]=M.ok (T.map λr=>tI r.1):=fK T λr _=>by dsimp? [show aA (mk r) (.int 0)=M.ok (tI r.1) from aX (j:=0) rfl rfl]
 unfold gc f9;dsimp? [lY,Nu,SG,ar (aP h),key]
theorem wm(S:Sm N8)(Q:ml ns N8 raw Ls T N_)(nd:ks.Nodup)(hk:∀x,x∈ks ↔ Kp N8 x/\GT N8 T (vf x)):bY [kh N8 Ls T N_,lI N8,.dR (fx ks)]=M.ok (.bl true):=by
 have l6:=S.S.h6;have tl:=Q.st.wf.len;have zr:(S1 N8.length).length<=sizeLine:=aP (by simp;lia);have k1:bI (bL 0) none (ah dU (ae (aa 1) (ae (aa 2) (ae (aa 0) ak)))) ((S1 N8.length).map λ(i:Nat)=>.int (i:Int)) [none,some (.sh (lI N8)),some (.sh (.dR (fx ks)))]=M.ok ((S1 N8.length).map λd=>.lst [.int (aS (vf N8) (DD T) d),tI (row T d).1]):=by
  refine fK (inj:=λ(i:Nat)=>PV.int (i:Int)) (S1 N8.length) λi hi=>?_;dsimp? [Ah S Q nd hk (Uo.mp hi)]
 have k2:bI (bL 0) none (ai aA (aa 0) (λ_=>M.ok (.int 0))) ((S1 N8.length).map λd=>.lst [.int (aS (vf N8) (DD T) d),tI (row T d).1]) [none]=M.ok ((S1 N8.length).map λd=>.int (aS (vf N8) (DD T) d)) :=
  fK (S1 N8.length) λi hi=>by dsimp? [show aA (.lst [.int (aS (vf N8) (DD T) i),tI (row T i).1]) (.int 0)=M.ok (.int (aS (vf N8) (DD T) i)) from aX (j:=0) rfl rfl]
 have k3:bI (bL 0) none (ai aA (aa 0) (λ_=>M.ok (.int 1))) ((S1 N8.length).map λd=>.lst [.int (aS (vf N8) (DD T) d),tI (row T d).1]) [none]=M.ok ((S1 N8.length).map λd=>tI (row T d).1) :=
  fK (S1 N8.length) λi hi=>by dsimp? [show aA (.lst [.int (aS (vf N8) (DD T) i),tI (row T i).1]) (.int 1)=M.ok (tI (row T i).1) from aX (j:=1) rfl rfl]
 have e2:PV.tup ((S1 N8.length).map λd=>PV.int (aS (vf N8) (DD T) d))=tI (yw N8 T):=by rw[tI,yw,Ti];rfl
 have e3:(S1 N8.length).map (λd=>tI (row T d).1)=(T.map (·.1)).map tI:=by
  rw[Ti];refine YM (by simp[tl]) λi h1 h2=>?_;simp only[UJ,List.getElem_range,Function.comp];rw[iC (by simp at h2;exact h2)]
 have e4:T.map (λr=>tI r.1)=(T.map (·.1)).map tI:=by rw[Ti];rfl
 unfold bY cQ;dsimp? [gE,oP (m := "steps") rfl,C7 S.S Q.st,oP (m := "rows") rfl,ES (T:=T) ⋯,SG,B6,gu (n:=(N8.length:Int)) ⋯ ⋯,Ud,ar zr,k1,k2,e2,Dg,k3,e3,e4,mw,decide_true]
end
theorem AM(bt:Int->Int->Bool)(n:Nat)(h:1<=n):xv bt [tI (Sx n 0)]=M.ok (.int 0):=by
 obtain⟨m,rfl⟩:∃m,n=m+1:=⟨n-1,by lia⟩
 have key:∀m,dy bt (Sx m 0) 0=0:=λm=>by
  induction m with
  | zero=>rfl
  | succ m ih =>
   rw[Uh,dy]
   split
   .exact ih
   .exact ih
 show uE bt _=_;unfold uE;rw[yg,YD,mB,Uh];show M.ok (PV.int (dy bt (Sx m 0) 0))=_;rw[key]
section
variable{raw:List (List Int)}
theorem uY(Q:ml ns N8 raw Ls T N_)(hc:c<Ls.length)(hx:Kp N8 x){P:cV}(led:∀i,i<N8.length->vf N8 i∣vf x i-dH c λl=>P l*AA Ls l i)(t:Int)(ht:t=P c):Kp N8 (dX N8 x (raw.getD c []) t)/\∀i,i<N8.length->vf N8 i∣vf (dX N8 x (raw.getD c []) t) i-dH (c+1) λl=>P l*AA Ls l i:=by
 rw[uq Q hc hx.1];obtain⟨k,d⟩:=kP (t:=t) Q.S hx.1 (Q.kp hc).1;refine⟨k,λi hi=>?_⟩;obtain⟨a,ha⟩:=led i hi;obtain⟨b,hb⟩:=d i hi;refine⟨a+b,?_⟩;show _-((dH c λl=>P l*AA Ls l i)+P c*AA Ls c i)=_;subst ht;unfold AA at *
 grind
theorem yK(S:Sm N8)(Q:ml ns N8 raw Ls T N_)(hc:c<Ls.length):c_ [tI (N_.getD c []),.int (c:Int),lI (kK N_),lI N8,.lst (raw.map lI)]=M.ok (.bl true):=by
 have l6:=S.S.h6;have l1:=S.S.h1;have m8:=Q.m8;have hm:=Q.hm;have il:=Q.I.len;have xl:(N_.getD c []).length=Ls.length:=Q.I.l2 c hc;generalize hx:N_.getD c []=x at *;have vx:∀l,vf x l=II N_ c l:=λl=>by rw[<- hx];rfl
 have zs:N8.length<=sizeLine:=aP ⋯;have ix:aA (tI x) (.int (c:Int))=M.ok (.int (II N_ c c)):=by rw[iB (xs:=x) (i:=c) ⋯,vx]
 have iS:∀l,l<Ls.length->aA (lI (kK N_)) (.int (l:Int))=M.ok (.int (II N_ l l)):=λl hl=>by
  rw[<- w4 ⋯,aY (by rw[i7];lia)];exact aX (p:=lI (kK N_)) rfl (by rw[Te,Sy (by rw[i7];lia)];rfl)
 refine iI.eq ?_;unfold c_ dj;dsimp? [SG,xl,hm,decide_true,ix,iS c hc,ar zs,lL S.S,j_ (p:=tI x) x rfl];refine iI.loop (xs:=x.zipIdx) (inj:=λz:Int×Nat=>.tup [.int (z.2:Int),.int z.1]) (λzs env=>∃(j:Nat)(y:List Int)(y6 y7:Option SV),env=[some (.sh (tI x)),some (.sh (.int (c:Int))),some (.sh (lI (kK N_))),some (.sh (lI N8)),some (.sh (.lst (raw.map lI))),some (.sh (tI y)),y6,y7]/\zs=x.zipIdx.drop j/\j<=Ls.length/\Kp N8 y/\∀i,i<N8.length->vf N8 i∣vf y i-dH j λl=>II N_ c l*AA Ls l i) ⟨0,Sx N8.length 0,_,_,rfl,rfl,SX _,⟨by simp,eK S.S⟩,λi hi=>by rw[c9];exact⟨0,by simp[dH]⟩⟩ ?_ ?_
 .rintro z rr env ⟨j,y,y6,y7,rfl,hd,hj,ky,led⟩;obtain⟨d1,d2,d3⟩:=drop_cons hd.symm;rw[TV] at d1;rw[Sy (by rwa[TV])] at d2;have ez:z=(x[j],j):=by rw[<- Th d2];simp
  subst ez;have jm:j<Ls.length:=by lia
  have xj:x[j]=II N_ c j:=by rw[<- aY d1,vx]
  have ra:=Q.uI jm;have ir:aA (.lst (raw.map lI)) (.int (j:Int))=M.ok (lI (raw.getD j [])):=aX (p:=.lst (raw.map lI)) rfl (by rw[Te,Sy ⋯,SJ,Sy ⋯];rfl);have bx:(II N_ c j).natAbs<2^200:=by
   have:=Q.I.bd hc ⋯ x[j] (by rw[hx];exact TZ _);rw[xj] at this;exact W7 this ↑12
  have ad:aL [lI N8,tI y,lI (raw.getD j []),.int (II N_ c j)]=M.ok (tI (dX N8 y (raw.getD j []) (II N_ c j))):=jL (mr S.S) l6 ky.1 rfl ra.2 bx;obtain⟨k2,Qb⟩:=uY Q jm ky (P:=λl=>II N_ c l) led (II N_ c j) rfl;simp only[xj];have fin:∀y6 y7:Option SV,∃(j':Nat)(y':List Int)(z6 z7:Option SV),[some (.sh (tI x)),some (.sh (.int (c:Int))),some (.sh (lI (kK N_))),some (.sh (lI N8)),some (.sh (.lst (raw.map lI))),some (.sh (tI (dX N8 y (raw.getD j []) (II N_ c j)))),y6,y7]=[some (.sh (tI x)),some (.sh (.int (c:Int))),some (.sh (lI (kK N_))),some (.sh (lI N8)),some (.sh (.lst (raw.map lI))),some (.sh (tI y')),z6,z7]/\rr=x.zipIdx.drop j'/\j'<=Ls.length/\Kp N8 y'/\∀i,i<N8.length->vf N8 i∣vf y' i-dH j' λl=>II N_ c l*AA Ls l i:=λy6 y7=>⟨j+1,_,_,_,rfl,d3.symm,jm,k2,Qb⟩
  rcases Yu j c with h|h|h
  .have nf:=Q.I.nf c hc j h;have g1:((c:Int)<(j:Int))=False:=eq_false ⋯;have g2:((j:Int)<(c:Int))=True:=eq_true ⋯;have g3:(0<=II N_ c j)=True:=eq_true nf.1;have g4:(II N_ c j<II N_ j j)=True:=eq_true nf.2;dsimp? [bT,sy,pQ,fN,g1,g2,decide_true,decide_false,iS j jm,g3,g4,ir,ad];exact⟨_,rfl,fin _ _⟩
  .have g1:((c:Int)<(j:Int))=False:=eq_false ⋯;have g2:((j:Int)<(c:Int))=False:=eq_false ⋯;dsimp? [bT,sy,pQ,g1,g2,decide_false,ir,ad];exact⟨_,rfl,fin _ _⟩
  .have z0:=Q.I.zero c hc j h jm;have g1:((c:Int)<(j:Int))=True:=eq_true ⋯;have g2:((j:Int)<(c:Int))=False:=eq_false ⋯;rw[z0] at ad fin ⊢;dsimp? [bT,sy,pQ,g1,g2,decide_true,decide_false,ir,ad];exact⟨_,rfl,fin _ _⟩
 .rintro env ⟨j,y,y6,y7,rfl,hd,hj,ky,led⟩;have Q1:x.zipIdx.length<=j:=WC.mp hd.symm;rw[TV] at Q1;obtain rfl:j=Ls.length:=by lia
  have yz:y=Sx N8.length 0:=fU ky.1 ↑13 ky.2 (eK S.S) λi hi=>by
   obtain⟨a,ha⟩:=led i hi;obtain⟨b,hb⟩:=Q.I.qu c hc i hi;rw[c9];exact⟨a-b,by grind⟩
  subst yz;have bz:xv (λi j=>decide (i>j)) [tI (Sx N8.length 0)]=M.ok (.int 0):=AM _ _ l1;dsimp? [bz];exact⟨_,rfl,rfl⟩
theorem wM(S:Sm N8)(Q:ml ns N8 raw Ls T N_){Ds:List (List (List Int))}(dl:Ds.length=Ls.length+1)(hD:∀c,c<=Ls.length->(Ds.getD c []).Nodup/\∀x,x∈Ds.getD c [] ↔ Rc N8 Ls c x):cU [kh N8 Ls T N_,lI N8,.lst (raw.map lI),.lst (Ds.map λk=>.dR (fx k))]=M.ok (.bl true):=by
 have m8:=Q.m8;have hm:=Q.hm;have il:=Q.I.len;have sl:(kK N_).length=N_.length:=i7;refine iI.eq ?_;unfold cU cS;dsimp? [de,j_ (p:=.lst (raw.map lI)) raw rfl];refine iI.loop (xs:=raw.zipIdx) (inj:=λz:List Int×Nat=>.tup [.int (z.2:Int),lI z.1]) (λzs env=>∃(j:Nat)(y5 y6 y7 y8:Option SV),env=[some (.sh (kh N8 Ls T N_)),some (.sh (lI N8)),some (.sh (.lst (raw.map lI))),some (.sh (.lst (Ds.map λk=>.dR (fx k)))),some (.ow (((kK N_).take j).map PV.int)),y5,y6,y7,y8]/\zs=raw.zipIdx.drop j/\j<=Ls.length) ⟨0,_,_,_,_,rfl,rfl,SX _⟩ ?_ ?_
 .rintro z rr env ⟨j,y5,y6,y7,y8,rfl,hd,hj⟩;obtain⟨d1,d2,d3⟩:=drop_cons hd.symm;rw[TV] at d1;rw[Sy (by rwa[TV])] at d2;have ez:z=(raw[j],j):=by rw[<- Th d2];simp
  subst ez;have jm:j<Ls.length:=by lia
  have er:raw[j]=raw.getD j []:=by rw[SJ,Sy d1];rfl
  have iD:aA (.lst (Ds.map λk=>.dR (fx k))) (.int (j:Int))=M.ok (.dR (fx (Ds.getD j []))):=aX (p:=.lst (Ds.map λk=>.dR (fx k))) rfl (by rw[Te,Sy ⋯,SJ,Sy ⋯];rfl);have sp:=Cu S Q jm (hD j hj).2;have hk:(((kK N_).take j).map PV.int).length<1000:=by simp;lia
  have tk:(kK N_).take j++[II N_ j j]=(kK N_).take (j+1):=by rw[V1 ⋯,<- aY ⋯,w4 ⋯]
  dsimp? [bT,iD,er,sp,hX,ownAt,gY hk,kn,tk];exact⟨_,rfl,j+1,_,_,_,_,rfl,d3.symm,jm⟩
 .rintro env ⟨j,y5,y6,y7,y8,rfl,hd,hj⟩;have Q1:raw.zipIdx.length<=j:=WC.mp hd.symm;rw[TV] at Q1;rw[Xf ⋯];dsimp? [gE,oP (m := "spans") rfl,sA Q.m8 Q.I,oP (m := "idle") rfl,Fj,show PV.tup ((kK N_).map PV.int)=tI (kK N_) from rfl,p_,decide_true,SG,il,hm,j_ (p:=.lst (N_.map tI)) N_ rfl];refine iI.loop (xs:=N_.zipIdx) (inj:=λz:List Int×Nat=>.tup [.int (z.2:Int),tI z.1]) (λzs env=>∃(j:Nat)(s4:SV)(y5 y6:Option SV),env=[some (.sh (kh N8 Ls T N_)),some (.sh (lI N8)),some (.sh (.lst (raw.map lI))),some (.sh (.lst (Ds.map λk=>.dR (fx k)))),some s4,y5,y6,some (.sh (tI (kK N_))),some (.sh (.lst (N_.map tI)))]/\(s4=.ow ((kK N_).map PV.int)\/s4=.sh (lI (kK N_)))/\zs=N_.zipIdx.drop j/\j<=Ls.length) ⟨0,_,_,_,rfl,?_,rfl,SX _⟩ ?_ ?_
  .first|exact .inl rfl|exact .inr rfl
  .rintro z rr env ⟨j,s4,y5,y6,rfl,h4,hd,hj⟩;obtain⟨d1,d2,d3⟩:=drop_cons hd.symm;rw[TV] at d1;rw[Sy (by rwa[TV])] at d2;have ez:z=(N_[j],j):=by rw[<- Th d2];simp
   subst ez;have er:N_[j]=N_.getD j []:=by rw[SJ,Sy d1];rfl
   have ig:=yK S Q (c:=j) ⋯;rcases h4 with rfl|rfl
   .dsimp? [bT,er,show PV.lst ((kK N_).map PV.int)=lI (kK N_) from rfl,ig];exact⟨_,rfl,j+1,_,_,_,rfl,.inr rfl,d3.symm,by lia⟩
   .dsimp? [bT,er,ig];exact⟨_,rfl,j+1,_,_,_,rfl,.inr rfl,d3.symm,by lia⟩
  .rintro env ⟨j,s4,y5,y6,rfl,h4,hd,hj⟩;dsimp? [];exact⟨_,rfl,rfl⟩
end
theorem ny:∀(a b:List Int),a.length=b.length->(∀j,j<a.length->(∀i,i<j->vf a i=vf b i)->vf b j<=vf a j)->HT.lexLt a b=false
 | [],[],_,_=>rfl
 | [],_::_,h,_=>by simp at h
 | _::_,[],h,_=>by simp at h
 | x::xs,y::ys,h,k=>by
  rw[HT.bJ];have k0:=k 0 ↑13 (λi hi=>by lia);have e0:vf (x::xs) 0=x/\vf (y::ys) 0=y:=⟨rfl,rfl⟩
  rw[e0.1,e0.2] at k0
  by_cases e:x=y
  .rw[if_pos e];refine ny xs ys (by simpa using h) λj hj hh=>?_;have:=k (j+1) (by simpa using hj) λi hi=>by
    cases i with
    | zero=>rwa[e0.1,e0.2]
    | succ i=>exact hh i ⋯
   exact this
  .rw[if_neg e];exact decide_eq_false ⋯
section
variable{raw:List (List Int)}
theorem JO(Q:ml ns N8 raw Ls T N_)(h:Kp N8 xs):HT.lexLe (lst N8 Ls T xs) xs=true:=by
 obtain⟨b1,b2,b3,b4⟩:=iP Q.st h.1 h.2;unfold HT.lexLe;rw[ny xs _ (by rw[b1,h.1]) λj hj hh=>?_]
 .rfl
 .rw[h.1] at hj;obtain⟨x,hx⟩:=G.at_ b4 (j:=j) (λi _ hi=>by rw[hh i hi];lia) (SX _) ⋯;have c1:=b2 j hj;have c2:=(h.2 j hj).1;have p:=(Q.st.gd.pos hj).1;rcases(show x<0\/0<=x by lia) with z|z
  .have:aS (vf N8) (DD T) j*x<=aS (vf N8) (DD T) j*(-1):=T8 ⋯ ⋯;lia
  .have:=ZX (show 0<=aS (vf N8) (DD T) j by lia) z;lia
theorem Fg(S:Sm N8)(Q:ml ns N8 raw Ls T N_)(hk:∀x,x∈ks ↔ Kp N8 x/\GT N8 T (vf x))(hx:Kp N8 x):yi (ks.map λg=>dX N8 x g 1)=lst N8 Ls T x:=by
 obtain⟨b1,b2,b3,b4⟩:=iP Q.st hx.1 hx.2;refine Ad ?_ λk PM=>?_
 .obtain⟨kg,dg⟩:=kP (t:=-1) S.S b1 hx.1;refine TF.mpr ⟨dX N8 (lst N8 Ls T x) x (-1),(hk _).mpr ⟨kg,?_⟩,?_⟩
  .refine Q.st.gd.pA ⋯ (λi hi=>?_) (LR Q.st b4);obtain⟨a,ha⟩:=dg i hi;exact⟨a,by grind⟩
  .obtain⟨k2,d2⟩:=kP (t:=1) S.S hx.1 kg.1;refine fU k2.1 b1 k2.2 b3 λi hi=>?_;obtain⟨a,ha⟩:=dg i hi;obtain⟨b,hb⟩:=d2 i hi;exact⟨a+b,by grind⟩
 .obtain⟨g,hg,rfl⟩:=TF.mp PM;obtain⟨kg,gg⟩:=(hk g).mp hg;obtain⟨k2,d2⟩:=kP (t:=1) S.S hx.1 kg.1;have e:lst N8 Ls T (dX N8 x g 1)=lst N8 Ls T x:=H_ Q.st k2.1 k2.2 hx.1 hx.2 (Q.st.gd.pA ⋯ (λi hi=>by
   obtain⟨b,hb⟩:=d2 i hi;exact⟨b,by grind⟩) gg)
  have le:=JO Q k2;rw[e] at le;unfold HT.lexLe at le;cases q:HT.lexLt (lst N8 Ls T x) (dX N8 x g 1) with
  | true=>exact .inr rfl
  |false=>exact .inl (Srt.t8 _ _ (by simpa using le) q)
theorem lP(S:Sm N8)(Q:ml ns N8 raw Ls T N_)(nd:ks.Nodup)(hk:∀x,x∈ks ↔ Kp N8 x/\GT N8 T (vf x))(hx:Kp N8 x):bM [kh N8 Ls T N_,lI N8,.lst (raw.map lI),.dR (fx ks),tI x]=M.ok (.bl true):=by
 have l6:=S.S.h6;have l1:=S.S.h1;have m8:=Q.m8;have hm:=Q.hm;have il:=Q.I.len;have zs:N8.length<=sizeLine:=aP ⋯;have kl:=S.Bc nd λx hx=>((hk x).mp hx).1;have zk:ks.length<=sizeLine:=aP ⋯;have lo:=Bh (N_:=N_) S.S Q.m8 Q.st ⋯ hx.1 hx.2;have key:bI (bL 0) none (ah aL (ae (aa 1) (ae (aa 2) (ae (aa 0) (ae (λ_=>M.ok (.int 1)) ak))))) (ks.map tI) [none,some (.sh (lI N8)),some (.sh (tI x))]=M.ok ((ks.map λg=>dX N8 x g 1).map tI):=by
  rw[Ti];refine fK (inj:=tI) ks λg hg=>?_;have kg:=((hk g).mp hg).1;dsimp? [jL (t:=1) (q:=tI g) (mr S.S) l6 hx.1 rfl (wH S.S kg.1 kg.2) ↑12];rfl
 have zm:(Sx N8.length 0)∈ks:=(hk _).mpr ⟨⟨by simp,eK S.S⟩,G.ext ⋯ (λi hi=>by rw[c9]) (G.zero ⋯)⟩;have mt:sC [.lst ((ks.map λg=>dX N8 x g 1).map tI)]=M.ok (tI (lst N8 Ls T x)):=by
  rw[Ba (λz=>?_) λy hy e=>?_,Fg S Q hk hx]
  .rw[XR.mp z] at zm;cases zm
  .obtain⟨g,hg,rfl⟩:=TF.mp hy;have:=(kP (t:=1) S.S hx.1 ((hk g).mp hg).1.1).1.1;rw[e] at this;simp at this;lia
 by_cases mem:x∈ks
 .obtain⟨kx,gx⟩:=(hk x).mp mem;obtain⟨pe,pl',led,nf⟩:=Q.Gj kx gx;generalize told N8 Ls T N_ x=P at *;refine iI.eq ?_;unfold bM bN;dsimp? [gE,oP (m := "least") rfl,lo,keysOf,BZ,mz,SG,ar zk,key,mt,p_,decide_true,oP (m := "pulls_to") rfl,pe,vp,jg,decide_eq_true mem,show (true ^^ true)=false from rfl,pl',hm,ar zs,lL S.S,oP (m := "spans") rfl,sA Q.m8 Q.I,pd (p:=.lst (raw.map lI)) (q:=tI P) (r:=tI (kK N_)) raw P (kK N_) rfl rfl rfl];refine iI.loop (xs:=raw.zip (P.zip (kK N_))) (inj:=λz:List Int×Int×Int=>.tup [lI z.1,.int z.2.1,.int z.2.2]) (λzs env=>∃(j:Nat)(y:List Int)(y7 y8 y9:Option SV),env=[some (.sh (kh N8 Ls T N_)),some (.sh (lI N8)),some (.sh (.lst (raw.map lI))),some (.sh (.dR (fx ks))),some (.sh (tI x)),some (.sh (tI P)),some (.sh (tI y)),y7,y8,y9]/\zs=(raw.zip (P.zip (kK N_))).drop j/\j<=Ls.length/\Kp N8 y/\∀i,i<N8.length->vf N8 i∣vf y i-dH j λl=>vf P l*AA Ls l i) ⟨0,Sx N8.length 0,_,_,_,rfl,rfl,SX _,⟨by simp,eK S.S⟩,λi hi=>by rw[c9];exact⟨0,by simp[dH]⟩⟩ ?_ ?_
  .rintro z rr env ⟨j,y,y7,y8,y9,rfl,hd,hj,ky,led'⟩;obtain⟨d1,d2,d3⟩:=drop_cons hd.symm;have d1':=d1;simp only[UW,i7] at d1';have jm:j<Ls.length:=by lia
   have sj:j<(kK N_).length:=by rw[i7];lia
   rw[Sy d1] at d2;have ez:z=(raw[j]'(by lia),P[j]'(by lia),(kK N_)[j]):=by rw[<- Th d2];simp
   subst ez;have er:raw[j]'(by lia)=raw.getD j []:=by rw[SJ,Sy ⋯];rfl
   have ep:P[j]'(by lia)=vf P j:=(aY _).symm;have es:(kK N_)[j]=II N_ j j:=by rw[<- aY,w4 ⋯]
   have n:=nf j jm;have ra:=Q.uI jm;have bx:(vf P j).natAbs<2^200:=by
    have:=Q.I.le j jm;have:(vf P j).natAbs<2^60:=by lia
    exact W7 this ↑12
   have ad:aL [lI N8,tI y,lI (raw.getD j []),.int (vf P j)]=M.ok (tI (dX N8 y (raw.getD j []) (vf P j))):=jL (mr S.S) l6 ky.1 rfl ra.2 bx;obtain⟨k2,Qb⟩:=uY Q jm ky (P:=λl=>vf P l) led' (vf P j) rfl;have g3:(0<=vf P j)=True:=eq_true n.1;have g4:(vf P j<II N_ j j)=True:=eq_true n.2;dsimp? [lN,er,ep,es,sy,fN,g3,g4,decide_true,ad];exact⟨_,rfl,j+1,_,_,_,_,rfl,d3.symm,jm,k2,Qb⟩
  .rintro env ⟨j,y,y7,y8,y9,rfl,hd,hj,ky,led'⟩;have Q1:(raw.zip (P.zip (kK N_))).length<=j:=WC.mp hd.symm;simp only[UW,i7] at Q1;obtain rfl:j=Ls.length:=by lia
   have yx:y=x:=fU ky.1 hx.1 ky.2 hx.2 λi hi=>by
    obtain⟨a,ha⟩:=led' i hi;obtain⟨b,hb⟩:=led i hi;exact⟨a-b,by grind⟩
   subst yx;dsimp? [Dg,decide_true];exact⟨_,rfl,rfl⟩
 .have ln:lst N8 Ls T x≠Sx N8.length 0:=λe=>mem ((hk x).mpr ⟨hx,by
   obtain⟨b1,b2,b3,b4⟩:=iP Q.st hx.1 hx.2;refine G.ext ⋯ (λi hi=>?_) b4;rw[e,c9];lia⟩)
  have pn:=Ap (N_:=N_) S.S Q.m8 Q.st ⋯ hx.1 hx.2 ln;unfold bM bN;dsimp? [gE,oP (m := "least") rfl,lo,keysOf,BZ,mz,SG,ar zk,key,mt,p_,decide_true,oP (m := "pulls_to") rfl,pn,vp,jg,decide_eq_false mem,show (true ^^ false)=true from rfl];rfl
theorem Hv(ns:List Int):sd [.jz (ns.map PV.int)]=M.ok (.bl true):=by
 obtain⟨c0,e0⟩:=tm ns 0;rw[show ((0:Nat):Int)=0 from rfl] at e0;obtain⟨_,es,N8,rfl,S⟩:=yq c0;have l6:=S.S.h6;obtain⟨_,el,raw,rfl,r8,hr⟩:=wk ns S.S;obtain⟨Ls,T,N_,Q⟩:=ml.get ns S.S r8 hr;obtain⟨_,ed,Ds,rfl,dl,hD⟩:=E3 S Q;obtain⟨Ds',k,eD⟩:∃Ds' k,Ds=Ds'++[k]:=by
  rcases Wu Ds with z|⟨a,b,z⟩
  .rw[z] at dl;simp at dl
  .exact⟨a,b,by rw[z,Wv]⟩
 have il:aA (.lst (Ds.map λk=>.dR (fx k))) (.int (-1))=M.ok (.dR (fx k)):=qm (Ds'.map λk=>.dR (fx k)) _ (by rw[eD];simp);obtain⟨nk,hk⟩:=hD Ls.length (SE _);rw[show Ds.getD Ls.length []=k by
  have:Ds'.length=Ls.length:=by rw[eD] at dl;simpa using dl
  rw[eD,<- this];simp[X3]] at nk hk
 replace hk:∀x,x∈k ↔ Kp N8 x/\GT N8 T (vf x):=λx=>(hk x).trans (Rc.all Q x)
 have sg:=wm S Q nk hk;have pg:=wM S Q dl hD;have so:=rL S λx hx=>((hk x).mp hx).1;have kl:=S.Bc nk λx hx=>((hk x).mp hx).1;have zm:(Sx N8.length 0)∈k:=(hk _).mpr ⟨⟨by simp,eK S.S⟩,G.ext ⋯ (λi hi=>by rw[c9]) (G.zero ⋯)⟩;have k0:0<k.length:=Zn zm;have ln:D7 [.dR (fx k)]=M.ok (.int (k.length:Int)):=by show M.ok (PV.int ((fx k).length:Int))=_;rw[fx,SG]
 have s8:=zX ns 10 18;refine iI.eq ?_;unfold sd AQ;dsimp? [e0,es,el,ed,il,Q.Na,Q.MN,sg,pg,show ((10:Int))=((10:Nat):Int) from rfl,show ((18:Int))=((18:Nat):Int) from rfl,lq,jE,EU,Fi];obtain⟨L,hL⟩:∃L,L=rM ns 10 18++[0]:=⟨_,rfl⟩
 have Ll:L.length<=9:=by rw[hL,S6];simp;lia
 dsimp? [zq (rM ns 10 18) ⋯,<- hL,j_ (p:=lI L) L rfl];refine iI.loop (xs:=L.zipIdx) (inj:=λz:Int×Nat=>.tup [.int (z.2:Int),.int z.1]) (λzs env=>∃(j:Nat)(y6 y7 y8:Option SV),env=[some (.sh (.jz (ns.map PV.int))),some (.sh (lI N8)),some (.sh (.lst (raw.map lI))),some (.sh (.lst (Ds.map λk=>.dR (fx k)))),some (.sh (.dR (fx k))),some (.sh (kh N8 Ls T N_)),y6,y7,y8]/\zs=L.zipIdx.drop j) ⟨0,_,_,_,rfl,rfl⟩ ?_ ?_
 .rintro z rr env ⟨j,y6,y7,y8,rfl,hd⟩;obtain⟨d1,d2,d3⟩:=drop_cons hd.symm;rw[TV] at d1;rw[Sy (by rwa[TV])] at d2;have ez:z=(L[j],j):=by rw[<- Th d2];simp
  subst ez;generalize L[j]=v at *;obtain⟨xs,ex,xl,xz⟩:=rR (v/3+48271*(j:Int)) (lI N8) N8 rfl (λb hb=>by have:=S.S.hx b hb;lia) ⋯;have kx:Kp N8 xs:=⟨xl,λi hi=>by
   have:=xz (xs[i]'(by lia),N8[i]) (S9.mpr ⟨i,by simp;lia,by simp⟩);rw[aY ⋯,aY hi];exact this⟩
  have mj:=cO (i:=48271) (j:=(j:Int)) (k:=31) (l:=31) ↑12 ⋯
  by_cases h:v%3=0
  .have m0:=T3 (v/3) (show (k.length:Int)≠0 by lia);have m1:=Tt (v/3) (show (0:Int)<(k.length:Int) by lia);obtain⟨q,hq⟩:=Vs m0;have ql:q<(cX k).length:=by rw[(fD k).length_eq];lia
   have iq:aA (.lst ((cX k).map tI)) (.int (q:Int))=M.ok (tI (cX k)[q]):=aX (p:=.lst ((cX k).map tI)) rfl (by rw[Te,Sy ql];rfl);have kq:Kp N8 (cX k)[q]:=((hk _).mp ((fD k).mem_iff.mp (TZ _))).1;dsimp? [bT,gj (i:=v) (j:=3) ↑12 ↑12,mj,ex,show PV.tup (xs.map PV.int)=tI xs from rfl,bG (i:=v) (j:=3) ↑12,h,decide_true,so,ln,bG (i:=v/3) (j:=(k.length:Int)) ⋯,hq,iq,lP S Q nk hk kq];exact⟨_,rfl,j+1,_,_,_,rfl,d3.symm⟩
  .dsimp? [bT,gj (i:=v) (j:=3) ↑12 ↑12,mj,ex,show PV.tup (xs.map PV.int)=tI xs from rfl,bG (i:=v) (j:=3) ↑12,h,decide_false,lP S Q nk hk kx];exact⟨_,rfl,j+1,_,_,_,rfl,d3.symm⟩
 .rintro env ⟨j,y6,y7,y8,rfl,hd⟩;dsimp? [sg];exact⟨_,rfl,rfl⟩
end
end vX
theorem PySem.Challenge.cw_dialvault_k22_steps_of_small_vaults_holds : PySem.Challenge.rw_dialvault_k22_steps_of_small_vaults.Holds :=
  vX.hold HD.said λns _ _ => vX.Hv ns
end