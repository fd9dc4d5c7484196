import PyProof.Rows.All
import Wide.All
import OpenK.AllK
import Wide.FinOn
import Lean
import PyProof.EqAt
import PyProof.EqKinds
import PyProof.TupleCall
import PySem.Challenge.RW_dialvault_k42_whole_all_still_weights
set_option compiler.extract_closed false
set_option compiler.reuse false
set_option compiler.small 0
set_option Elab.async false
set_option linter.all false
set_option maxRecDepth 100000
set_option maxHeartbeats 0
open PySem renaming wpAny_bind->TZ,wpAny_pure->U7,wpAny_field->VO,wpAny_seqItems->VW,wpAny_callSpecial?_slot->VY,wpAny_setField_rec->V6,wpAny_call_entry->Wb,wpAny_newObj_type->Wd,wpAny_holding->Wx,wpAny_truthy_bool->Xa,wpAny_rule->Xb,wpAny_letGo->Xf,wpAny_mono->Xi,wpAny_onRaise->Xp,wpAny_attempt->Xq,wpAny_typeNameOfWhole_keyiter->Xz,wpAny_pyIter_tuple->XQ,wpAny_passesOwn->X6,wpAny_updateSeq->X8,wpAny_typeNameOf_keyiter->Yl,mem_of_lookup->Yo,wpAny_setField->Yq,wpAny_loadPart'->Yz,wpAny_pyIter_list->YE,call_meets->YH,wpAny_isInstance->YO,wpAny_Call_Name_kw->Y_,wpAny_typeOf->Zp,wpAny_pyIter_enum->Zq,wpAny_dictEntries->Zt,wpAny_pyIter_zip->ZH,wpAny_standAt->ZK,plainId_quiet->ZO,wpAny_updateSeq_pair->ZR,wpAny_execs_nil->ZV,wpAny_letOwnedTupleGo_enum->aal,isSubtype_stop->aam,wpAny_tryCatch->aar,wpAny_binaryOp_repeat_ref->aaw,wpAny_letOwnedTupleGo_zip->aax,wpAny_assign_Name->aaC,noFill_tuple_add->aaQ,wpAny_pyNext_range_end->aa5,wpAny_pyIter_rangeiter->aa6,typeIs_int->aba,codeAny_mono->abd,wpAny_ite_false->abx,wpAny_dictEpoch->abz,codeAny_builtin->abA,exec_Assign_Name_used->abC,wpAny_notOrdered_dict->abI,wpAny_isOneOf_keyiter->abK,wpAny_of_eq->abQ,wpAny_newTuple->abR,wpAny_pyIter_keyiter->abT,seq_tuple_add->ab5,wpAny_call->aci,Within->acp,concat_meets->acy,seqIndex_neg->acz,callType_new->acD,seqSlot_of->acU
open PySem.Heap renaming get?_push_of_some->U3,get?_push_size->U_,lt_size->Vb,get?_update_other->Vv,get?_update_self->V1,size_push->V5,SameBut->Yb,ExtBut->ac3
open List renaming getElem?_eq_getElem->U4,replicate->U6,length_map->U8,getD_eq_getElem?_getD->Va,range->Ve,size_toArray->Vg,mem_iff_getElem->Vh,mem_cons_of_mem->Vi,mem_cons_self->Vl,mem_cons->Vn,mem_singleton->Vs,map_cons->Vu,length_append->Vw,getElem_mem->Vx,map_map->VC,getElem?_map->VD,length_cons->VF,mem_map->VH,getElem?_eq_some_iff->VI,getElem?_append_right->VL,length_range->VN,take_succ_eq_append_getElem->VX,getElem?_append_left->VZ,mem_append_right->V0,mem_range->V9,mem_append->Wc,length_zip->We,mem_nil_iff->Wo,zip_cons_cons->Wq,take_of_length_le->Wr,append_nil->Ww,length_drop->Wy,replicate_succ->Wz,append_assoc->WB,map_replicate->WK,of_mem_zip->WL,all_eq_true->WM,getElem_map->WO,getElem?_range->WS,find?_cons->WY,map_append->W4,length_zipIdx->W6,lookup_cons->W7,pairwise_append->W9,flatten_cons->Xd,drop_eq_getElem_cons->Xh,take_length->Xk,getElem_zip->Xl,set_cons_zero->Xm,eq_of_mem_replicate->Xv,mem_append_left->Xw,map_congr_left->XF,zipIdx_cons->XM,length_mapIdx->XR,perm_append_comm->XY,length_nil->X7,length->Yc,getElem?_set->Yd,drop_eq_nil_iff->Yg,eq_nil_iff_forall_not_mem->Yr,lookup->Yt,drop_eq_nil_of_le->Yv,mem_filter->Yx,nodup_cons->Yy,length_filter_le->YD,pairwise_map->YG,map_id->YJ,fst_mem_of_mem_zipIdx->YM,length_take->YN,cons_append->YQ,getElem_zipIdx->Y0,nil_append->Y6,forIn_cons->Y7,set_cons_succ->Za,getElem?_replicate->Zc,forIn_nil->Zr,length_replicate->ZA,getElem?_eq_none->ZD,any_cons->ZL,length_set->ZX,foldl_cons->ZY,zipIdx_nil->ZZ,filterMap_cons->Z4,length_zipWith->Z6,map_nil->Z9,mem_filterMap->aah,foldl->aak,pairwise_iff_getElem->aay,zip_nil_left->aaD,ext_getElem?->aaE,getElem_take->aaJ,mem_reverse->aaX,length_eq_zero_iff->aaY,filter_cons_of_pos->aa0,filter_cons_of_neg->aa1,getElem?_set_self->aa4,zipWith->abe,getElem?_toArray->abE,mem_iff_getElem?->abF,pairwise_reverse->abH,getElem?_set_ne->abN,getElem?_mapIdx->abS,mem_erase_of_ne->abY,getElem_of_mem->ab2,zip_nil_right->ach,getElem_of_eq->acm,reverse_perm->acF,mapM_toArray->acG,nodup_append->acM,length_tail->acV,ext_getElem->ac0,set_append->adf
open PySem.W renaming Frag->U5,findIn->V_,kia_one->Wn,fnOf->WA,emptyDict->WT,keepIn->Xc,kitOne->Xx,codeIn->Xy,instObj->XE,lookIn->Zi,InstAt->Zj,hasDictIn->Zk,specialIn->Zl,kitx_list->Zm,kitx_dict->Zn,plainGet->ZF,any_some->ZG,looks_findIn->ZP,takesIn->ZW,plainGet_of->Z5,kitAny->aan,callWith_K->aap,methodObj->aaB,mroIn->aaK,clsIn->aaL,isFn->aa7,cellsFrom_some->aa9,takerIn->abu,findObj->abw,methodCall_KW->abD,kitx_float->acf,kitx_tuple->acg,plainOver->acr,kitx_none->acs,kitx_bool->acu,handedIn->acO,kitx_int->acP,kitx_str->acQ,kitx_own->acR,makesIn->ade,mg_of->adj,KitX->adk
open Nat renaming le_refl->U9,zero_le->Vd,ne_of_lt->Vm,lt_of_lt_of_le->Vo,le_trans->Vz,lt_or_ge->VT,pow_le_pow_right->Wh,lt_of_le_of_lt->WH,le_add_right->WN,ne_of_gt->WX,lt_succ_self->Xj,lt_irrefl->XI,lcm->X3,two_pow_pos->X9,le_of_lt->X_,lt_succ_iff_lt_or_eq->Yn,mul_le_mul->Ys,not_lt_zero->YB,mul_le_mul_right->YL,mul_le_mul_left->YZ,min_le_left->Y9,succ_pos->Zu,lt_trichotomy->Zz,le_succ->ZQ,mul_comm->Z_,lt_succ_of_lt->aaH,le_of_dvd->aaO,min_le_right->aaR,succ_ne_self->aaV,le_of_eq->aa8,add_comm->abc,eq_zero_of_not_pos->abf,add_zero->abg,lt_of_succ_lt_succ->abk,zero_add->abn,pow_succ->abp,sub_self->abt,pow_add->abX,succ_mul->acA,sub_zero->acE,le_succ_of_le->acH,dvd_mul_right->acI,max_eq_right->acW,succ_lt_succ->acY,dvd_mul_left->acZ,log2_lt->ac4,add_mul->ac7,lcm_dvd->ac8,lcm_pos->ac9
open PyProof.Rows renaming wpS_bind->Vc,wpS_pure->Vj,callWith_type1->Wj,slot_tuple_getitem->Wm,wpS_forRange->Xr,wpS_mono->XS,KK_mirror_equal->YA,wpS_modify->ZJ,wpS_get->aaa,assignInOrder_cons->aag,wpS_lift->aaW,subscriptTail_builtinR->aa_,listItems_at->abh,pairsOf_size->abi,boot_zip->abB,listUpdate_at->ab7
open PySem.Value renaming ref->Vf,none->VU,type->WD,bool->XD,int->ZE,builtin->ZN,str->aad,float->abM,notImplemented->abP
open Option.some renaming inj->Vk
open PySem.W.Fast renaming te4187177175401517315->Vp,te5923862056798008813->Vq,te14364793385576792824->Wa,te10110043849684766642->XJ
open Int renaming mul_ediv_cancel_left->Vr,emod_lt_of_pos->Vy,mul_le_mul_of_nonneg_left->VA,toNat_natCast->VE,gcd->VG,emod_nonneg->VM,eq_of_mul_eq_mul_left->V8,dvd_trans->Wi,dvd_zero->Wv,emod_eq_of_lt->WC,dvd_mul_left->WQ,mul_comm->W2,mul_zero->W3,toNat_of_nonneg->Xe,ediv_nonneg->Xg,mul_le_mul_of_nonneg_right->Xo,mul_assoc->Xu,dvd_add->XA,lt_trichotomy->XC,gcd_dvd_left->XN,natAbs_mul->XU,mul_neg_of_pos_of_neg->X5,dvd_mul_of_dvd_right->Ym,one_mul->Yu,add_zero->Yw,fdiv_eq_ediv_of_nonneg->YK,emod_def->YT,ediv_le_self->YU,emod_eq_emod_iff_emod_sub_eq_zero->YW,ediv_mul_cancel->Y3,mul_nonpos_of_nonneg_of_nonpos->Zb,eq_ofNat_of_zero_le->Zg,sub_zero->Zw,le_of_lt->Zy,neg_mul->ZU,toNat->aae,natAbs_neg->aas,sub_add_cancel->aat,eq_of_mul_eq_mul_right->aau,lt_of_le_of_lt->aav,natAbs_ediv_le_natAbs->aaA,dvd_mul_right->aaI,dvd_of_emod_eq_zero->aa2,emod_eq_zero_of_dvd->aa3,lt_or_le->abm,dvd_refl->abo,le_trans->abq,zero_mul->abr,natCast_mul->aby,mul_ediv_add_emod->abL,mul_neg->abW,emod_emod_of_dvd->abZ,ediv_self->ab8,le_of_dvd->ab9,ofNat_dvd->ace,mul_ediv_assoc->acn,natCast_nonneg->aco,sub_self->acJ,gcd_dvd_right->acK,ofNat_le->acL,ne_of_gt->acN,dvd_antisymm->ac1,mul_one->ac2,sub_mul->ac6,mul_sub->ac_,mul_pos->ada,dvd_sub->adb
open PySem.Builtin.SmallTypes renaming nextOf->Vt,ownedTupleIsFree->VR,ownedTupleHandOut->WR
open Option renaming map_eq_some_iff->VB,getD_some->W8,isSome_iff_exists->Y4,map_some->Y8,bind_eq_some_iff->aaU,isSome_map->acB,getD_none->acS,bind_some->acT
open Array renaming length_toList->VJ,getElem?_toList->V3,toList_append->V4,getElem?_extract->Wu,getElem?_eq_some_iff->WI,size_extract->WJ,getElem?_eq_none->XG,perm_iff_toList_perm->XT,toList_reverse->YI,getElem?_eq_getElem->YY,eq_empty_of_size_eq_zero->ZI,toList_setIfInBounds->aaq,toList_push->aaF,getElem_toList->abU,append_empty->ack,toList->acq,toList_inj->acX,size_map->adi
open PySem.Builtin.Range renaming rangeSize->VP,small->Z7,rangeFitsLong->aac
open Bool renaming false_ne_true->VQ,false_eq_true->V7,and_eq_true->Wg,and_eq_true_iff->Ye,eq_iff_iff->Z0,false_and->abO,true_and->ab_,and_true->acd
open PySem.Str renaming ofString->VS
open Eq renaming trans->V2
open True renaming intro->WE
open PySem.Obj renaming mapSeq->WG,data_mapFields->W5,mapFields->W_,isFreed_of_fields->XX,cls_mapFields->acC
open PySem.AutoSeq1 renaming wpAny_loadPart'->WU,sub_tuple_tuple->Yh,idx_int->aaT
open PySem.PyData renaming canLay0->WV,int->Xn,depth->Xs,canLayAll0->Zv,depthAll->Z2
open Ne renaming symm->WW
open PyProof.Rows.KeyOrd renaming kle_refl->WZ,kle_of_not_klt->XZ,kle_of_klt->YF,kle_trans->YR,klt_of_klt_of_kle->aaM,not_klt_of_kle->abG,kle_antisymm->ab4
open PySem.Builtin.List renaming listExtendWith->XH,listTooLong->Yj,listSameRef->aaN,listItems->abj
open False renaming elim->XO
open PySem.Builtin.Slice renaming slicePlaces->X4,sliceAdjust->YX,sliceApplied->aai
open PySem.Builtin.Tuple renaming tupleExact->Yi,tupleItemsOf->aaj,tupleTooMany->aao
open List.Pairwise renaming imp_of_mem->Yk,imp->aaG
open PySem.Heap.SameBut renaming update->Yp
open List.Perm renaming append_left->YC,append_right->Zs
open Nat.succ renaming inj->YS
open Classical renaming skolem->YV,choose_spec->ZC,choose->aaZ
open PySem.F renaming args_tuple_add_2->Y5,entry_tuple_add->Zd,plainAttrs_list->Ze,slot_tuple_add->Zo,attr_ValueError->aaS
open Sum renaming inl->Zh,inr->ab0
open PySem.NameKind renaming free->ZM,cell->ab6
open PySem.Shared renaming heap->ZS
open PySem.Around renaming under_plainId->ZT,under->acv
open PySem.Builtin.Dict_items renaming ownsTuple->Z1
open PySem.Builtin.Int renaming intBits->Z8
open PySem.Builtin.Builtins renaming bindParams->aab
open PySem.Calls renaming Name_function_global->aaf,callWith_builtin->abb
open PySem.Builtin.Dict renaming dictSlotNone->aaz,showsAll->abJ
open PySem.Flow renaming next->aaP
open PySem.SeqAt renaming shaped->abl,noMix->abV
open ForInStep renaming yield->abv
open PyProof.Rows.IsTup renaming new->ab1
open PySem.EntryCells renaming newEntry->ab3
open PySem.Walks renaming list->acj
open PySem.Code renaming isFrame->acw
open Prod.mk renaming inj->ac5
open Array.Perm renaming refl->adg
open PySem.W.Frag renaming In->adh
open List.modifyTailIdx renaming go->adl
set_option hygiene false
local macro_rules|`(⋯)=>`(by lia)
local macro_rules|`(↑$n:num)=>#[`(starEach (e::es) X.env=(false,eval e X.env)::starEach es X.env),`(X.fn x=true\/X.env.scope.names.lookup x=some .local),`((backTo pos (starEach es X.env)).any (·.1)=false),`(by first|exact .inl rfl|exact .inr (.inl rfl)),`(.cons rfl rfl (by walk_at "l") rfl rfl .nil),`(∀x,foldedSetIterable iter X.env x=pure x),`((x==("__classdict__" : Str))=false),`((x==("__debug__" : Str))=false),`(model X.prog X.w),`(by walk_at "l"),`(by kernel_rfl),`(model prog w),`(by decide),`(by simp)][n.getNat]!
noncomputable section
def aR(h:True:=by rfl):True:=h
def aD(h:True:=by decide):True:=h
def aI(h:True:=by intro _;rfl):True:=h
def aK(h:True:=by kernel_rfl):True:=h
def aF(h:True:=by first|exact .inl rfl|exact .inr rfl|assumption):True:=h
def aU(h:True:=by with_unfolding_all rfl):True:=h
def aN(h:True:=by decide +kernel):True:=h
def aG(h:True:=by first|exact .inl rfl|exact .inr rfl):True:=h
namespace L2
open PySem PySem.Spec PyProof.Rows
abbrev Key:=Sum Int Str
def sR:Key->Value->Bool
 | .inl k,v=>Value.isInt k v
 |.inr x,v=>Value.isStrOf x v
def N8(w:World):Key->Int
 | .inl k=>hashInt k
 |.inr x=>hashStr w x
def cu:∀{k:Key}{v:Value},sR k v=true->(∃i t,k=Zh i/\v=ZE i t)\/(∃x t,k=ab0 x/\v=aad x t)
 | .inl i,v,h=>by
  obtain⟨t,e⟩:=Value.isInt_shape (k:=i) (v:=v) h;exact .inl ⟨i,t,rfl,e⟩
 | .inr x,v,h=>by
  obtain⟨t,e⟩:=Value.isStrOf_shape (x:=x) (v:=v) h;exact .inr ⟨x,t,rfl,e⟩
def z_(i:Int)(t:Tok):sR (.inl i) (.int i t)=true:=by simp[sR,Value.isInt]
def zG(x:Str)(t:Tok):sR (.inr x) (.str x t)=true:=by simp[sR,Value.isStrOf]
def Ij(a b:Int):decide ((Zh a:Key)=Zh b)=(a==b):=by
 by_cases e:a=b
 .subst e;simp
 .have h:¬ (Zh a:Key)=Zh b:=λq=>e (Sum.inl.inj q);rw[decide_eq_false h];exact(beq_eq_false_iff_ne.mpr e).symm
def Ku(a b:Str):decide ((ab0 a:Key)=ab0 b)=decide (a=b):=by
 by_cases e:a=b
 .subst e;simp
 .have h:¬ (ab0 a:Key)=ab0 b:=λq=>e (Sum.inr.inj q);rw[decide_eq_false h,decide_eq_false e]
def Iy(a:Int)(b:Str):decide ((Zh a:Key)=ab0 b)=false:=decide_eq_false (λq=>nomatch q)
def Jk(a:Str)(b:Int):decide ((ab0 a:Key)=Zh b)=false:=decide_eq_false (λq=>nomatch q)
def cv(prog:Program)(w:World):PySem.KeyKind prog w Key where
 is:=sR
 hash:=N8 w
 inj:=λv a b ha hb=>by
  rcases cu ha with ⟨i,t,rfl,rfl⟩|⟨x,t,rfl,rfl⟩
  .rcases cu hb with ⟨j,u,rfl,e⟩|⟨y,u,rfl,e⟩
   .injection e with e1 _;rw[e1]
   .exact nomatch e
  .rcases cu hb with ⟨j,u,rfl,e⟩|⟨y,u,rfl,e⟩
   .exact nomatch e
   .injection e with e1 _;rw[e1]
 byValue:=λk v h=>by
  rcases cu h with ⟨i,t,rfl,rfl⟩|⟨x,t,rfl,rfl⟩<;>rfl
 pyHash:=λhv h=>by
  rcases cu hv with ⟨i,t,rfl,rfl⟩|⟨x,t,rfl,rfl⟩
  .exact wpAny_pyHash_int h
  .exact wpAny_pyHash_str h
 eqBool:=λhu hv h=>by
  rcases cu hu with ⟨i,t,rfl,rfl⟩|⟨x,t,rfl,rfl⟩
  .rcases cu hv with ⟨j,u,rfl,rfl⟩|⟨y,u,rfl,rfl⟩
   .rw[Ij] at h;exact wpAny_eqBool_int h
   .rw[Iy] at h;exact SeqAt.EqAt.int_str i t y u _ _ _ _ h
  .rcases cu hv with ⟨j,u,rfl,rfl⟩|⟨y,u,rfl,rfl⟩
   .rw[Jk] at h;exact SeqAt.EqAt.str_int x t j u _ _ _ _ h
   .rw[Ku] at h;exact wpAny_eqBool_str h
 «strs»:=λk x t v h=>by
  rcases cu h with ⟨i,u,rfl,e⟩|⟨y,u,rfl,e⟩
  .exact nomatch e
  .injection e with e1 _
   subst e1;cases v<;>rfl
def v7(prog:Program)(w:World)(i:Int)(t:Tok):(cv prog w).is (.inl i) (.int i t)=true:=z_ i t
def w9(prog:Program)(w:World)(x:Str)(t:Tok):(cv prog w).is (.inr x) (.str x t)=true:=zG x t
inductive V where
 | c_|bl (b:Bool)|int (i:Int)|str (x:Str)|byt (b:Array UInt8)|HR (b:UInt64)|ref (a:Addr)|ty (n:String)
 deriving DecidableEq
def RelV:V->Value->Prop
 | .c_,u=>u=VU
 | .bl b,u=>u=XD b
 | .int i,u=>∃t,u=ZE i t
 | .str x,u=>∃t,u=aad x t
 | .byt b,u=>∃t,u=Value.bytes b t
 | .HR b,u=>∃t,u=abM b t
 | .ref a,u=>u=Vf a
 |.ty n,u=>u=WD n
abbrev Vals:List V->List Value->Prop:=Paired RelV
theorem Vals.length{xs:List V}{us:List Value}(r:Vals xs us):xs.length=us.length:=Paired.length r
theorem Vals.get:∀{xs:List V}{us:List Value}{i:Nat}{x:V},Vals xs us->xs[i]?=some x->∃u,us[i]?=some u/\RelV x u
 | _,_,_,_,.nil,e=>by simp at e
 | _,_,0,_,.cons r _,e=>by simp at e;subst e;exact⟨_,rfl,r⟩
 | _,_,i+1,x,.cons _ t,e=>by
  obtain⟨u,h1,h2⟩:=Vals.get (i:=i) (x:=x) t (by simpa using e);exact⟨u,by simpa using h1,h2⟩
theorem Vals.set{x:V}{u:Value}(r:RelV x u):∀{xs:List V}{us:List Value}(i:Nat),Vals xs us->Vals (xs.set i x) (us.set i u)
 | _,_,_,.nil=>.nil
 | _,_,0,.cons _ t=>.cons r t
 |_,_,i+1,.cons q t=>.cons q (Vals.set r i t)
theorem Vals.append:∀{xs ys:List V}{us ws:List Value},Vals xs us->Vals ys ws->Vals (xs++ys) (us++ws)
 | _,_,_,_,.nil,s=>s
 |_,_,_,_,.cons r t,s=>.cons r (Vals.append t s)
theorem Vals.take:∀{xs:List V}{us:List Value}(n:Nat),Vals xs us->Vals (xs.take n) (us.take n)
 | _,_,0,_=>.nil
 | _,_,_+1,.nil=>.nil
 |_,_,n+1,.cons r t=>.cons r (Vals.take n t)
theorem Vals.drop:∀{xs:List V}{us:List Value}(n:Nat),Vals xs us->Vals (xs.drop n) (us.drop n)
 | _,_,0,r=>r
 | _,_,_+1,.nil=>.nil
 |_,_,n+1,.cons _ t=>Vals.drop n t
def kA:Option V->Option Value->Prop
 | some v,some u=>RelV v u
 | none,none=>True
 |_,_=>False
def KV{κ:Type}:List (κ×V)->List (κ×Value)->Prop:=Paired λ(p:κ×V) (q:κ×Value)=>p.1=q.1/\RelV p.2 q.2
def kV:Key->V
 | .inl i=>.int i
 |.inr x=>.str x
inductive HO where
 | lst (xs:List V)
 | tup (xs:List V)
 | dK (P5:List (Key×V))|dT (P5:List (List Key×V))
 | set (S:Int->Bool) (n:Nat)
 | ins (C dx:Addr) (fs:List (Str×V))
 | own (x:Addr)
 | xd (fs:List (Str×V))
 | met (f x:Addr)
 | ja (lo hi:Int)
 | j4 (o:Obj) (u:HO)
 | Iv (ps:Array Value)
 |ext (φ:Heap->Prop)
abbrev Hp:=Addr->Option HO
def upd(H:Hp)(a:Addr)(o:HO):Hp:=λb=>if b=a then some o else H b
variable{H:Hp}
def aH{a:Addr}{o:HO}:upd H a o a=some o:=by unfold upd;rw[if_pos rfl]
variable{b:Addr}
def aB{a:Addr}{o:HO}(h:b≠a):upd H a o b=H b:=by unfold upd;rw[if_neg h]
def Cu{a:Addr}{o u:HO}(h:H a=some o)(h':H b=some u)(d:o≠u):a≠b:=by
 intro e;subst e;rw[h] at h';exact d (Vk h')
def bS{a:Addr}{o:HO}(h:H a=some o)(h':H b=none):a≠b:=by
 intro e;subst e;rw[h] at h';cases h'
section
variable(P:Program)(w:World)
def bG(H:Hp)(h:Heap)(a:Addr):HO->Prop
 | .lst xs=>xs.length<=sizeLine/\∃(P7:List Value)(n:Nat),Vals xs P7/\h.get? a=some { cls:=.type "list",data:=.seq P7.toArray n }
 | .tup xs=>xs.length<=sizeLine/\∃P7:List Value,Vals xs P7/\IsTup h a P7.toArray
 | .dK P5=>P5.length<=sizeLine/\(a==sysModules)=false/\∃vs,KV P5 vs/\h.DictOf (cv P w) a vs
 | .dT P5=>P5.length<=sizeLine/\(a==sysModules)=false/\∃xs:List (List Key×Addr×Value),
   Paired (λ(p:List Key×V) (q:List Key×Addr×Value)=>p.1=q.1/\H q.2.1=some (.tup (p.1.map kV))/\RelV p.2 q.2.2) P5 xs ∧
   ∃o es ep,h.get? a=some o/\o.ExactDict/\o.data=.dict es ep/\es.toList=xs.map (entryOfKey (tupleKind (cv P w)))/\(xs.map (·.1)).Nodup
 | .set S n=>h.SetOf (intKind P w) a S n
 | .ins C dx fs=>H dx=some (.own a)/\fs.length<=1000/\dx≠a/\h.get? a=some (XE C dx) ∧
   ∃mA,h.Ns1 dx mA/\(∀f,kA (fs.lookup f) (mA f))/\acp mA (fs.map (·.1))
 | .own _=>∃o,h.get? a=some o
 | .xd fs=>∃mA,h.Ns1 a mA/\∀f,kA (fs.lookup f) (mA f)
 | .ja lo hi=>∃t u v,h.get? a=some { cls:=.type "range",data:=.fields #[.int lo t,.int hi u,.int 1 v] }
 | .j4 o u=>h.get? a=some o/\bG H h a u
 | .Iv ps=>h.get? a=some { cls:=.none,data:=.fields ps }
 | .met f x=>h.get? a=some (aaB (.ref f) (.ref x))
 |.ext φ=>φ h/\(∃o,h.get? a=some o)/\∀h1 h2:Heap,φ h1->(∀o,h1.get? a=some o->h2.get? a=some o)->φ h2
def kH(H:Hp)(h:Heap):Prop:=∀a o,H a=some o->bG P w H h a o
end
variable{h h':Heap}{H':Hp}{w:World}{P:Program}
section
variable{a:Addr}{o:HO}
theorem bG.lt(x:bG P w H h a o):a<h.objs.size:=by
 cases o with
 | lst xs=>obtain⟨_,_,_,_,e⟩:=x;exact Vb e
 | tup xs=>obtain⟨_,_,_,p⟩:=x;exact p.lt
 | dK P5=>obtain⟨_,_,_,_,o,_,_,e,_⟩:=x;exact Vb e
 | dT P5=>obtain⟨_,_,_,_,o,_,_,e,_⟩:=x;exact Vb e
 | set S n=>obtain⟨o,_,_,_,e,_⟩:=x;exact Vb e
 | ins C dx fs=>obtain⟨_,_,_,e,_⟩:=x;exact Vb e
 | own y=>obtain⟨_,e⟩:=x;exact Vb e
 | xd fs=>obtain⟨_,⟨_,_,_,e,_⟩,_⟩:=x;exact Vb e
 | ja lo hi=>obtain⟨_,_,_,e⟩:=x;exact Vb e
 | j4 ob u=>obtain⟨e,_⟩:=x;exact Vb e
 | Iv ps=>exact Vb (show h.get? a=some _ from x)
 | met f y=>exact Vb (show h.get? a=some _ from x)
 |ext φ=>obtain⟨_,⟨_,e⟩,_⟩:=x;exact Vb e
theorem Paired.Js{α β:Type}{F G:α->β->Prop}:∀{l₁:List α}{l₂:List β},Paired F l₁ l₂->(∀a b,F a b->G a b)->Paired G l₁ l₂
 | _,_,.nil,_=>.nil
 |_,_,.cons r t,f=>.cons (f _ _ r) (Paired.Js t f)
def bG.rj(x:bG P w H h a o)(k:∀b u,(b=a\/H b=some (.own a))->h.get? b=some u->h'.get? b=some u)(ho:∀b,H b=some (.own a)->H' b=some (.own a))(ht:∀b xs,H b=some (.tup xs)->H' b=some (.tup xs)):bG P w H' h' a o:=by
 induction o with
 | lst xs=>obtain⟨z,P7,n,r,e⟩:=x;exact⟨z,P7,n,r,k _ _ (.inl rfl) e⟩
 | tup xs=>obtain⟨z,P7,r,ob,e,c⟩:=x;exact⟨z,P7,r,ob,k _ _ (.inl rfl) e,c⟩
 | dK P5=>obtain⟨z,y,vs,r,ob,es,ep,e,c⟩:=x;exact⟨z,y,vs,r,ob,es,ep,k _ _ (.inl rfl) e,c⟩
 | dT P5 =>
  obtain⟨z,y,xs,r,ob,es,ep,e,c⟩:=x;exact⟨z,y,xs,Paired.Js r λp q z=>⟨z.1,ht _ _ z.2.1,z.2.2⟩,ob,es,ep,k _ _ (.inl rfl) e,c⟩
 | set S n=>obtain⟨ob,es,ep,t,e,c⟩:=x;exact⟨ob,es,ep,t,k _ _ (.inl rfl) e,c⟩
 | ins C dx fs =>
  obtain⟨d,z,ne,e,mA,⟨od,es,ep,e2,c⟩,r⟩:=x;exact⟨ho _ d,z,ne,k _ _ (.inl rfl) e,mA,⟨od,es,ep,k _ _ (.inr d) e2,c⟩,r⟩
 | own y=>obtain⟨ob,e⟩:=x;exact⟨ob,k _ _ (.inl rfl) e⟩
 | xd fs=>obtain⟨mA,⟨od,es,ep,e,c⟩,r⟩:=x;exact⟨mA,⟨od,es,ep,k _ _ (.inl rfl) e,c⟩,r⟩
 | ja lo hi=>obtain⟨t,u,v,e⟩:=x;exact⟨t,u,v,k _ _ (.inl rfl) e⟩
 | j4 ob u ih=>obtain⟨e,q⟩:=x;exact⟨k _ _ (.inl rfl) e,ih q⟩
 | Iv ps =>
  have e:h.get? a=some { cls:=.none,data:=.fields ps }:=x;show h'.get? a=some { cls:=.none,data:=.fields ps };exact k a _ (.inl rfl) e
 | met f y =>
  have e:h.get? a=some (aaB (.ref f) (.ref y)):=x;show h'.get? a=some (aaB (.ref f) (.ref y));exact k a _ (.inl rfl) e
 |ext φ=>obtain⟨p,⟨o,e⟩,st⟩:=x;exact⟨st _ _ p λo q=>k _ _ (.inl rfl) q,⟨o,k _ _ (.inl rfl) e⟩,st⟩
theorem kH.lt(x:kH P w H h)(e:H a=some o):a<h.objs.size:=(x a o e).lt
def kH.fresh(x:kH P w H h)(e:h.objs.size<=a):H a=none:=by
 cases q:H a with
 | none=>rfl
 |some u=>exact absurd (Vo (x.lt q) e) (XI _)
def kH.kept(x:kH P w H h)(k:∀b u,h.get? b=some u->h'.get? b=some u):kH P w H h':=λa o e =>
 (x a o e).rj (λb u _ q=>k b u q) (λ_ q=>q) λ_ _ q=>q
def kH.laid(x:kH P w H h)(k:∀b u,h.get? b=some u->h'.get? b=some u)(hp:h.objs.size<=a)(new:bG P w (upd H a o) h' a o):kH P w (upd H a o) h':=λb u e=>by
 have hn:=x.fresh hp
 by_cases hb:b=a
 .subst hb;rw[aH] at e;cases e;exact new
 .rw[aB hb] at e;exact(x b u e).rj (λc v _ q=>k c v q) (λc q=>by rwa[aB (bS q hn)]) λc xs q=>by rwa[aB (bS q hn)]
end
def Rd(H:Hp)(a:Addr)(u:HO):Prop:=H a=some u\/∃o,H a=some (.j4 o u)
def Rd.ok{a:Addr}{u:HO}(r:Rd H a u)(x:kH P w H h):bG P w H h a u:=by
 rcases r with r|⟨o,r⟩
 .exact x a u r
 .obtain⟨_,q⟩:=x a _ r;exact q
def M7:Option HO->Prop
 | some (.lst _)=>True
 | some (.dK _)=>True
 | some (.dT _)=>True
 | some (.set _ _)=>True
 | some (.ins _ _ _)=>True
 | some (.ext _)=>True
 |_=>False
section
variable{x e:Addr}{o':HO}
def kH.write(ok:kH P w H h)(mu:M7 (H x))(he:e=x\/H e=some (.own x))(k:∀b u,b≠e->h.get? b=some u->h'.get? b=some u)(Ud:∃u,h'.get? e=some u)(new:bG P w (upd H x o') h' x o'):kH P w (upd H x o') h':=λb u q=>by
 have UW:∀c y,H c=some (.own y)->c≠x:=λc y r z=>by subst z;rwa[r] at mu
 have ntup:∀c xs,H c=some (.tup xs)->c≠x:=λc xs r z=>by subst z;rwa[r] at mu
 by_cases hb:b=x
 .subst hb;rw[aH] at q;cases q;exact new
 .rw[aB hb] at q
  by_cases Sl:b=e
  .have q':H b=some (.own x):=by
    rcases he with z|z
    .exact absurd (Sl.trans z) hb
    .rw[Sl];exact z
   rw[q] at q';cases q';obtain⟨v,hv⟩:=Ud;exact⟨v,by rwa[Sl]⟩
  .refine(ok b u q).rj (λc v hc r=>k c v ?_ r) (λc r=>by rwa[aB (UW c b r)]) λc xs r=>by rwa[aB (ntup c xs r)]
   rcases hc with rfl|hc
   .exact Sl
   .rintro rfl;rcases he with z|z
    .exact UW c b hc z
    .rw[hc] at z;cases z;exact hb rfl
end
structure Un (fs ex:List Addr) (H H':Hp) (h h':Heap):Prop where
 keep:∀b o,h.get? b=some o->H b=none->b ∉ fs->b ∉ ex->h'.get? b=some o
 slot:∀b o,h.get? b=some o->H b=none->b∈fs->b ∉ ex->∃sl,h'.get? b=some { o with slots:=sl }
 free:∀b o,h.get? b=some o->H b=none->b ∉ ex->H' b=none
 there:∀b o,h.get? b=some o->b ∉ ex->∃o',h'.get? b=some o'
 t8:∀b xs,H b=some (.tup xs)->H' b=some (.tup xs)
 mq:∀b o u,H b=some (.j4 o u)->H' b=some (.j4 o u)
 vc:∀b ps,H b=some (.Iv ps)->∃more,H' b=some (.Iv (ps++more))
section
variable{fs fs' ex ex':List Addr}{H1 H2:Hp}{h1 h2:Heap}{a x e:Addr}{o:HO}
def Un.any(u:Un fs ex H H1 h h1){ob:Obj}(q:h.get? b=some ob)(n:H b=none)(hx:b ∉ ex):∃sl,h1.get? b=some { ob with slots:=sl }:=by
 by_cases hb:b∈fs
 .exact u.slot b ob q n hb hx
 .exact⟨ob.slots,u.keep b ob q n hb hx⟩
def Un.kept(k:∀b u,h.get? b=some u->h'.get? b=some u):Un fs ex H H h h' :=
 ⟨λb ob q _ _ _=>k b ob q,λb ob q _ _ _=>⟨ob.slots,k b ob q⟩,λ_ _ _ n _=>n,λb ob q _=>⟨ob,k b ob q⟩,λ_ _ q=>q,λ_ _ _ q=>q,λ_ ps q=>⟨#[],by rw[q];simp⟩⟩
def Un.refl:Un fs ex H H h h:=Un.kept λ_ _ q=>q
def Un.laid(k:∀b u,h.get? b=some u->h'.get? b=some u)(hp:h.objs.size<=a)(hn:H a=none):Un fs ex H (upd H a o) h h' where
 keep:=λb u q _ _ _=>k b u q
 slot:=λb u q _ _ _=>⟨u.slots,k b u q⟩
 free:=λb u q n _=>by rwa[aB (Vm (Vo (Vb q) hp))]
 there:=λb u q _=>⟨u,k b u q⟩
 t8:=λb xs q=>by rwa[aB (bS q hn)]
 mq:=λb u xs q=>by rwa[aB (bS q hn)]
 vc:=λb ps q=>⟨#[],by rw[aB (bS q hn),q];simp⟩
def Un.write(mu:M7 (H x))(he:e=x\/H e=some (.own x))(k:∀b u,b≠e->h.get? b=some u->h'.get? b=some u)(Ud:∃u,h'.get? e=some u):Un fs ex H (upd H x o) h h':=by
 have hx:∀b,H b=none->b≠x:=λb n z=>by subst z;rwa[n] at mu
 have hb:∀b,H b=none->b≠e:=λb n z=>by
  subst z;rcases he with r|r
  .exact hx b n r
  .rw[n] at r;cases r
 have hm:∀b u,H b=some u->¬ M7 (some u)->b≠x:=λb u q nm z=>by subst z;rw[q] at mu;exact nm mu
 refine⟨λb u q n _ _=>k b u (hb b n) q,λb u q n _ _=>⟨u.slots,k b u (hb b n) q⟩,λb u q n _=>by rwa[aB (hx b n)],λb u q _=>?_,
  λb xs q=>by rwa[aB (hm b _ q λz=>z)],λb u xs q=>by rwa[aB (hm b _ q λz=>z)],λb ps q=>⟨#[],by rw[aB (hm b _ q λz=>z),q];simp⟩⟩
 by_cases Sl:b=e
 .subst Sl;exact Ud
 .exact⟨u,k b u Sl q⟩
end
def NN(h:Heap)(H:Hp):List Addr:=(Ve h.objs.size).filter λa=>(H a).isSome
def t4(h:Heap)(H:Hp):Heap:=PySem.W.hideAll h (NN h H)
def zO(h:Heap)(H:Hp):(t4 h H).objs.size=h.objs.size:=PySem.W.hideAll_size _ _
variable{o:Obj}
def DL(e:h.get? b=some o)(n:H b=none):(t4 h H).get? b=some o :=
 PySem.W.hideAll_get _ e λhm=>by
  have q:(H b).isSome=true:=(Yx.mp hm).2;rw[n] at q;simp at q
def Fp(e:(t4 h H).get? b=some o):h.get? b=some o/\H b=none:=by
 have e':h.get? b=some o:=PySem.W.of_hideAll (NN h H) e;refine⟨e',?_⟩;cases q:H b with
 | none=>rfl
 | some x =>
  have hm:b∈NN h H:=Yx.mpr ⟨V9.mpr (Vb e'),by simp[q]⟩;have z:(t4 h H).get? b=none:=PySem.W.hideAll_none (NN h H) hm;rw[z] at e;cases e
def F7(g h:Heap)(L:Addr):List (Addr×Obj):=(Ve h.objs.size).filterMap λa=>if a=L\/(g.get? a).isSome=true then none else (h.get? a).map λo=>(a,o)
def rest(g h:Heap)(L d:Addr):List (Addr×Obj):=(F7 g h L).filter λp=>decide (p.1≠d)
structure Mod (K:U5) (mg:Str->Option Value) (base:Heap):Prop where
 LH:K.In base
 glob:base.Ns mainGlobals mg
 blt:∃mb,base.Ns builtinsNs mb/\∀x:Str,x ≠ "__name__" -> mb x=bootBuiltins x
 nolimit:base.NoLimit
structure Cx where
 prog:Program
 w:World
 K:U5
 mg:Str->Option Value
 base:Heap
 A:Around
 N:List Str
 s₀:Shared
 H₀:Hp
 env:Env
 outer:List Env
 stack:List Env
 ex:List Addr
 fn:Str->Bool
 calm:Bool
 pn:List (Addr×Obj)
 xe:Value->Shared->Prop
def xc(l:List Env):List Addr:=l.filterMap (·.frame)
abbrev Cx.fs(X:Cx):List Addr:=xc X.outer
def AK(sc:Scope)(x:Str):Prop:=sc.names.lookup x=some .local\/sc.names.lookup x=some .cell\/sc.names.lookup x=some .free
def Loc(sc:Scope)(x:Str):Prop:=sc.names.lookup x=some .local\/sc.names.lookup x=some .cell
def Look(env:Env)(h:Heap)(m:Str->Option Value)(x:Str)(u:Value):Prop :=
 (env.kindOf x=some .local/\m x=some u)\/((env.kindOf x=some .cell\/env.kindOf x=some .free)/\∃c,env.cells.lookup x=some c/\h.IsCell c (some u))
structure Cx.Ok (X:Cx):Prop where
 mod:Mod X.K X.mg X.base
 kind:X.env.scope.kind=.function
 glob:X.env.globals=mainGlobals
 blt:X.env.builtins=builtinsNs
 above:X.s₀.heap.objs.size<=X.env.locals
 inj:∀x y c,X.env.cells.lookup x=some c->X.env.cells.lookup y=some c->x=y
 has:∀x,(X.env.kindOf x=some .cell\/X.env.kindOf x=some .free)->∃c,X.env.cells.lookup x=some c
 M1:∀x c,X.fn x=true->X.env.cells.lookup x=some c->X.s₀.heap.objs.size<=c
 hd:X.calm=true->X.A.handled=none
 frames:X.A.frames=some X.stack
 NQ:X.stack=X.outer\/(X.stack=X.env::X.outer/\X.env.frame=some X.env.locals)
 NX:∀b∈X.ex,b≠X.env.locals/\∀x c,X.env.cells.lookup x=some c->c≠b
 bs:∀b o,X.base.get? b=some o->X.s₀.heap.get? b=some o/\X.H₀ b=none
 Hn:X.base.objs.size<=X.s₀.heap.objs.size
 zI:∀b o,X.base.get? b=some o->b ∉ X.ex
 Ec:∀b∈X.ex,b ∉ X.fs
 n5:X.s₀.heap.FunFrames X.base X.outer
 JH:∀b∈X.fs,X.H₀ b=none
structure Inv (X:Cx) (PZ:List (Addr×Obj)) (σ:List (Option V)) (H:Hp) (s:Shared):Prop where
 ok:X.Ok
 os:s.os=X.s₀.os
 bare:AllBare s.gens
 base:Un X.fs X.ex X.H₀ H X.s₀.heap s.heap
 loc:∃m,s.heap.Ns X.env.locals m/\∀(i:Nat)(x:Str)(v:V),X.N[i]?=some x->σ[i]?=some (some v)->AK X.env.scope x->∃u,RelV v u/\Look X.env s.heap m x u
 cell:∀x c,X.env.cells.lookup x=some c->∃v,s.heap.IsCell c v
 free:H X.env.locals=none
 kF:∀x c,X.env.cells.lookup x=some c->H c=none
 pin:∀p∈X.pn++PZ,s.heap.get? p.1=some p.2/\H p.1=none/\p.1≠X.env.locals/\p.1 ∉ X.fs/\∀v,p.2.data≠.cell v
 bJ:kH X.prog X.w H s.heap
 len:σ.length=X.N.length
variable{s:Shared}{PZ:List (Addr×Obj)}{X:Cx}
variable{ch:List Addr}{d':Drawn}{t':Nat}{g':Array GenState}
variable{it:Addr}
variable{x:Str}{i:Nat}{N:List Str}
variable{u:Value}{v:V}{E:Value->Shared->Prop}{A:Around}
section
variable{σ:List (Option V)}
def Cx.Ok.Ot(ok:X.Ok)(e:X.base.get? b=some o):b ∉ X.fs:=λhb=>by
 have:=(ok.n5.mem hb).1;rw[e] at this;cases this
theorem Inv.bs(I:Inv X PZ σ H s):∀b o,X.base.get? b=some o->s.heap.get? b=some o/\H b=none:=λb o e =>
 ⟨I.base.keep b o (I.ok.bs b o e).1 (I.ok.bs b o e).2 (I.ok.Ot e) (I.ok.zI b o e),I.base.free b o (I.ok.bs b o e).1 (I.ok.bs b o e).2 (I.ok.zI b o e)⟩
def Inv.bk(I:Inv X PZ σ H s):∀b o,X.base.get? b=some o->s.heap.get? b=some o:=λb o e=>(I.bs b o e).1
theorem Inv.mod(I:Inv X PZ σ H s):Mod X.K X.mg X.base:=I.ok.mod
def Inv.mh(I:Inv X PZ σ H s):X.K.In s.heap:=I.ok.mod.LH.keeps I.bk
theorem Inv.lt(I:Inv X PZ σ H s):X.env.locals<s.heap.objs.size:=let ⟨_,hn,_⟩:=I.loc;hn.lt
def Inv.sz(I:Inv X PZ σ H s):X.s₀.heap.objs.size<=s.heap.objs.size:=Vz I.ok.above (X_ I.lt)
def Inv.Oc(I:Inv X PZ σ H s){a:Addr}(h:s.heap.objs.size<=a):a ∉ X.fs:=λhb=>by
 obtain⟨_,o,ho,_⟩:=I.ok.n5.mem hb;exact absurd (Vo (Vb ho) (Vz I.sz h)) (XI _)
def Inv.Lj(I:Inv X PZ σ H s):∀x c,X.env.cells.lookup x=some c->c≠X.env.locals:=λx c e z=>by
 obtain⟨v,o,ho,hd⟩:=I.cell x c e;obtain⟨m,⟨o',es,ep,R1,Tf,_⟩,_⟩:=I.loc;rw[z,R1] at ho;cases ho;rw[Tf] at hd;cases hd
theorem Inv.n5(I:Inv X PZ σ H s):s.heap.FunFrames X.base X.outer:=by
 have all:∀(l:List Env),(∀b∈xc l,b∈X.fs)->X.s₀.heap.FunFrames X.base l->s.heap.FunFrames X.base l:=by
  intro l
  induction l with
  | nil=>intro _ _;trivial
  | cons env r ih =>
   intro hs hl;obtain⟨hk,⟨L,o,hf,hn,ho,hd⟩,hr⟩:=hl;have hL:L∈X.fs:=hs L (by unfold xc;rw[Z4,hf];exact Vl);obtain⟨sl,e⟩:=I.base.slot L o ho (I.ok.JH L hL) hL λz=>I.ok.Ec L z hL;exact⟨hk,⟨L,_,hf,hn,e,hd⟩,ih (λb hb=>hs b (by unfold xc;rw[Z4,hf];exact Vi _ hb)) hr⟩
 exact all X.outer (λ_ hb=>hb) I.ok.n5
theorem Inv.stack(I:Inv X PZ σ H s):s.heap.FunFrames X.base X.stack:=by
 rcases I.ok.NQ with e|⟨e,hf⟩
 .rw[e];exact I.n5
 .rw[e];obtain⟨m,hn,_⟩:=I.loc;refine .cons (by rw[I.ok.kind];decide) hf hn ?_ I.n5;exact Heap.get?_none_of_le (Vz I.ok.Hn I.ok.above)
def Inv.uH(I:Inv X PZ σ H s):∀b∈xc X.stack,b∈X.env.locals::X.fs:=λb hb=>by
 rcases I.ok.NQ with e|⟨e,hf⟩
 .rw[e] at hb;exact Vi _ hb
 .rw[e] at hb;unfold xc at hb;rwa[Z4,hf] at hb
def Inv.tP(I:Inv X PZ σ H s):∀b∈xc X.stack,H b=none:=λb hb=>by
 rcases Vn.mp (I.uH b hb) with e|hb
 .rw[e];exact I.free
 .obtain⟨_,o,ho,_⟩:=I.ok.n5.mem hb;exact I.base.free b o ho (I.ok.JH b hb) λz=>I.ok.Ec b z hb
def Inv.step(I:Inv X PZ σ H s)(RW:∀b∈ch,(b∈X.ex\/X.s₀.heap.objs.size<=b)/\b≠X.env.locals/\(∀x c,X.env.cells.lookup x=some c->c≠b)/\∀p∈X.pn++PZ,p.1≠b)(keep:∀b o,b≠X.env.locals->b ∉ X.fs->b ∉ ch->s.heap.get? b=some o->H b=none->h'.get? b=some o)(slot:∀b o,b≠X.env.locals->b∈X.fs->b ∉ ch->s.heap.get? b=some o->H b=none->∃sl,h'.get? b=some { o with slots:=sl })(free:∀b o,b ∉ ch->s.heap.get? b=some o->H b=none->H' b=none)(there:∀b o,b ∉ ch->s.heap.get? b=some o->∃o',h'.get? b=some o')(t8:∀b xs,H b=some (.tup xs)->H' b=some (.tup xs))(mq:∀b o u,H b=some (.j4 o u)->H' b=some (.j4 o u))(vc:∀b ps,H b=some (.Iv ps)->∃more,H' b=some (.Iv (ps++more)))(ns:∀m,s.heap.Ns X.env.locals m->h'.Ns X.env.locals m)(bJ:kH X.prog X.w H' h')(hg:AllBare g'):Inv X PZ σ H' { s with heap:=h',gens:=g',drawn:=d',toks:=t' }:=by
 have neL:∀b o,X.s₀.heap.get? b=some o->b≠X.env.locals:=λb o e=>Vm (Vo (Vb e) I.ok.above);have neC:∀b o,X.s₀.heap.get? b=some o->b ∉ X.ex->b ∉ ch:=λb o e hx hb=>by
  rcases(RW b hb).1 with z|z
  .exact hx z
  .exact absurd (Vo (Vb e) z) (XI _)
 have cellK:∀x c,X.env.cells.lookup x=some c->∀v,s.heap.IsCell c v->h'.IsCell c v:=λx c e v ⟨o,ho,hd⟩=>by
  have UT:c ∉ ch:=λz=>(RW c z).2.2.1 x c e rfl
  by_cases hc:c∈X.fs
  .obtain⟨sl,q⟩:=slot c o (I.Lj x c e) hc UT ho (I.kF x c e);exact⟨_,q,hd⟩
  .exact⟨o,keep c o (I.Lj x c e) hc UT ho (I.kF x c e),hd⟩
 refine⟨I.ok,I.os,hg,⟨λb o e n hb hx=>?_,λb o e n hb hx=>?_,λb o e n hx=>?_,λb o e hx=>?_,λb xs e=>t8 b xs (I.base.t8 b xs e),λb o xs e=>mq b o xs (I.base.mq b o xs e),λb ps e=>?_⟩,?_,λx c e=>?_,?_,λx c e=>?_,λp hp=>?_,bJ,I.len⟩
 .exact keep b o (neL b o e) hb (neC b o e hx) (I.base.keep b o e n hb hx) (I.base.free b o e n hx)
 .obtain⟨sl,e1⟩:=I.base.slot b o e n hb hx;obtain⟨sl',e2⟩:=slot b _ (neL b o e) hb (neC b o e hx) e1 (I.base.free b o e n hx);exact⟨sl',e2⟩
 .obtain⟨o',e1⟩:=I.base.there b o e hx;exact free b o' (neC b o e hx) e1 (I.base.free b o e n hx)
 .obtain⟨o',e1⟩:=I.base.there b o e hx;exact there b o' (neC b o e hx) e1
 .obtain⟨m1,e1⟩:=I.base.vc b ps e;obtain⟨m2,e2⟩:=vc b _ e1;exact⟨m1++m2,by rw[e2,Array.append_assoc]⟩
 .obtain⟨m,hn,hl⟩:=I.loc;refine⟨m,ns m hn,λi x v e1 e2 e3=>?_⟩;obtain⟨u,r,l⟩:=hl i x v e1 e2 e3;refine⟨u,r,?_⟩;rcases l with l|⟨k,c,e,z⟩
  .exact .inl l
  .exact .inr ⟨k,c,e,cellK x c e _ z⟩
 .obtain⟨v,z⟩:=I.cell x c e;exact⟨v,cellK x c e v z⟩
 .obtain⟨m,⟨o,_,_,ho,_⟩,_⟩:=I.loc;exact free _ o (λz=>(RW _ z).2.1 rfl) ho I.free
 .obtain⟨v,o,ho,hd⟩:=I.cell x c e;exact free c o (λz=>(RW c z).2.2.1 x c e rfl) ho (I.kF x c e)
 .obtain⟨e,n,ne,nf,d⟩:=I.pin p hp;have UT:p.1 ∉ ch:=λz=>(RW p.1 z).2.2.2 p hp rfl;exact⟨keep p.1 p.2 ne nf UT e n,free p.1 p.2 UT e n,ne,nf,d⟩
def Inv.un(I:Inv X PZ σ H s)(u:Un X.fs [] H H' s.heap h')(bJ:kH X.prog X.w H' h'):Inv X PZ σ H' { s with heap:=h',toks:=t' }:=by
 obtain⟨m,⟨o,es,ep,ho,r⟩,_⟩:=id I.loc;obtain⟨sl,hL⟩:=u.any ho I.free ↑13;exact I.step (g':=s.gens) (d':=s.drawn) (ch:=[]) (λ_ z=>nomatch z) (λb o _ hb _ e n=>u.keep b o e n hb ↑13) (λb o _ hb _ e n=>u.slot b o e n hb ↑13) (λb o _ e n=>u.free b o e n ↑13) (λb o _ e=>u.there b o e ↑13) u.t8 u.mq u.vc (λm' hm=>by
  obtain⟨o',Ur,Uq,R1,r'⟩:=hm;rw[ho] at R1;cases R1;exact⟨_,Ur,Uq,hL,r'⟩) bJ I.bare
def Inv.call(I:Inv X PZ σ H s)(u:Un (xc X.stack) ch H H' s.heap h')(bJ:kH X.prog X.w H' h')(hg:AllBare g')(RW:∀b∈ch,(b∈X.ex\/X.s₀.heap.objs.size<=b)/\b≠X.env.locals/\(∀x c,X.env.cells.lookup x=some c->c≠b)/\∀p∈X.pn++PZ,p.1≠b):Inv X PZ σ H' { s with heap:=h',gens:=g',drawn:=d',toks:=t' }:=by
 obtain⟨m,⟨o,es,ep,ho,r⟩,_⟩:=id I.loc;obtain⟨sl,hL⟩:=u.any ho I.free λz=>(RW _ z).2.1 rfl;exact I.step (ch:=ch) RW (λb o hL hb hc e n=>u.keep b o e n (λz=>(Vn.mp (I.uH b z)).elim hL hb) hc) (λb o _ _ hc e n=>u.any e n hc) (λb o hc e n=>u.free b o e n hc) (λb o hc e=>u.there b o e hc) u.t8 u.mq u.vc (λm' hm=>by
  obtain⟨o',Ur,Uq,R1,r'⟩:=hm;rw[ho] at R1;cases R1;exact⟨_,Ur,Uq,hL,r'⟩) bJ hg
def Inv.turned(I:Inv X PZ σ H s)(k:∀b o,b≠it->s.heap.get? b=some o->h'.get? b=some o)(hn:H it=none)(hL:it≠X.env.locals)(h1:it∈X.ex\/X.s₀.heap.objs.size<=it)(h2:∀x c,X.env.cells.lookup x=some c->c≠it)(h3:∀p∈X.pn++PZ,p.1≠it):Inv X PZ σ H { s with heap:=h',toks:=t' }:=by
 have nit:∀b u,H b=some u->b≠it:=λb u e z=>by rw[z,hn] at e;cases e
 refine I.step (g':=s.gens) (d':=s.drawn) (ch:=[it]) (λb hb=>?_) (λb o _ _ hc e _=>k b o (λz=>hc (by simp[z])) e) (λb o _ _ hc e _=>⟨o.slots,k b o (λz=>hc (by simp[z])) e⟩) (λ_ _ _ _ n=>n)
  (λb o hc e=>⟨o,k b o (λz=>hc (by simp[z])) e⟩) (λ_ _ e=>e) (λ_ _ _ e=>e) (λb ps e=>⟨#[],by rw[e];simp⟩) (λm hm=>?_) (λb u e=>?_) I.bare
 .have e:b=it:=by simpa using hb
  subst e;exact⟨h1,hL,h2,h3⟩
 .obtain⟨o,es,ep,ho,r⟩:=hm;exact⟨o,es,ep,k _ o (WW hL) ho,r⟩
 .refine(I.bJ b u e).rj (λc v hc q=>k c v ?_ q) (λ_ q=>q) λ_ _ q=>q;rcases hc with z|z
  .rw[z];exact nit b u e
  .exact nit c _ z
def Inv.tok(I:Inv X PZ σ H s)(t:Nat):Inv X PZ σ H { s with toks:=t }:=I.un (h':=s.heap) (t':=t) Un.refl I.bJ
theorem Inv.kept{t':Nat}(I:Inv X PZ σ H s)(k:∀b u,s.heap.get? b=some u->h'.get? b=some u):Inv X PZ σ H { s with heap:=h',toks:=t' }:=I.un (Un.kept k) (I.bJ.kept k)
theorem Inv.laid{a:Addr}{o:HO}{t':Nat}(I:Inv X PZ σ H s)(k:∀b u,s.heap.get? b=some u->h'.get? b=some u)(hp:s.heap.objs.size<=a)(new:bG X.prog X.w (upd H a o) h' a o):Inv X PZ σ (upd H a o) { s with heap:=h',toks:=t' }:=I.un (Un.laid k hp (I.bJ.fresh hp)) (I.bJ.laid k hp new)
theorem Inv.write{x e:Addr}{o:HO}{t':Nat}(I:Inv X PZ σ H s)(mu:M7 (H x))(he:e=x\/H e=some (.own x))(k:∀b u,b≠e->s.heap.get? b=some u->h'.get? b=some u)(Ud:∃u,h'.get? e=some u)(new:bG X.prog X.w (upd H x o) h' x o):Inv X PZ σ (upd H x o) { s with heap:=h',toks:=t' }:=I.un (Un.write mu he k Ud) (I.bJ.write mu he k Ud new)
def Inv.zu{S1:List (Addr×Obj)}(I:Inv X PZ σ H s)(h:∀p∈S1,s.heap.get? p.1=some p.2/\H p.1=none/\p.1≠X.env.locals/\p.1 ∉ X.fs/\∀v,p.2.data≠.cell v):Inv X S1 σ H s :=
 ⟨I.ok,I.os,I.bare,I.base,I.loc,I.cell,I.free,I.kF,λp hp=>(Wc.mp hp).elim (λz=>I.pin p (Xw _ z)) (h p),I.bJ,I.len⟩
def vp(hN:N.Nodup){j:Nat}(a:N[i]?=some x)(b:N[j]?=some x):i=j:=by
 obtain⟨h1,e1⟩:=VI.mp a;obtain⟨h2,e2⟩:=VI.mp b;exact(List.getElem_inj hN).mp (e1.trans e2.symm)
def mL{M:Model}{Q:Unit->Shared->Prop}(I:Inv X PZ σ H s)(hN:X.N.Nodup)(hi:X.N[i]?=some x)(hx:Loc X.env.scope x)(r:RelV v u)(h:∀s',Inv X PZ (σ.set i (some v)) H s'->(∃a,Yb a s.heap s'.heap/\(a=X.env.locals\/X.env.cells.lookup x=some a))->Q () s')(hf:autoParam ↑1 aF._auto_1):wpAny M A (storeName X.env x u) Q E s:=by
 obtain⟨m,hn,hl⟩:=id I.loc;have hcls:(X.env.scope.kind==.class||(X.env.scope.kind==.module&&X.env.locals != X.env.globals))=false:=by rw[I.ok.kind];rfl
 have hiσ:i<σ.length:=by rw[I.len];exact(VI.mp hi).1
 have Lj:=I.Lj;have tracked:∀{a:Addr}{h':Heap},(∃o,s.heap.get? a=some o/\H a=none)->Yb a s.heap h'->kH X.prog X.w H h':=λ{a h'} ha hs b ob e=>by
  obtain⟨_,_,Sb⟩:=ha;refine(I.bJ b ob e).rj (λc w' hc q=>(hs.2 c ?_).trans q) (λ_ q=>q) λ_ _ q=>q;rintro rfl;rcases hc with rfl|hc
  .rw[Sb] at e;cases e
  .rw[Sb] at hc;cases hc
 rcases hx with hk|hk
 .refine wpAny_storeName_local hk hn (λh' hn' hs=>?_) hcls;obtain⟨oL,_,_,hoL,_⟩:=id hn;refine h _ ⟨I.ok,I.os,I.bare,⟨λb o e n hb hx=>?_,λb o e n hb hx=>?_,I.base.free,λb o e hx=>?_,I.base.t8,I.base.mq,I.base.vc⟩,⟨_,hn',λj y v' e1 e2 e3=>?_⟩,λy c e=>?_,I.free,I.kF,λp hp=>?_,tracked ⟨oL,hoL,I.free⟩ hs,by simpa using I.len⟩ ⟨_,hs,.inl rfl⟩
  .exact(hs.2 b (Vm (Vo (Vb e) I.ok.above))).trans (I.base.keep b o e n hb hx)
  .obtain⟨sl,e1⟩:=I.base.slot b o e n hb hx;exact⟨sl,(hs.2 b (Vm (Vo (Vb e) I.ok.above))).trans e1⟩
  .obtain⟨o',e1⟩:=I.base.there b o e hx;exact⟨o',(hs.2 b (Vm (Vo (Vb e) I.ok.above))).trans e1⟩
  .by_cases hj:j=i
   .subst hj;rw[hi] at e1;cases e1;rw[aa4 hiσ] at e2;cases e2;exact⟨u,r,.inl ⟨hk,by simp⟩⟩
   .rw[abN (WW hj)] at e2;obtain⟨u',r',q⟩:=hl j y v' e1 e2 e3;refine⟨u',r',?_⟩;rcases q with ⟨k,e⟩|⟨k,c,e,z⟩
    .refine .inl ⟨k,?_⟩;have:y≠x:=λe=>hj (vp hN e1 (e▸hi));simp[this,e]
    .exact .inr ⟨k,c,e,z.sameBut hs (Lj y c e)⟩
  .obtain⟨w',z⟩:=I.cell y c e;exact⟨w',z.sameBut hs (Lj y c e)⟩
  .obtain⟨e,n,ne,nf,d⟩:=I.pin p hp;exact⟨(hs.2 p.1 ne).trans e,n,ne,nf,d⟩
 .have hfn:X.fn x=true:=by
   rcases hf with z|z
   .exact z
   .rw[z] at hk;cases hk
  obtain⟨c,hc⟩:=I.ok.has x (.inl hk);obtain⟨w',z⟩:=I.cell x c hc;refine wpAny_storeName_cell I.ok.kind hk hc z (λh' Tc hs=>?_);obtain⟨oc,hoc,hocd⟩:=id z;refine h { s with heap:=h' } ⟨I.ok,I.os,I.bare,⟨λb o e n hb hx=>?_,λb o e n hb hx=>?_,I.base.free,λb o e hx=>?_,I.base.t8,I.base.mq,I.base.vc⟩,⟨m,hn.sameBut hs (WW (Lj x c hc)),λj y v' e1 e2 e3=>?_⟩,λy c' e=>?_,I.free,I.kF,λp hp=>?_,tracked ⟨oc,hoc,I.kF x c hc⟩ hs,by simpa using I.len⟩ ⟨c,hs,.inr hc⟩
  .exact(hs.2 b (Vm (Vo (Vb e) (I.ok.M1 x c hfn hc)))).trans (I.base.keep b o e n hb hx)
  .obtain⟨sl,e1⟩:=I.base.slot b o e n hb hx;exact⟨sl,(hs.2 b (Vm (Vo (Vb e) (I.ok.M1 x c hfn hc)))).trans e1⟩
  .obtain⟨o',e1⟩:=I.base.there b o e hx;exact⟨o',(hs.2 b (Vm (Vo (Vb e) (I.ok.M1 x c hfn hc)))).trans e1⟩
  .by_cases hj:j=i
   .subst hj;rw[hi] at e1;cases e1;rw[aa4 hiσ] at e2;cases e2;exact⟨u,r,.inr ⟨.inl hk,c,hc,Tc⟩⟩
   .rw[abN (WW hj)] at e2;obtain⟨u',r',q⟩:=hl j y v' e1 e2 e3;refine⟨u',r',?_⟩;rcases q with q|⟨k,c',e,z'⟩
    .exact .inl q
    .refine .inr ⟨k,c',e,z'.sameBut hs ?_⟩;rintro rfl;exact hj (vp hN e1 (I.ok.inj _ _ _ e hc▸hi))
  .by_cases hcc:c'=c
   .subst hcc;exact⟨_,Tc⟩
   .obtain⟨w2,z2⟩:=I.cell y c' e;exact⟨w2,z2.sameBut hs hcc⟩
  .obtain⟨e,n,ne,nf,d⟩:=I.pin p hp;refine⟨(hs.2 p.1 ?_).trans e,n,ne,nf,d⟩;intro q;rw[q,hoc] at e;have q':oc=p.2:=Vk e;exact d w' (by rwa[<- q'])
def lY{M:Model}{Q:Unit->Shared->Prop}(I:Inv X PZ σ H s)(hN:X.N.Nodup)(hi:X.N[i]?=some x)(hx:Loc X.env.scope x)(r:RelV v u)(h:∀s',Inv X PZ (σ.set i (some v)) H s'->Q () s')(hf:autoParam ↑1 aF._auto_1):wpAny M A (storeName X.env x u) Q E s :=
 mL I hN hi hx r (λs' I' _=>h s' I') hf
def Inv.Dq{s':Shared}(I:Inv X PZ σ H s)(ho:s'.os=s.os)(u:Un (xc X.stack) ch H H' s.heap s'.heap)(bJ:kH X.prog X.w H' s'.heap)(hg:AllBare s'.gens)(RW:∀b∈ch,(b∈X.ex\/X.s₀.heap.objs.size<=b)/\b≠X.env.locals/\(∀x c,X.env.cells.lookup x=some c->c≠b)/\∀p∈X.pn++PZ,p.1≠b):Inv X PZ σ H' s':=by
 obtain⟨h',g',d',t',o'⟩:=s';have e:o'=s.os:=ho;subst e;exact I.call (g':=g') (t':=t') (d':=d') u bJ hg RW
end
abbrev XK:=Value->Option Addr->Hp->Prop
abbrev St:=List (Option V)
abbrev VK:=V->Hp->Prop
abbrev TE:=St->Hp->VK->Prop
abbrev TT:=St->Hp->(Bool->Hp->Prop)->Prop
abbrev TA:=St->Hp->(List V->Hp->Prop)->Prop
structure Ends where
 nx:St->Hp->Prop
 rt:VK
 bk:St->Hp->Prop:=λ_ _=>False
 ct:St->Hp->Prop:=λ_ _=>False
abbrev TS:=Ends->St->Hp->Prop
def EP(X:Cx)(PZ:List (Addr×Obj))(σ:St)(Q:VK)(u:Value)(s':Shared):Prop:=∃v H',Inv X PZ σ H' s'/\RelV v u/\Q v H'
def TP(X:Cx)(PZ:List (Addr×Obj))(σ:St)(Q:Bool->Hp->Prop)(b:Bool)(s':Shared):Prop:=∃H',Inv X PZ σ H' s'/\Q b H'
def AP(X:Cx)(PZ:List (Addr×Obj))(σ:St)(Q:List V->Hp->Prop)(us:List Value)(s':Shared):Prop:=∃vs H',Inv X PZ σ H' s'/\Vals vs us/\Q vs H'
def SP(X:Cx)(PZ:List (Addr×Obj))(D:Ends)(f:Flow)(s':Shared):Prop :=
 match f with
 | .next=>∃σ' H',Inv X PZ σ' H' s'/\D.nx σ' H'
 | .brk=>∃σ' H',Inv X PZ σ' H' s'/\D.bk σ' H'
 | .cont=>∃σ' H',Inv X PZ σ' H' s'/\D.ct σ' H'
 |.ret u=>∃v σ' H',Inv X PZ σ' H' s'/\RelV v u/\D.rt v H'
def PE(X:Cx)(e:Expr)(t:TE):Prop :=
 ∀(PZ:List (Addr×Obj))(s:Shared)(σ:St)(H:Hp)(Q:VK),Inv X PZ σ H s->t σ H Q->wpAny ↑8 X.A (eval e X.env) (EP X PZ σ Q) X.xe s
def PT(X:Cx)(e:Expr)(t:TT):Prop :=
 ∀(PZ:List (Addr×Obj))(s:Shared)(σ:St)(H:Hp)(Q:Bool->Hp->Prop),Inv X PZ σ H s->t σ H Q->wpAny ↑8 X.A (isTrue e X.env (eval e X.env)) (TP X PZ σ Q) X.xe s
def PW(X:Cx)(e:Expr)(t:TT):Prop :=
 ∀(whole:Sem Value)(PZ:List (Addr×Obj))(s:Shared)(σ:St)(H:Hp)(Q:Bool->Hp->Prop),Inv X PZ σ H s->t σ H Q->wpAny ↑8 X.A (isTrue e X.env whole) (TP X PZ σ Q) X.xe s
variable{e:Expr}
def PW.pt{t:TT}(h:PW X e t):PT X e t:=h _
def PA(X:Cx)(es:List Expr)(t:TA):Prop :=
 ∀(pos:Pos)(PZ:List (Addr×Obj))(s:Shared)(σ:St)(H:Hp)(Q:List V->Hp->Prop),Inv X PZ σ H s->t σ H Q->wpAny ↑8 X.A (spliced (backTo pos (starEach es X.env))) (AP X PZ σ Q) X.xe s
def PS(X:Cx)(st:Stmt)(t:TS):Prop :=
 ∀(PZ:List (Addr×Obj))(s:Shared)(σ:St)(H:Hp)(D:Ends),Inv X PZ σ H s->t D σ H->wpAny ↑8 X.A (exec st X.env) (SP X PZ D) X.xe s
def kr(X:Cx)(st:List Stmt)(t:TS):Prop :=
 ∀(PZ:List (Addr×Obj))(s:Shared)(σ:St)(H:Hp)(D:Ends),Inv X PZ σ H s->t D σ H->wpAny ↑8 X.A (execs st X.env) (SP X PZ D) X.xe s
def cF{α:Type}{t:Sem α}{Q Q':α->Shared->Prop}{M:Model}(h:wpAny M A t Q E s)(hQ:∀a s,Q a s->Q' a s):wpAny M A t Q' E s:=Xi h hQ λ_ _ x=>x
variable{Q:Value->Shared->Prop}{σ:St}
variable{ta:TE}
variable{c:Expr}
section
def Nl(i:Nat):TE:=fun σ H Q=>∃v,σ[i]?=some (some v)/\Q v H
def tC(v:V):TE:=λ_ H Q=>Q v H
def ji{pos:Pos}(hN:X.N[i]?=some x)(hv:AK X.env.scope x)(hd:autoParam ↑7 aD._auto_1)(QI:autoParam ↑6 aD._auto_1):PE X (.Name x pos) (Nl i):=by
 intro PZ s σ H Q I h;obtain⟨v,e,h⟩:=h;obtain⟨m,hn,hl⟩:=I.loc;obtain⟨u,r,l⟩:=hl i x v hN e hv;have fin:EP X PZ σ Q u s:=⟨v,H,I,r,h⟩
 rcases l with ⟨hk,hm⟩|⟨hk,c,hc,Sa⟩
 .exact wpAny_Name (wpAny_loadName_local I.ok.kind hk hn hm fin) hd
 .rcases hk with hk|hk
  .exact wpAny_Name (wpAny_loadName_cell I.ok.kind hk hc Sa fin) hd
  .exact wpAny_Name (wpAny_loadName_free I.ok.kind hk hc Sa fin QI) hd
def Ii{i j pos}:PE X (.Constant (.int i) j pos) (tC (.int i)):=λ_ _ _ H _ I h=>wpAny_Constant_int ⟨.int i,H,I.tok _,⟨_,rfl⟩,h⟩
def Mm{b j pos}:PE X (.Constant (.bool b) j pos) (tC (.bl b)):=λ_ _ _ H _ I h=>Constant_bool ⟨.bl b,H,I,rfl,h⟩
def JD{j pos}:PE X (.Constant .none j pos) (tC .c_):=λ_ _ _ H _ I h=>Constant_none ⟨.c_,H,I,rfl,h⟩
def Gl(X:Cx)(x:Str):Prop:=X.env.kindOf x=some .globalImplicit
def uk{pos:Pos}(I:Inv X PZ σ H s)(hg:Gl X x)(hm:X.mg x=some u)(h:Q u s)(hd:autoParam ↑7 aD._auto_1):wpAny ↑8 X.A (eval (.Name x pos) X.env) Q E s :=
 aaf I.ok.kind hg (Calls.loadGlobal_global (by rw[I.ok.glob];exact I.mod.glob.keeps I.bk) hm h) hd
def iW{pos:Pos}(I:Inv X PZ σ H s)(hg:Gl X x)(hm:X.mg x=none)(hv:bootBuiltins x=some u)(h:Q u s)(hn:autoParam (x ≠ "__name__") aD._auto_1)(hd:autoParam ↑7 aD._auto_1):wpAny ↑8 X.A (eval (.Name x pos) X.env) Q E s:=by
 obtain⟨mb,h1,h2⟩:=I.mod.blt;exact aaf I.ok.kind hg (Calls.loadGlobal_builtin (by rw[I.ok.glob];exact I.mod.glob.keeps I.bk) hm (by rw[I.ok.blt];exact h1.keeps I.bk) ((h2 x hn).trans hv) h) hd
def GD{pos:Pos}(hg:Gl X x)(hm:X.mg x=some u)(r:RelV v u)(hd:autoParam ↑7 aD._auto_1):PE X (.Name x pos) (tC v) :=
 λ_ _ _ H _ I h=>uk I hg hm ⟨v,H,I,r,h⟩ hd
def j6{pos:Pos}(hg:Gl X x)(hm:X.mg x=none)(hv:bootBuiltins x=some u)(r:RelV v u)(hn:autoParam (x ≠ "__name__") aD._auto_1)(hd:autoParam ↑7 aD._auto_1):PE X (.Name x pos) (tC v) :=
 λ_ _ _ H _ I h=>iW I hg hm hv ⟨v,H,I,r,h⟩ hn hd
variable{a b:Expr}{tb:TE}{pos:Pos}
def tB(t:TE):TT:=fun σ H Q=>t σ H λx H1=>∃c,x=.bl c/\Q c H1
def Ln{t:TE}(h:PE X e t)(he:autoParam (∀whole,isTrue e X.env whole=(do let v <- whole;standAt e.pos;holding [v] (truthy v))) aI._auto_1):PT X e (tB t):=by
 intro PZ s σ H Q I hw;refine isTrue_plain (cF (h PZ s σ H _ I hw) λv s1 ⟨x,H1,I1,r1,q1⟩=>?_) (he _);obtain⟨d,rfl,q⟩:=q1;cases r1;exact Xa ⟨H1,I1,q⟩
variable{tA tB':TT}{rest:List Expr}
def Oo(t u:TT):TT:=fun σ H Q=>t σ H λc H1=>if c=true then u σ H1 Q else Q false H1
def Pz(t u:TT):TT:=fun σ H Q=>t σ H λc H1=>if c=true then Q true H1 else u σ H1 Q
def OK(t:TT):TT:=fun σ H Q=>t σ H λc H1=>Q (!c) H1
def pw_and1(ha:PT X a tA):PW X (.BoolOp .And [a] pos) tA:=by
 intro wh PZ s σ H Q I h;refine isTrue_and (cF (ha PZ s σ H Q I h) λc s1 e=>?_);cases c with
 | true=>exact isTrue_and_nil e
 |false=>exact e
def pw_or1(ha:PT X a tA):PW X (.BoolOp .Or [a] pos) tA:=by
 intro wh PZ s σ H Q I h;refine isTrue_or (cF (ha PZ s σ H Q I h) λc s1 e=>?_);cases c with
 | false=>exact isTrue_or_nil e
 |true=>exact e
def pw_and(ha:PT X a tA)(hb:PW X (.BoolOp .And (b::rest) pos) tB'):PW X (.BoolOp .And (a::b::rest) pos) (Oo tA tB'):=by
 intro wh PZ s σ H Q I h;refine isTrue_and (cF (ha PZ s σ H _ I h) λc s1 ⟨H1,I1,q1⟩=>?_);cases c with
 | true=>exact hb wh PZ s1 σ H1 Q I1 q1
 |false=>exact⟨H1,I1,q1⟩
def pw_or(ha:PT X a tA)(hb:PW X (.BoolOp .Or (b::rest) pos) tB'):PW X (.BoolOp .Or (a::b::rest) pos) (Pz tA tB'):=by
 intro wh PZ s σ H Q I h;refine isTrue_or (cF (ha PZ s σ H _ I h) λc s1 ⟨H1,I1,q1⟩=>?_);cases c with
 | true=>exact⟨H1,I1,q1⟩
 |false=>exact hb wh PZ s1 σ H1 Q I1 q1
def Jl(ha:PT X a tA):PT X (.UnaryOp .Not a pos) (OK tA):=by
 intro PZ s σ H Q I h;exact isTrue_not (ha PZ s σ H (λc H1=>Q (!c) H1) I h)
def Ms(ta tb:TE):TE:=fun σ H Q=>ta σ H λx H1=>∃c,x=.bl c/\if c=true then tb σ H1 Q else Q (.bl false) H1
def Nw(ta:TE):TE:=fun σ H Q=>ta σ H λx H1=>∃c,x=.bl c/\Q (.bl (!c)) H1
def xP{op}{t:TE}(h:PE X a t):PE X (.BoolOp op [a] pos) t:=λPZ s σ H Q I hw=>BoolOp_one (h PZ s σ H Q I hw)
def JE(ha:PE X a ta)(hb:PE X (.BoolOp .And (b::rest) pos) tb):PE X (.BoolOp .And (a::b::rest) pos) (Ms ta tb):=by
 intro PZ s σ H Q I h;refine BoolOp_and (cF (ha PZ s σ H _ I h) λv s1 ⟨x,H1,I1,r1,q1⟩=>?_);obtain⟨c,rfl,q1⟩:=q1;cases r1;refine Xa ?_;cases c with
 | true=>exact hb PZ s1 σ H1 Q I1 q1
 |false=>exact⟨.bl false,H1,I1,rfl,q1⟩
def IF(ha:PE X a ta):PE X (.UnaryOp .Not a pos) (Nw ta):=by
 intro PZ s σ H Q I h;refine UnaryOp_ (cF (ha PZ s σ H _ I h) λv s1 ⟨x,H1,I1,r1,q1⟩=>?_);obtain⟨c,rfl,q1⟩:=q1;cases r1;exact not_of (Xa ⟨.bl (!c),H1,I1,rfl,q1⟩)
def PJ(t:TT)(ta tb:TE):TE:=fun σ H Q=>t σ H λc H1=>if c=true then ta σ H1 Q else tb σ H1 Q
def Ek(hc:PT X c tA)(ha:PE X a ta)(hb:PE X b tb):PE X (.IfExp c a b pos) (PJ tA ta tb):=by
 intro PZ s σ H Q I h;refine wpAny_IfExp (cF (hc PZ s σ H _ I h) λd s1 ⟨H1,I1,q1⟩=>?_);cases d with
 | true=>exact ha PZ s1 σ H1 Q I1 q1
 |false=>exact hb PZ s1 σ H1 Q I1 q1
end
def gR(K:U5)(H:Hp)(a:Addr)(xs:List V):Prop :=
 Rd H a (.lst xs) ∨
  ∃(o:Obj)(P7:Array Value)(n:Nat),K.lookup a=some o/\o.cls=.type "list" /\ o.dict=none/\o.data=.seq P7 n/\P7.size<=sizeLine/\Vals xs P7.toList
def gm(K:U5)(H:Hp)(a:Addr)(xs:List V):Prop :=
 Rd H a (.tup xs) ∨
  ∃(o:Obj)(P7:Array Value)(n:Nat),K.lookup a=some o/\o.cls=.type "tuple" /\ o.data=.seq P7 n/\P7.size<=sizeLine/\Vals xs P7.toList
def OG:Value->Option V
 | .none=>some .c_
 | .bool b=>some (.bl b)
 | .int i _=>some (.int i)
 | .str x _=>some (.str x)
 | .bytes b _=>some (.byt b)
 | .float b _=>some (.HR b)
 | .ref a=>some (.ref a)
 | .type n=>some (.ty n)
 |_=>none
def RelV.abs{x:V}(r:RelV x u):OG u=some x:=by
 cases x with
 | c_=>cases r;rfl
 | bl _=>cases r;rfl
 | int _=>obtain⟨t,rfl⟩:=r;rfl
 | str _=>obtain⟨t,rfl⟩:=r;rfl
 | byt _=>obtain⟨t,rfl⟩:=r;rfl
 | HR _=>obtain⟨t,rfl⟩:=r;rfl
 | ref _=>cases r;rfl
 |ty _=>cases r;rfl
def RelV.inj{x y:V}{u:Value}(r:RelV x u)(q:RelV y u):x=y:=Vk (r.abs.symm.trans q.abs)
theorem Vals.inj:∀{xs ys:List V}{us:List Value},Vals xs us->Vals ys us->xs=ys
 | _,_,_,.nil,.nil=>rfl
 |_,_,_,.cons r t,.cons r' t'=>by rw[r.inj r',Vals.inj t t']
section
variable{a:Addr}{xs ys:List V}
def gR.of{K:U5}(h:H a=some (.lst xs)):gR K H a xs:=.inl (.inl h)
def gm.of{K:U5}(h:H a=some (.tup xs)):gm K H a xs:=.inl (.inl h)
theorem Inv.list(I:Inv X PZ σ H s)(h:gR X.K H a xs):∃P7:List Value,Vals xs P7/\PlainL s.heap a P7.toArray/\xs.length<=sizeLine:=by
 rcases h with h|⟨o,P7,n,hk,hc,hd,hs,hz,r⟩
 .obtain⟨z,P7,n,r,e⟩:=h.ok I.bJ;exact⟨P7,r,⟨_,n,e,rfl,rfl,rfl⟩,z⟩
 .refine⟨P7.toList,r,⟨o,n,I.mh a o hk,hc,hd,by simpa using hs⟩,?_⟩;have e:=r.length;simp only[VJ] at e;lia
theorem Inv.tuple(I:Inv X PZ σ H s)(h:gm X.K H a xs):∃P7:List Value,Vals xs P7/\IsTup s.heap a P7.toArray/\xs.length<=sizeLine:=by
 rcases h with h|⟨o,P7,n,hk,hc,hs,hz,r⟩
 .obtain⟨z,P7,r,p⟩:=h.ok I.bJ;exact⟨P7,r,p,z⟩
 .refine⟨P7.toList,r,⟨o,I.mh a o hk,hc,n,by simpa using hs⟩,?_⟩;have e:=r.length;simp only[VJ] at e;lia
def Inv.o7(I:Inv X PZ σ H s)(h:gR X.K H a xs)(h':gR X.K H a ys):xs=ys:=by
 obtain⟨P7,r,⟨o,n,e,_,_,d⟩,_⟩:=I.list h;obtain⟨its',r',⟨o',n',e',_,_,d'⟩,_⟩:=I.list h';rw[e] at e';cases e';rw[d] at d';injection d' with d1 _
 have:P7=its':=by simpa using congrArg acq d1
 subst this;exact r.inj r'
def Inv.mP(I:Inv X PZ σ H s)(h:gm X.K H a xs)(h':gm X.K H a ys):xs=ys:=by
 obtain⟨P7,r,⟨o,e,_,n,d⟩,_⟩:=I.tuple h;obtain⟨its',r',⟨o',e',_,n',d'⟩,_⟩:=I.tuple h';rw[e] at e';cases e';rw[d] at d';injection d' with d1 _
 have:P7=its':=by simpa using congrArg acq d1
 subst this;exact r.inj r'
end
abbrev Cx.rE(X:Cx)(E:Value->Shared->Prop):Cx:={ X with xe:=E }
theorem Cx.Ok.rE{X:Cx}(ok:X.Ok)(E:Value->Shared->Prop):(X.rE E).Ok :=
 ⟨ok.mod,ok.kind,ok.glob,ok.blt,ok.above,ok.inj,ok.has,ok.M1,ok.hd,ok.frames,ok.NQ,ok.NX,ok.bs,ok.Hn,ok.zI,ok.Ec,ok.n5,ok.JH⟩
def Cx.Ok.iy(ok:(X.rE E).Ok):X.Ok :=
 ⟨ok.mod,ok.kind,ok.glob,ok.blt,ok.above,ok.inj,ok.has,ok.M1,ok.hd,ok.frames,ok.NQ,ok.NX,ok.bs,ok.Hn,ok.zI,ok.Ec,ok.n5,ok.JH⟩
theorem Inv.rE(I:Inv X PZ σ H s)(E:Value->Shared->Prop):Inv (X.rE E) PZ σ H s:=⟨I.ok.rE E,I.os,I.bare,I.base,I.loc,I.cell,I.free,I.kF,I.pin,I.bJ,I.len⟩
theorem Inv.iy(I:Inv (X.rE E) PZ σ H s):Inv X PZ σ H s:=⟨I.ok.iy,I.os,I.bare,I.base,I.loc,I.cell,I.free,I.kF,I.pin,I.bJ,I.len⟩
theorem SP.iy{D:Ends}{f:Flow}{s':Shared}(h:SP (X.rE E) PZ D f s'):SP X PZ D f s':=by
 cases f with
 | next=>obtain⟨σ',H',I,q⟩:=h;exact⟨σ',H',I.iy,q⟩
 | brk=>obtain⟨σ',H',I,q⟩:=h;exact⟨σ',H',I.iy,q⟩
 | cont=>obtain⟨σ',H',I,q⟩:=h;exact⟨σ',H',I.iy,q⟩
 |ret u=>obtain⟨v,σ',H',I,r,q⟩:=h;exact⟨v,σ',H',I.iy,r,q⟩
variable{te:TE}
variable{tc:TT}
section
variable{st:Stmt}{rest:List Stmt}{t u:TS}{pos:Pos}
def LY:TS:=λD σ H=>D.nx σ H
def NW(t u:TS):TS:=λD σ H=>t { D with nx:=u D } σ H
def Fy:kr X [] LY:=λ_ _ σ H _ I h=>ZV ⟨σ,H,I,h⟩
def vt(h1:PS X st t)(h2:kr X rest u):kr X (st::rest) (NW t u):=by
 intro PZ s σ H D I h;refine wpAny_execs_cons (cF (h1 PZ s σ H { D with nx:=u D } I h) λf s1 q=>?_);cases f with
 | next =>
  obtain⟨σ',H',I',q⟩:=q;exact h2 PZ s1 σ' H' D I' q
 | ret v=>exact q
 | brk=>exact q
 |cont=>exact q
def F1(h1:PS X st t):kr X [st] t:=by
 intro PZ s σ H D I h;refine wpAny_execs_cons (cF (h1 PZ s σ H D I h) λf s1 q=>?_);cases f with
 | next=>exact ZV q
 | ret v=>exact q
 | brk=>exact q
 |cont=>exact q
def Inv.quiet(I:Inv X PZ σ H s):interactive X.env=false:=by simp[interactive,I.ok.kind]
def MY(te:TE):TS:=λD σ H=>te σ H λ_ H1=>D.nx σ H1
def oG(he:PE X e te)(hs:autoParam (swapsWith e none pos.line X.env=pure false) aR._auto_1):PS X (.Expr e pos) (MY te):=by
 intro PZ s σ H D I h;exact wpAny_Expr_any (cF (he PZ s σ H _ I h) λv s1 ⟨x,H1,I1,r1,q1⟩=>⟨σ,H1,I1,q1⟩) I.quiet hs
def Ow(te:TE):TS:=λD σ H=>te σ H D.rt
def D6(he:PE X e te):PS X (.Return (some e) pos) (Ow te):=by
 intro PZ s σ H D I h;exact wpAny_Return_some (cF (he PZ s σ H _ I h) λv s1 ⟨x,H1,I1,r1,q1⟩=>⟨x,σ,H1,I1,r1,q1⟩)
def OE(c:TT)(t u:TS):TS:=λD σ H=>c σ H λb H1=>if b=true then t D σ H1 else u D σ H1
def Mt{a b:List Stmt}(hc:PT X c tc)(ha:kr X a t)(hb:kr X b u):PS X (.If c a b pos) (OE tc t u):=by
 intro PZ s σ H D I h;refine wpAny_If (cF (hc PZ s σ H _ I h) λd s1 ⟨H1,I1,q1⟩=>?_);cases d with
 | true=>exact ha PZ s1 σ H1 D I1 q1
 |false=>exact hb PZ s1 σ H1 D I1 q1
end
abbrev TG:=V->St->Hp->(St->Hp->Prop)->Prop
abbrev KZ:=List V->St->Hp->(St->Hp->Prop)->Prop
def PG(X:Cx)(target:Expr)(t:TG):Prop :=
 ∀ (PZ:List (Addr×Obj)) (s:Shared) (σ:St) (H:Hp) (v:V) (u:Value) (Q:St->Hp->Prop),Inv X PZ σ H s->RelV v u->t v σ H Q ->
  wpAny ↑8 X.A (assign target X.env u) (λ_ s'=>∃σ' H',Inv X PZ σ' H' s'/\Q σ' H') X.xe s
def NK(X:Cx)(ts:List Expr)(t:KZ):Prop :=
 ∀ (PZ:List (Addr×Obj)) (s:Shared) (σ:St) (H:Hp) (vs:List V) (us:List Value) (Q:St->Hp->Prop),Inv X PZ σ H s->Vals vs us->t vs σ H Q ->
  wpAny ↑8 X.A (assignInOrder ((assignEach ts X.env).map (·.2)) us) (λ_ s'=>∃σ' H',Inv X PZ σ' H' s'/\Q σ' H') X.xe s
abbrev Iw:=V->V->V->Hp->(Hp->Prop)->Prop
def Nb(X:Cx)(t:Iw):Prop :=
 ∀ (PZ:List (Addr×Obj)) (s:Shared) (σ:St) (H:Hp) (o i v:V) (ov iv u:Value) (Q:Hp->Prop),Inv X PZ σ H s->RelV o ov->RelV i iv->RelV v u->t o i v H Q ->
  wpAny ↑8 X.A (setItem ov iv u) (λ_ s'=>∃H',Inv X PZ σ H' s'/\Q H') X.xe s
variable{es:List Expr}
variable{n k:Nat}
variable{tg:Expr}
section
variable{pos:Pos}
def aJ(i:Nat):TG:=λv σ H Q=>Q (σ.set i (some v)) H
def Fc(hN:X.N.Nodup)(hi:X.N[i]?=some x)(hx:Loc X.env.scope x)(hf:autoParam ↑1 aF._auto_1):PG X (.Name x pos) (aJ i):=by
 intro PZ s σ H v u Q I r h;exact aaC (lY I hN hi hx r (λs' I'=>⟨_,H,I',h⟩) hf)
def iY:KZ:=λvs σ H Q=>vs=[]/\Q σ H
def bC(t:TG)(u:KZ):KZ:=λvs σ H Q=>∃v r,vs=v::r/\t v σ H fun σ' H'=>u r σ' H' Q
def cG:NK X [] iY:=by
 intro PZ s σ H vs us Q I r h;obtain⟨e,h⟩:=h;subst e;cases r;exact assignInOrder_nil ⟨σ,H,I,h⟩
def aM{t:TG}{u:KZ}(h1:PG X e t)(h2:NK X es u)(hs:autoParam ((assignEach (e::es) X.env).map (·.2)=assign e X.env::(assignEach es X.env).map (·.2)) aR._auto_1):NK X (e::es) (bC t u):=by
 intro PZ s σ H vs us Q I r h;obtain⟨v,vr,e1,h⟩:=h;subst e1;cases r with
 | cons r rr =>
  rw[hs];refine aag (cF (h1 PZ s σ H _ _ _ I r h) λ_ s1 ⟨σ1,H1,I1,q1⟩=>?_);exact h2 PZ s1 σ1 H1 _ _ Q I1 rr q1
def i9(K:U5)(n:Nat)(t:KZ):TG:=λv σ H Q=>∃a xs,v=.ref a/\gm K H a xs/\xs.length=n/\t xs σ H Q
def dH{t:KZ}(hc:X.calm=true)(h:NK X es t)(hn:autoParam ((assignEach es X.env).length=n) aR._auto_1)(QQ:autoParam ((assignEach es X.env).findIdx? (·.1)=none) aR._auto_1):PG X (.Tuple es k pos) (i9 X.K n t):=by
 intro PZ s σ H v u Q I r hw;obtain⟨a,xs,e1,hq,hl,hw⟩:=hw;subst e1;cases r;obtain⟨P7,rv,ht,hz⟩:=I.tuple hq;refine assign_Tuple_tuple (I.ok.hd hc) ht (by simp[hn,<- hl,rv.length]) QQ λh' hx=>?_;have I1:Inv X PZ σ H { s with heap:=h' }:=I.kept (t':=s.toks) λb o e=>hx b o (Vm (Vb e)) e;exact h PZ _ σ H xs _ Q I1 (by simpa using rv) hw
def Om(to ti:TE)(t:Iw):TG:=λv σ H Q=>to σ H λo H1=>ti σ H1 λi H2=>t o i v H2 λH3=>Q σ H3
def Ic{o i:Expr}{to ti:TE}{t:Iw}(ho:PE X o to)(hi:PE X i ti)(hs:Nb X t)
  (ha:autoParam (∀v,assign (.Subscript o i pos) X.env v=(do
   let ov <- holding [v] (eval o X.env)
   let iv <- holding [v,ov] (eval i X.env)
   standAt pos
   holding [v,ov,iv] (setItem ov iv v)
   release [v,ov,iv] [])) aI._auto_1):PG X (.Subscript o i pos) (Om to ti t):=by
 intro PZ s σ H v u Q I r h;rw[ha];refine TZ (Wx (cF (ho PZ s σ H _ I h) λov s1 ⟨x,H1,I1,r1,q1⟩=>?_));refine TZ (Wx (cF (hi PZ s1 σ H1 _ I1 q1) λiv s2 ⟨y,H2,I2,r2,q2⟩=>?_));refine TZ (ZK (TZ (Wx (cF (hs PZ s2 σ H2 x y v ov iv u _ I2 r1 r2 r q2) λ_ s3 ⟨H3,I3,q3⟩=>?_))));exact wpAny_release ⟨σ,H3,I3,q3⟩
def G2(te:TE)(g:TG):TS:=λD σ H=>te σ H λx H1=>g x σ H1 D.nx
def Jh{g:TG}(he:PE X e te)(hg:PG X tg g)(hs:autoParam (swapsWithSole [tg] e pos.line X.env=pure false) aR._auto_1)(hw:autoParam (swappedStores [tg] e X.env=pure none) aR._auto_1)(h1:autoParam ((assignEach [tg] X.env).map (·.2)=[assign tg X.env]) aR._auto_1):PS X (.Assign [tg] e pos) (G2 te g):=by
 intro PZ s σ H D I h;refine wpAny_Assign_stores (cF (he PZ s σ H _ I h) λv s1 ⟨x,H1,I1,r1,q1⟩=>?_) hs hw;rw[h1];exact cF (hg PZ s1 σ H1 x v _ I1 r1 q1) λ_ s2 q=>q
def xV{pos':Pos}(hN:X.N.Nodup)(hi:X.N[i]?=some x)(hx:Loc X.env.scope x)(he:PE X e te)(hs:autoParam (swapsWith e (some (.Name x pos')) pos.line X.env=pure false) aR._auto_1)(hf:autoParam ↑1 aF._auto_1):PS X (.Assign [.Name x pos'] e pos) (G2 te (aJ i)):=by
 intro PZ s σ H D I h;refine wpAny_Assign_Name (cF (he PZ s σ H _ I h) λv s1 ⟨y,H1,I1,r1,q1⟩=>?_) hs;exact lY I1 hN hi hx r1 (λs2 I2=>⟨_,H1,I2,q1⟩) hf
def OS(i j:Nat)(ta:TA):TS:=λD σ H=>ta σ H λvs H1=>∃v w,vs=[v,w]/\D.nx ((σ.set i (some v)).set j (some w)) H1
def Lu{j:Nat}{y:Str}{a b:Expr}{ta:TA}{px py pt:Pos}{kt k2 T_}(hc:X.calm=true)(hN:X.N.Nodup)(hi:X.N[i]?=some x)(hj:X.N[j]?=some y)(TB:i≠j)(hx:X.env.scope.names.lookup x=some .local)(hy:X.env.scope.names.lookup y=some .local)(ha:PA X [a,b] ta)(hw:swappedStores [.Tuple [.Name x px,.Name y py] kt pt] (.Tuple [a,b] k2 T_) X.env=pure (some [x,y]))(hs:autoParam (swapsWithSole [.Tuple [.Name x px,.Name y py] kt pt] (.Tuple [a,b] k2 T_) pos.line X.env=pure false) aR._auto_1):PS X (.Assign [.Tuple [.Name x px,.Name y py] kt pt] (.Tuple [a,b] k2 T_) pos) (OS i j ta):=by
 intro PZ s σ H D I h;rw[exec_Assign_arm];refine TZ (ZK ?_);rw[hs];refine TZ (U7 ?_);rw[if_neg ↑12];refine TZ (Tuple_ (cF (ha _ PZ s σ H _ I h) λus s1 ⟨vs,H1,I1,r1,q1⟩=>?_));obtain⟨v,w,e1,q1⟩:=q1;subst e1;obtain⟨u1,u2,rfl,rv,RO⟩:∃u1 u2,us=[u1,u2]/\RelV v u1/\RelV w u2:=by
  cases r1 with
  | cons p q =>
   cases q with
   | cons p' q' =>
    cases q';exact⟨_,_,rfl,p,p'⟩
 refine Wd ?_ (by show 2<=sizeLine;decide);have I2:Inv X PZ σ H1 { s1 with heap:=s1.heap.push { cls:=.type "tuple",data:=.seq [u1,u2].toArray } }:=I1.kept (t':=s1.toks) λb o e=>U3 _ e;rw[hw];refine TZ (U7 ?_);show wpAny ↑8 X.A (do rule "assign.swapped-stores";let items <- unpackItems (.ref s1.heap.objs.size) 2 none;assignInOrder [λv=>bindName X.env y v,λv=>bindName X.env x v] items.reverse;pure aaP) _ _ _;refine TZ (Xb (TZ (unpackItems_tuple (items:=#[u1,u2]) (I.ok.hd hc) (ab1 s1.heap _) λh' UM=>?_)));have I3:=I2.kept (h':=h') (t':=s1.toks) λb o e=>UM b o (Vm (Vb e)) e;show wpAny _ _ (assignInOrder [λv=>bindName X.env y v,λv=>bindName X.env x v] [u2,u1] >>= λ_=>pure aaP) _ _ _;refine TZ (aag (wpAny_bindName (lY I3 hN hj (.inl hy) RO (λs2 I4=>?_) (.inr hy))));refine aag (wpAny_bindName (lY I4 hN hi (.inl hx) rv (λs3 I5=>assignInOrder_nil (U7 ?_)) (.inr hx)));rw[List.set_comm _ _ (WW TB)] at I5;exact⟨_,H1,I5,q1⟩
end
variable{tb:TS}{body:List Stmt}
section
variable{pos:Pos}
def IT(c:TT)(tb:TS):TS:=λD σ H=>∃W:Nat->St->Hp->Prop,(∃m,W m σ H)/\∀m σ H,W m σ H ->
 c σ H λb H1=>if b=true then ∃N:St->Hp->Prop,(∀σ' H',N σ' H'->∃m',m'<m/\W m' σ' H')/\tb { D with nx:=N,ct:=N,bk:=D.nx } σ H1 else D.nx σ H1
def Bx(hp:PassesOwn ↑8 X.A X.env X.xe)(hc:PT X c tc)(hb:kr X body tb):PS X (.While c body [] pos) (IT tc tb):=by
 intro PZ s σ H D I h;obtain⟨W,⟨m0,w0⟩,turn⟩:=h;refine wpAny_While (codeAny_whileLoop (λn s'=>∃σ' H',Inv X PZ σ' H' s'/\W n σ' H') ?_ m0 ⟨σ,H,I,w0⟩);rintro n s1 ⟨σ1,H1,I1,w1⟩;refine X6 hp (cF (hc PZ s1 σ1 H1 _ I1 (turn n σ1 H1 w1)) λb s2 ⟨H2,I2,q2⟩=>?_);cases b with
 | true =>
  obtain⟨N,hN,q2⟩:=q2;rw[if_pos rfl];refine X6 hp (cF (hb PZ s2 σ1 H2 _ I2 q2) λf s3 q3=>?_);cases f with
  | next =>
   obtain⟨σ3,H3,I3,n3⟩:=q3;obtain⟨m',hm,w3⟩:=hN σ3 H3 n3;exact⟨m',hm,σ3,H3,I3,w3⟩
  | cont =>
   obtain⟨σ3,H3,I3,n3⟩:=q3;obtain⟨m',hm,w3⟩:=hN σ3 H3 n3;exact⟨m',hm,σ3,H3,I3,w3⟩
  | brk=>exact q3
  | ret v=>exact q3
 | false =>
  rw[if_neg VQ];exact ZV ⟨σ1,H2,I2,q2⟩
end
structure It where
 go:Nat->Hp->Prop
 vd:Nat->Hp->V->Hp->Prop
 stop:Nat->Hp->Prop
def lh(X:Cx)(PZ:List (Addr×Obj))(H:Hp)(b:Addr):Prop :=
 H b=none/\b≠X.env.locals/\b ∉ X.fs/\(b∈X.ex\/X.s₀.heap.objs.size<=b)/\(∀x c,X.env.cells.lookup x=some c->c≠b)/\∀p∈X.pn++PZ,p.1≠b
def Inv.qS(I:Inv X PZ σ H s)(hb:s.heap.objs.size<=b)(hn:H' b=none):lh X PZ H' b:=by
 refine⟨hn,WX (Vo I.lt hb),I.Oc hb,.inr (Vz I.sz hb),λx c e z=>?_,λp hp z=>?_⟩
 .obtain⟨v,q⟩:=I.cell x c e;exact absurd (Vo q.lt (by rwa[z])) (XI _)
 .exact absurd (Vo (Vb (I.pin p hp).1) (by rwa[z])) (XI _)
structure Turn (P:Program) (w:World) (K:U5) (tg:Expr) (J:It) (fp:List Addr) (it:Addr) (tn:Nat->Heap->Prop):Prop where
 mem:it∈fp
 obj:∀i h,tn i h->∀b∈fp,∃o,h.get? b=some o/\∀v,o.data≠.cell v
 keep:∀i h h',tn i h->(∀b∈fp,∀o,h.get? b=some o->h'.get? b=some o)->tn i h'
 item:∀(X:Cx),X.prog=P->X.w=w->X.K=K->X.calm=true->∀(i:Nat)(PZ:List (Addr×Obj))(s:Shared)(σ:St)(H:Hp)(E:Value->Shared->Prop),Inv X PZ σ H s->(∀b∈fp,lh X PZ H b)->tn i s.heap->J.go i H ->
  wpAny (model P w) X.A (pyNext (.ref it)) (λr s1=>∃u,r=some u ∧
   wpAny (model P w) X.A (letOwnedTupleGo tg (.ref it) u) (λ_ s2=>∃x H',Inv X PZ σ H' s2/\RelV x u/\J.vd i H x H'/\tn (i+1) s2.heap/\∀b∈fp,H' b=none) E s1) E s
 done:∀(X:Cx),X.prog=P->X.w=w->X.K=K->X.calm=true->∀(i:Nat)(PZ:List (Addr×Obj))(s:Shared)(σ:St)(H:Hp)(E:Value->Shared->Prop),Inv X PZ σ H s->(∀b∈fp,lh X PZ H b)->tn i s.heap->J.stop i H ->
  wpAny (model P w) X.A (pyNext (.ref it)) (λr s1=>r=none/\Inv X PZ σ H s1) E s
 self:∀(A:Around)(i:Nat)(s:Shared)(Q:Value->Shared->Prop)(E:Value->Shared->Prop),tn i s.heap->Q (.ref it) s->wpAny (model P w) A (pyIter (.ref it)) Q E s
abbrev TI:=St->Hp->(It->Hp->Prop)->Prop
def N5(X:Cx)(PZ:List (Addr×Obj))(σ:St)(tg:Expr)(R:It->Hp->Prop)(itv:Value)(s2:Shared):Prop :=
 ∃(it:Addr)(fp:List Addr)(tn:Nat->Heap->Prop)(J:It)(H':Hp),itv=.ref it/\Inv X PZ σ H' s2/\Turn X.prog X.w X.K tg J fp it tn/\tn 0 s2.heap/\(∀b∈fp,lh X PZ H' b)/\R J H'
def PI(X:Cx)(tg iter:Expr)(wi:TI):Prop :=
 ∀ (PZ:List (Addr×Obj)) (s:Shared) (σ:St) (H:Hp) (R:It->Hp->Prop),Inv X PZ σ H s->wi σ H R ->
  wpAny ↑8 X.A (eval iter X.env) (λv s1=>wpAny ↑8 X.A (pyIter v) (N5 X PZ σ tg R) X.xe s1) X.xe s
def wz {M : Model}{n : String}{vs : Array Value}{Q : Unit -> Shared -> Prop}(ho : s.heap.get? it=some o)(hc : o.cls=.type n)(hd : o.data=.fields vs)(hn : ["enumerate","zip","dict_itemiterator","dict_reverseitemiterator","odict_iterator","itertools.zip_longest","itertools.pairwise"].contains n=false)(hQ : Q () s) : wpAny M A (letOwnedTupleGo tg (.ref it) u) Q E s := by
  unfold letOwnedTupleGo;cases tg<;>first
    | exact U7 hQ
    | (cases u<;>first
        | exact U7 hQ
        | (refine TZ (wpAny_load ho ?_)
           rw [hc,hd];show wpAny M A (if (["enumerate","zip","dict_itemiterator","dict_reverseitemiterator","odict_iterator","itertools.zip_longest","itertools.pairwise"].contains n && vs[0]? == some (rawInt _))=true then _ else _) Q E s;rw [if_neg (by intro h; rw [hn,abO] at h; cases h)];exact U7 hQ))
def O7(K:U5)(a:Addr):It :=
 ⟨λi H=>∃xs x,gR K H a xs/\xs[i]?=some x,λi H x H'=>H'=H/\∀xs,gR K H a xs->xs[i]?=some x,λi H=>∃xs,gR K H a xs/\xs.length<=i⟩
def O5(K:U5)(a:Addr):It :=
 ⟨λi H=>∃xs x,gm K H a xs/\xs[i]?=some x,λi H x H'=>H'=H/\∀xs,gm K H a xs->xs[i]?=some x,λi H=>∃xs,gm K H a xs/\xs.length<=i⟩
def MX(lo:Int)(n:Nat):It:=⟨λi _=>i<n,λi H x H'=>H'=H/\x=.int (lo+i),λi _=>n<=i⟩
theorem sW{K:U5}(a it:Addr):Turn P w K tg (O7 K a) [it] it (λi h=>h.IsListIter it a i) where
 mem:=by simp
 obj:=λi h st b hb=>by
  have e:b=it:=by simpa using hb
  subst e;obtain⟨o,e,c,d⟩:=st;exact⟨o,e,λv z=>by rw[d] at z;cases z⟩
 keep:=λi h h' st k=>st.at λo e=>k it ↑13 o e
 item:=by
  intro X hP hw hK hc i PZ s σ H E I hf st hg;subst hP hw hK;obtain⟨xs,x,hq,hx⟩:=hg;obtain⟨P7,rv,p,hz⟩:=I.list hq;obtain⟨u,hu,ru⟩:=rv.get hx;obtain⟨f0,f1,f2,f3,f4,f5⟩:=hf it ↑13;refine wpAny_pyNext_list_item st p.isList (x:=u) (by simpa using hu) λh' P8 sb=>?_;have I1:Inv X PZ σ H { s with heap:=h' }:=I.turned (t':=s.toks) (λb o hb e=>(sb.2 b hb).trans e) f0 f1 f3 f4 f5;obtain⟨o,e,c,d⟩:=id P8;exact⟨u,rfl,wz (s:={ s with heap:=h' }) e c d ↑12 ⟨x,H,I1,ru,⟨rfl,λys hy=>by rwa[I.o7 hy hq]⟩,P8,λb hb=>(hf b hb).1⟩⟩
 done:=by
  intro X hP hw hK hc i PZ s σ H E I hf st hg;subst hP hw hK;obtain⟨xs,hq,hx⟩:=hg;obtain⟨P7,rv,p,hz⟩:=I.list hq;obtain⟨f0,f1,f2,f3,f4,f5⟩:=hf it ↑13;have hl:=rv.length;exact wpAny_pyNext_list_end (I.ok.hd hc) st p.isList (by simp;lia) λh' eb=>⟨rfl,I.turned (t':=s.toks) (λb o hb e=>eb b o hb e) f0 f1 f3 f4 f5⟩
 self:=λ_ _ _ _ _ st h=>wpAny_pyIter_listiter st h
theorem pE{K:U5}(a it:Addr):Turn P w K tg (O5 K a) [it] it (λi h=>h.IsTupleIter it a i) where
 mem:=by simp
 obj:=λi h st b hb=>by
  have e:b=it:=by simpa using hb
  subst e;obtain⟨o,e,c,d⟩:=st;exact⟨o,e,λv z=>by rw[d] at z;cases z⟩
 keep:=λi h h' st k=>st.at λo e=>k it ↑13 o e
 item:=by
  intro X hP hw hK hc i PZ s σ H E I hf st hg;subst hP hw hK;obtain⟨xs,x,hq,hx⟩:=hg;obtain⟨P7,rv,p,hz⟩:=I.tuple hq;obtain⟨u,hu,ru⟩:=rv.get hx;obtain⟨f0,f1,f2,f3,f4,f5⟩:=hf it ↑13;refine wpAny_pyNext_tuple_item st (show s.heap.IsTuple a P7.toArray from p) (x:=u) (by simpa using hu) λh' P8 sb=>?_;have I1:Inv X PZ σ H { s with heap:=h' }:=I.turned (t':=s.toks) (λb o hb e=>(sb.2 b hb).trans e) f0 f1 f3 f4 f5;obtain⟨o,e,c,d⟩:=id P8;exact⟨u,rfl,wz (s:={ s with heap:=h' }) e c d ↑12 ⟨x,H,I1,ru,⟨rfl,λys hy=>by rwa[I.mP hy hq]⟩,P8,λb hb=>(hf b hb).1⟩⟩
 done:=by
  intro X hP hw hK hc i PZ s σ H E I hf st hg;subst hP hw hK;obtain⟨xs,hq,hx⟩:=hg;obtain⟨P7,rv,p,hz⟩:=I.tuple hq;obtain⟨f0,f1,f2,f3,f4,f5⟩:=hf it ↑13;have hl:=rv.length;exact wpAny_pyNext_tuple_end (I.ok.hd hc) st (show s.heap.IsTuple a P7.toArray from p) (by simp;lia) λh' eb=>⟨rfl,I.turned (t':=s.toks) (λb o hb e=>eb b o hb e) f0 f1 f3 f4 f5⟩
 self:=λ_ _ _ _ _ st h=>wpAny_pyIter_tupleiter st h
theorem xA{K:U5}(it:Addr)(lo:Int)(n:Nat):Turn P w K tg (MX lo n) [it] it (λi h=>IsRangeIter h it (lo+(i:Nat)*1) ((n:Int)-(i:Nat)) 1) where
 mem:=by simp
 obj:=λi h st b hb=>by
  have e:b=it:=by simpa using hb
  subst e;exact⟨_,st,λv z=>by
   have z':Data.fields _=Data.cell v:=z;cases z'⟩
 keep:=λi h h' st k=>k it ↑13 _ st
 item:=by
  intro X hP hw hK hc i PZ s σ H E I hf st hg;subst hP hw hK;obtain⟨f0,f1,f2,f3,f4,f5⟩:=hf it ↑13;have W:=Walks.range (prog:=X.prog) (w:=X.w) (I.ok.hd hc) it lo 1 n;refine W.item i s _ _ hg st λv h' tk hv P8 kk=>?_;obtain⟨t,rfl⟩:=hv;have I1:Inv X PZ σ H { s with heap:=h',toks:=tk }:=I.turned (λb o hb e=>kk b o (by simpa using hb) e) f0 f1 f3 f4 f5;refine⟨_,rfl,wz (s:={ s with heap:=h',toks:=tk }) (n := "range_iterator") P8 rfl rfl ↑12 ⟨.int (lo+i),H,I1,⟨t,?_⟩,⟨rfl,rfl⟩,P8,λb hb=>(hf b hb).1⟩⟩;rw[ac2]
 done:=by
  intro X hP hw hK hc i PZ s σ H E I hf st hg;subst hP hw hK;obtain⟨f0,f1,f2,f3,f4,f5⟩:=hf it ↑13;exact aa5 (I.ok.hd hc) st (by have:n<=i:=hg;lia) λh' eb=>⟨rfl,I.turned (t':=s.toks) (λb o hb e=>eb b o hb e) f0 f1 f3 f4 f5⟩
 self:=λ_ _ _ _ _ st h=>aa6 st h
variable{p:Pos}
variable{fp:List Addr}
theorem vY{R:It->Hp->Prop}{lo hi:Int}{t u v:Tok}{tk:Nat}(I:Inv X PZ σ H s)(h1:-(2^62)<=lo)(h2:lo<2^62)(h3:-(2^62)<=hi)(h4:hi<2^62)(q:R (MX lo (hi-lo).toNat) H):wpAny ↑8 X.A (pyIter (.ref s.heap.objs.size)) (N5 X PZ σ tg R) E { s with heap:=s.heap.push { cls:=.type "range",data:=.fields #[.int lo t,.int hi u,.int 1 v] },toks:=tk }:=by
 refine wpAny_pyIter_range (IsRange.new ..) (small_one h1 h2 h3 h4) ?_;have I1:Inv X PZ σ H { s with heap:=s.heap.push { cls:=.type "range",data:=.fields #[.int lo t,.int hi u,.int 1 v] },toks:=tk }:=I.kept λb o e=>U3 _ e;refine⟨(s.heap.push { cls:=.type "range",data:=.fields #[.int lo t,.int hi u,.int 1 v] }).objs.size,[(s.heap.push { cls:=.type "range",data:=.fields #[.int lo t,.int hi u,.int 1 v] }).objs.size],_,_,H,rfl,
  I1.kept (t':=tk) λb o e=>U3 _ e,xA _ lo (hi-lo).toNat,?_,λb hb=>?_,q⟩
 .have e1:lo+((0:Nat):Int)*1=lo:=by simp
  have e2:(((hi-lo).toNat:Nat):Int)-((0:Nat):Int)=VP lo hi 1:=by rw[rangeSize_one];split<;>lia
  show IsRangeIter _ _ (lo+((0:Nat):Int)*1) ((((hi-lo).toNat:Nat):Int)-((0:Nat):Int)) 1;rw[e1,e2];exact U_ _ rfl
 .have e:b=(s.heap.push { cls:=.type "range",data:=.fields #[.int lo t,.int hi u,.int 1 v] }).objs.size:=by simpa using hb
  subst e;exact I1.qS (U9 _) (I1.bJ.fresh (U9 _))
def HL(ta:TA):TI:=fun σ H R=>ta σ H λvs H1=>∃j:Int,vs=[.int j]/\-(2^62)<=j/\j<2^62/\R (MX 0 j.toNat) H1
def HS(ta:TA):TI:=fun σ H R=>ta σ H λvs H1=>∃i j:Int,vs=[.int i,.int j]/\(-(2^62)<=i/\i<2^62/\-(2^62)<=j/\j<2^62)/\R (MX i (j-i).toNat) H1
theorem cZ{a:Expr}{ta:TA}{pos:Pos}(hg:Gl X "range")(hm:X.mg "range"=none)(ha:PA X [a] ta)(hs:autoParam (starEach [a] X.env=[(false,eval a X.env)]) aR._auto_1):PI X tg (.Call (.Name "range" p) [a] [] pos) (HL ta):=by
 intro PZ s σ H R I h;refine Call_ (iW I hg hm boot_range (Wj (cF (ha pos PZ s σ H _ I h) λus s1 ⟨vs,H1,I1,r1,q1⟩=>?_) hs rfl));obtain⟨j,e,q1,q2,q⟩:=q1;subst e;cases r1 with
 | cons r rr =>
  cases rr;obtain⟨t,rfl⟩:=r;exact call_range_1 (vY I1 ⋯ ⋯ q1 q2 (by simpa using q))
def zA{a b:Expr}{ta:TA}{pos:Pos}(hg:Gl X "range")(hm:X.mg "range"=none)(ha:PA X [a,b] ta)(hs:autoParam (starEach [a,b] X.env=[(false,eval a X.env),(false,eval b X.env)]) aR._auto_1)(Rx:autoParam (starEach [b] X.env=[(false,eval b X.env)]) aR._auto_1):PI X tg (.Call (.Name "range" p) [a,b] [] pos) (HS ta):=by
 intro PZ s σ H R I h;refine Call_ (iW I hg hm boot_range (Wj (cF (ha pos PZ s σ H _ I h) λus s1 ⟨vs,H1,I1,r1,q1⟩=>?_) (by rw[hs,Rx]) (by rw[Rx];rfl)));obtain⟨i,j,e,⟨q1,q2,q3,q4⟩,q⟩:=q1;subst e;cases r1 with
 | cons r rr =>
  cases rr with
  | cons r' rr =>
   cases rr;obtain⟨t,rfl⟩:=r;obtain⟨t',rfl⟩:=r';exact call_range_2 (vY I1 q1 q2 q3 q4 q)
def OM(wi:TI)(g:TG)(tb:TS):TS:=λD σ H=>wi σ H λJ H1=>∃W:Nat->Nat->St->Hp->Prop,(∃m,W 0 m σ H1)/\∀i m σ H,W i m σ H ->
 (J.stop i H/\D.nx σ H)\/(J.go i H/\∃N:St->Hp->Prop,(∀σ' H',N σ' H'->∃m',m'<m/\W (i+1) m' σ' H')/\∀x H',J.vd i H x H'->g x σ H' fun σ2 H2=>tb { D with nx:=N,ct:=N,bk:=D.nx } σ2 H2)
def nh(fp:List Addr)(h:Heap):List (Addr×Obj):=fp.filterMap λb=>(h.get? b).map λo=>(b,o)
def i5(hb:b∈fp)(e:h.get? b=some o):(b,o)∈nh fp h:=aah.mpr ⟨b,hb,by rw[e];rfl⟩
def Al{p:Addr×Obj}(hp:p∈nh fp h):p.1∈fp/\h.get? p.1=some p.2:=by
 obtain⟨b,hb,e⟩:=aah.mp hp;cases q:h.get? b with
 | none=>rw[q] at e;cases e
 | some o =>
  rw[q] at e;have e':(b,o)=p:=Vk e;subst e';exact⟨hb,q⟩
def Inv.pinned(I:Inv X PZ σ H s)(hf:∀b∈fp,lh X PZ H b)(ho:∀b∈fp,∃o,s.heap.get? b=some o/\∀v,o.data≠.cell v):Inv X (PZ++nh fp s.heap) σ H s :=
 I.zu λp hp=>(Wc.mp hp).elim (λz=>I.pin p (V0 _ z)) λz=>by
  obtain⟨hb,e⟩:=Al z;obtain⟨f0,f1,f2,_⟩:=hf p.1 hb;obtain⟨o,e',d⟩:=ho p.1 hb;rw[e] at e';cases e';exact⟨e,f0,f1,f2,d⟩
def Inv.ma{pl:List (Addr×Obj)}(I:Inv X (PZ++pl) σ H s):Inv X PZ σ H s:=I.zu λp hp=>I.pin p (V0 _ (Xw _ hp))
def Ih{iter:Expr}{wi:TI}{g:TG}{pos:Pos}(hp:PassesOwn ↑8 X.A X.env X.xe)(hc:X.calm=true)(hi:PI X tg iter wi)(hg:PG X tg g)(hb:kr X body tb)(hs:autoParam ↑5 aI._auto_1):PS X (.For tg iter body [] pos) (OM wi g tb):=by
 intro PZ s σ H D I h;refine wpAny_For (cF (hi PZ s σ H _ I h) λv s1 h1=>cF h1 λitv s2 h2=>?_) hs;obtain⟨it,fp,tn,J,H2,e,I2,T,Qe,f2,W,⟨m0,w0⟩,turn⟩:=h2;subst e;have R8:∀{H':Hp},(∀b∈fp,H' b=none)->∀b∈fp,lh X PZ H' b:=λhn b hb=>⟨hn b hb,(f2 b hb).2⟩
 refine codeAny_forLoop_any (λn s'=>∃i σ' H',Inv X PZ σ' H' s'/\tn i s'.heap/\(∀b∈fp,H' b=none)/\W i n σ' H') ?_ m0 ⟨0,σ,H2,I2,Qe,λb hb=>(f2 b hb).1,w0⟩;rintro n s3 ⟨i,σ3,H3,I3,RJ,fr3,w3⟩;rcases turn i n σ3 H3 w3 with ⟨stop,qn⟩|⟨go,N,hN,step⟩
 .refine X6 hp (cF (T.done X rfl rfl rfl hc i PZ s3 σ3 H3 X.xe I3 (R8 fr3) RJ stop) λr s4 ⟨hr,I4⟩=>?_);subst hr;exact ZV ⟨σ3,H3,I4,qn⟩
 .refine X6 hp (cF (T.item X rfl rfl rfl hc i PZ s3 σ3 H3 X.xe I3 (R8 fr3) RJ go) λr s4 ⟨u,hr,h4⟩=>?_);subst hr;refine X6 hp (cF h4 λ_ s5 ⟨x,H5,I5,r5,y5,TK,fr5⟩=>?_);have I5':=I5.pinned (R8 fr5) (T.obj _ _ TK);refine X6 hp (cF (hg _ s5 σ3 H5 x u _ I5' r5 (step x H5 y5)) λ_ s6 ⟨σ6,H6,I6,q6⟩=>?_);refine X6 hp (cF (hb _ s6 σ6 H6 _ I6 q6) λf s7 q7=>?_);have again:∀{σ7:St}{H7:Hp},Inv X (PZ++nh fp s5.heap) σ7 H7 s7->N σ7 H7->∃m,m<n/\∃i σ' H',Inv X PZ σ' H' s7/\tn i s7.heap/\(∀b∈fp,H' b=none)/\W i m σ' H':=λ{σ7 H7} I7 n7=>by
   obtain⟨m',hm,w7⟩:=hN σ7 H7 n7;refine⟨m',hm,i+1,σ7,H7,I7.ma,T.keep _ _ _ TK λb hb o e=>(I7.pin (b,o) (V0 _ (V0 _ (i5 hb e)))).1,λb hb=>?_,w7⟩;obtain⟨o,e,d⟩:=T.obj _ _ TK b hb;exact(I7.pin (b,o) (V0 _ (V0 _ (i5 hb e)))).2.1
  cases f with
  | next=>obtain⟨σ7,H7,I7,n7⟩:=q7;exact again I7 n7
  | cont=>obtain⟨σ7,H7,I7,n7⟩:=q7;exact again I7 n7
  | brk=>obtain⟨σ7,H7,I7,q7⟩:=q7;exact⟨σ7,H7,I7.ma,q7⟩
  |ret v=>obtain⟨x7,σ7,H7,I7,r7,q7⟩:=q7;exact⟨x7,σ7,H7,I7.ma,r7,q7⟩
abbrev R2:=V->V->Hp->VK->Prop
def hX(X:Cx)(f:Value->Value->Sem Value)(r:R2):Prop :=
 ∀ (PZ:List (Addr×Obj)) (s:Shared) (σ:St) (H:Hp) (x y:V) (v u:Value) (Q:VK),Inv X PZ σ H s->RelV x v->RelV y u->r x y H Q ->
  wpAny ↑8 X.A (f v u) (EP X PZ σ Q) X.xe s
def OJ(X:Cx)(f:Value->Sem Value)(r:V->Hp->VK->Prop):Prop :=
 ∀ (PZ:List (Addr×Obj)) (s:Shared) (σ:St) (H:Hp) (x:V) (v:Value) (Q:VK),Inv X PZ σ H s->RelV x v->r x H Q ->
  wpAny ↑8 X.A (f v) (EP X PZ σ Q) X.xe s
def cQ(X:Cx)(f:Value)(r:List V->Hp->VK->Prop):Prop :=
 ∀ (PZ:List (Addr×Obj)) (s:Shared) (σ:St) (H:Hp) (xs:List V) (us:List Value) (Q:VK),Inv X PZ σ H s->Vals xs us->r xs H Q ->
  wpAny ↑8 X.A (call f us) (EP X PZ σ Q) X.xe s
def LP(r:R2)(ta tb:TE):TE:=fun σ H Q=>ta σ H λx H1=>tb σ H1 λy H2=>r x y H2 Q
def OZ(r:V->Hp->VK->Prop)(ta:TE):TE:=fun σ H Q=>ta σ H λx H1=>r x H1 Q
def rI(C:Int->Int->Prop)(g:Int->Int->V):R2:=λx y H Q=>∃i j,x=.int i/\y=.int j/\C i j/\Q (g i j) H
def yX(g:Int->Int->V):R2:=λx y H Q=>∃i j,x=.int i/\y=.int j/\Q (g i j) H
def rU(g:Int->V):V->Hp->VK->Prop:=λx H Q=>∃i,x=.int i/\Q (g i) H
variable{f:Value->Value->Sem Value}
variable{r:R2}
section
variable{a b:Expr}{tb tc:TE}{pos:Pos}
def JZ(ha:PE X a ta)(hb:PE X b tb){R:V->V->Hp->Prop}(I:Inv X PZ σ H s)(h:ta σ H λx H1=>tb σ H1 λy H2=>R x y H2)(hf:∀v u s2 x y H2,Inv X PZ σ H2 s2->RelV x v->RelV y u->R x y H2->wpAny ↑8 X.A (f v u) Q X.xe s2):wpAny ↑8 X.A (eval a X.env) (λv s₁=>wpAny ↑8 X.A (eval b X.env) (λu s₂=>wpAny ↑8 X.A (f v u) Q X.xe s₂) X.xe s₁) X.xe s:=by
 refine cF (ha PZ s σ H _ I h) λv s1 ⟨x,H1,I1,r1,q1⟩=>?_;refine cF (hb PZ s1 σ H1 _ I1 q1) λu s2 ⟨y,H2,I2,r2,q2⟩=>?_;exact hf v u s2 x y H2 I2 r1 r2 q2
def HY{op:Operator}(ho:hX X (binaryOp op) r)(ha:PE X a ta)(hb:PE X b tb):PE X (.BinOp a op b pos) (LP r ta tb):=by
 intro PZ s σ H Q I h;exact wpAny_BinOp (JZ ha hb I h λv u s2 x y H2 I2 rx ry q=>ho PZ s2 σ H2 x y v u Q I2 rx ry q)
def Nx{op:UnaryOp}{r:V->Hp->VK->Prop}(ho:OJ X (unaryOp op) r)(ha:PE X a ta):PE X (.UnaryOp op a pos) (OZ r ta):=by
 intro PZ s σ H Q I h;exact UnaryOp_ (cF (ha PZ s σ H _ I h) λv s1 ⟨x,H1,I1,r1,q1⟩=>ho PZ s1 σ H1 x v Q I1 r1 q1)
def N0{C:Int->Int->Prop}{g:Int->Int->Int}(rule:∀(i j:Int)(t u:Tok)(s:Shared)(Q:Value->Shared->Prop)(E:Value->Shared->Prop),C i j->Q (.int (g i j) s.toks) { s with toks:=s.toks+1 }->wpAny ↑8 X.A (f (.int i t) (.int j u)) Q E s):hX X f (rI C λi j=>.int (g i j)):=by
 intro PZ s σ H x y v u Q I rx ry h;obtain⟨i,j,rfl,rfl,hc,q⟩:=h;obtain⟨t,rfl⟩:=rx;obtain⟨t',rfl⟩:=ry;exact rule i j t t' s _ _ hc ⟨.int (g i j),H,I.tok _,⟨_,rfl⟩,q⟩
def Nc{g:Int->Int->Int}(rule:∀(i j:Int)(t u:Tok)(s:Shared)(Q:Value->Shared->Prop)(E:Value->Shared->Prop),Q (.int (g i j) s.toks) { s with toks:=s.toks+1 }->wpAny ↑8 X.A (f (.int i t) (.int j u)) Q E s):hX X f (yX λi j=>.int (g i j)):=by
 intro PZ s σ H x y v u Q I rx ry h;obtain⟨i,j,rfl,rfl,q⟩:=h;obtain⟨t,rfl⟩:=rx;obtain⟨t',rfl⟩:=ry;exact rule i j t t' s _ _ ⟨.int (g i j),H,I.tok _,⟨_,rfl⟩,q⟩
def GA{g:Int->Int->Bool}(rule:∀(i j:Int)(t u:Tok)(s:Shared)(Q:Value->Shared->Prop)(E:Value->Shared->Prop),Q (.bool (g i j)) s->wpAny ↑8 X.A (f (.int i t) (.int j u)) Q E s):hX X f (yX λi j=>.bl (g i j)):=by
 intro PZ s σ H x y v u Q I rx ry h;obtain⟨i,j,rfl,rfl,q⟩:=h;obtain⟨t,rfl⟩:=rx;obtain⟨t',rfl⟩:=ry;exact rule i j t t' s _ _ ⟨.bl (g i j),H,I,rfl,q⟩
def IQ:hX X (binaryOp .Add) (yX λi j=>.int (i+j)):=Nc λ_ _ _ _ _ _ _ q=>add_int q
def J8:hX X (binaryOp .Sub) (yX λi j=>.int (i-j)):=Nc λ_ _ _ _ _ _ _ q=>sub_int q
def F0:hX X (binaryOp .Mod) (rI (λ_ j=>j≠0) λi j=>.int (i.fmod j)):=N0 λ_ _ _ _ _ _ _ hc q=>mod_int' hc q
def PD{f:Value->Sem Value}{g:Int->Int}(rule:∀(i:Int)(t:Tok)(s:Shared)(Q:Value->Shared->Prop)(E:Value->Shared->Prop),Q (.int (g i) s.toks) { s with toks:=s.toks+1 }->wpAny ↑8 X.A (f (.int i t)) Q E s):OJ X f (rU λi=>.int (g i)):=by
 intro PZ s σ H x v Q I rx h;obtain⟨i,rfl,q⟩:=h;obtain⟨t,rfl⟩:=rx;exact rule i t s _ _ ⟨.int (g i),H,I.tok _,⟨_,rfl⟩,q⟩
def Ik:OJ X (unaryOp .USub) (rU λi=>.int (-i)):=PD λ_ _ _ _ _ q=>neg_int q
end
variable{op:CmpOp}
variable{us:List Value}
section
variable{a b:Expr}{tb tc:TE}{pos:Pos}
def xv{Q:VK}{k k':Bool}(I:Inv X PZ σ H s)(q:Q (.bl k) H)(e:k=k'):EP X PZ σ Q (.bool k') s:=by
 subst e;exact⟨.bl k,H,I,rfl,q⟩
def DN:hX X (compareOp .Lt) (yX λi j=>.bl (decide (i<j))):=GA λ_ _ _ _ _ _ _ q=>lt_int q
def vn:hX X (compareOp .LtE) (yX λi j=>.bl (decide (i<=j))):=GA λ_ _ _ _ _ _ _ q=>le_int q
def H_:hX X (compareOp .Gt) (yX λi j=>.bl (decide (j<i))):=GA λ_ _ _ _ _ _ _ q=>gt_int q
def Hj:hX X (compareOp .GtE) (yX λi j=>.bl (decide (j<=i))):=GA λ_ _ _ _ _ _ _ q=>ge_int q
def Br:hX X (compareOp .Is) (λx y H Q=>y=.c_/\Q (.bl (decide (x=.c_))) H):=by
 intro PZ s σ H x y v u Q I rx ry h;obtain⟨rfl,q⟩:=h;cases ry;refine is_none_gen (xv I q ?_);cases x<;>first
  | (cases rx;rfl)
  |(obtain⟨t,rfl⟩:=rx;rfl)
def hX.or{r':R2}(h:hX X f r)(h':hX X f r'):hX X f (λx y H Q=>r x y H Q\/r' x y H Q):=by
 intro PZ s σ H x y v u Q I rx ry q;rcases q with q|q
 .exact h PZ s σ H x y v u Q I rx ry q
 .exact h' PZ s σ H x y v u Q I rx ry q
def eR(b:Expr)(h:autoParam (op≠.In) aD._auto_1)(h2:autoParam (op≠.NotIn) aD._auto_1):behindInMarks op b=false:=by
 have e1:(op==CmpOp.In)=false:=by cases op<;>first|rfl|exact absurd rfl h
 have e2:(op==CmpOp.NotIn)=false:=by cases op<;>first|rfl|exact absurd rfl h2
 cases b<;>simp[behindInMarks,e1,e2]
def FH(ho:hX X (compareOp op) r)(ha:PE X a ta)(hb:PE X b tb)(hm:behindInMarks op b=false):PE X (.Compare a [op] [b] pos) (LP r ta tb):=by
 intro PZ s σ H Q I h;exact wpAny_Compare1 (JZ ha hb I h λv u s2 x y H2 I2 rx ry q=>ho PZ s2 σ H2 x y v u Q I2 rx ry q) hm
def L_(t:TE):TT:=fun σ H Q=>t σ H λx H'=>∃k,x=.bl k/\Q k H'
def yC(ho:hX X (compareOp op) r)(ha:PE X a ta)(hb:PE X b tb)(hm:behindInMarks op b=false):PT X (.Compare a [op] [b] pos) (L_ (LP r ta tb)):=by
 intro PZ s σ H Q I h;refine wpAny_isTrue_Compare1 (cF (ha PZ s σ H _ I h) λv s1 ⟨x,H1,I1,r1,q1⟩=>cF (hb PZ s1 σ H1 _ I1 q1) λu s2 ⟨y,H2,I2,r2,q2⟩ =>
  cF (ho PZ s2 σ H2 x y v u _ I2 r1 r2 q2) λc s3 ⟨z,H3,I3,r3,k,e,q3⟩=>?_) hm
 subst e;cases r3;exact Xa ⟨H3,I3,q3⟩
def BH(r r':R2)(ta tb tc:TE):TE:=fun σ H Q=>ta σ H λx H1=>tb σ H1 λy H2=>r x y H2 λz H3=>∃k,z=.bl k ∧
 (if k=true then tc σ H3 λw' H4=>r' y w' H4 Q else Q (.bl false) H3)
def Cw{T9:CmpOp}{r':R2}(ho:hX X (compareOp op) r)(R1:hX X (compareOp T9) r')(ha:PE X a ta)(hb:PE X b tb)(hc:PE X c tc)(hm:autoParam (lastMarks [op,T9] [b,c]=false) aU._auto_1):PE X (.Compare a [op,T9] [b,c] pos) (BH r r' ta tb tc):=by
 intro PZ s σ H Q I h;refine Compare_chain (cF (ha PZ s σ H _ I h) λv s1 ⟨x,H1,I1,r1,q1⟩=>chain_link (cF (hb PZ s1 σ H1 _ I1 q1) λu s2 ⟨y,H2,I2,r2,q2⟩ =>
  cF (ho PZ s2 σ H2 x y v u _ I2 r1 r2 q2) λd s3 ⟨z,H3,I3,r3,k,e,q3⟩=>?_)) hm
 subst e;cases r3;refine Xa ?_;cases k with
 | false=>exact ite_ff ⟨.bl false,H3,I3,rfl,q3⟩
 |true=>exact ite_tt (chain_last (cF (hc PZ s3 σ H3 _ I3 q3) λw' s4 ⟨z',H4,I4,r4,q4⟩=>R1 PZ s4 σ H4 y z' u w' Q I4 r2 r4 q4))
def mG:(sizeLine:Nat)<2^63:=by rw[sizeLine_eq];decide
def xI:hX X (binaryOp .Add) (λx y H Q=>∃i j,x=.str i/\y=.str j/\i.length+j.length<=sizeLine/\Q (.str (i++j)) H):=by
 intro PZ s σ H x y v u Q I rx ry h;obtain⟨i,j,rfl,rfl,hz,q⟩:=h;obtain⟨t,rfl⟩:=rx;obtain⟨t',rfl⟩:=ry;exact add_str (λt' tk=>⟨.str (i++j),H,I.tok _,⟨_,rfl⟩,q⟩) hz
def vals1{x:V}(r:Vals [x] us):∃u,us=[u]/\RelV x u:=by
 cases r with
 |cons r1 r2=>cases r2;exact⟨_,rfl,r1⟩
def vals2{x y:V}(r:Vals [x,y] us):∃u w',us=[u,w']/\RelV x u/\RelV y w':=by
 cases r with
 | cons r1 r2 =>
  cases r2 with
  |cons r3 r4=>cases r4;exact⟨_,_,rfl,r1,r3⟩
def zQ(hc:X.calm=true):cQ X (.builtin "max") (λxs H Q=>∃i j,xs=[.int i,.int j]/\Q (.int (if j>i then j else i)) H):=by
 intro PZ s σ H xs us Q I r h;obtain⟨i,j,rfl,q⟩:=h;obtain⟨u,w',rfl,⟨t,rfl⟩,⟨t',rfl⟩⟩:=vals2 r;refine max_two_ints (I.ok.hd hc) λh' tk k=>⟨_,H,I.kept k,?_,q⟩
 by_cases hj:j>i
 .rw[if_pos hj,if_pos hj];exact⟨_,rfl⟩
 .rw[if_neg hj,if_neg hj];exact⟨_,rfl⟩
end
structure xG (h:Heap) (x dx C:Addr) (mA:Str->Option Value):Prop where
 obj:h.get? x=some (XE C dx)
 ns:h.Ns1 dx mA
 ne:dx≠x
variable{mA:Str->Option Value}{dx:Addr}
def sO(n:h.Ns1 dx mA):∃od,h.get? dx=some od/\∀name,Zi name od=some (mA name):=by
 obtain⟨o,es,ep,ho,hd,hk,_,hm⟩:=n;refine⟨o,ho,λname=>?_⟩;have e:=hm name;unfold nsFind findBy at e;rw[<- Array.find?_toList] at e;unfold Zi;rw[hd];dsimp only
 split
 .rename_i y q;rw[q] at e;exact congrArg some e
 .rename_i q;rw[q] at e;have a:es.toList.any (·.refKey)=false:=by
   rw[List.any_eq_false];intro y hy;obtain⟨z,t,RM⟩:=hk y (Array.mem_toList_iff.mp hy);simp[DictEntry.refKey,RM]
  have a':¬ es.toList.any (·.refKey)=true:=by rw[a];exact VQ
  rw[if_neg a'];exact congrArg some e
variable{C:Addr}
def xG.look{x:Addr}(I:xG h x dx C mA):∃od,Zj h x (XE C dx) C (some od)/\∀name,Zi name od=some (mA name) :=
 let ⟨od,ho,hl⟩:=sO I.ns
 ⟨od,⟨I.obj,rfl,rfl,ho⟩,hl⟩
variable{prog:Program}
variable{pl:Sem Bool}
variable{kw:List (Str×Value)}
section
variable{K:U5}{x f:Addr}{name:Str}{v:Value}
def get_map{expr:Bool}(X:K.In s.heap)(I:xG s.heap x dx C mA)(hg:ZF K C name=true)(hh:Zk K C=true)(ha:V_ K (.ref C) name=some none)(hv:mA name=some v)(Tp:acO v=true)(h:Q v { s with toks:=s.toks+1 }):wpAny ↑11 A (getAttr (.ref x) name expr) Q E s:=by
 obtain⟨od,J,hl⟩:=I.look;exact PySem.W.get_value X J (Z5 hg).1 (PySem.W.findObj_own hh ha rfl (by rw[hl,hv])) Tp h
def DA{Q:Value×List Value->Shared->Prop}(X:K.In s.heap)(I:xG s.heap x dx C mA)(hg:ZF K C name=true)(hf:V_ K (.ref C) name=some (some (.ref f)))(ht:aa7 K (.ref f)=true)(hv:mA name=none)(h:Q (.ref f,[.ref x]) s):wpAny ↑11 A (getMethod (.ref x) name pl) Q E s:=by
 obtain⟨od,J,hl⟩:=I.look;exact PySem.W.method_fn X J (Z5 hg).1 (Z5 hg).2 hf (beq_iff_eq.mp ht) (by show (Zi name od).map (·.isSome)=some false;rw[hl,hv];rfl) h
theorem GR{ns:List Str}{Q:Unit->Shared->Prop}(X:K.In s.heap)(I:xG s.heap x dx C mA)(hs:V_ K (.ref C) "__setattr__"=some (some (.builtin "object.__setattr__")))(hp:acr K C=true)(ht:abu K C name=some none)(hh:Zk K C=true)(hw:acp mA ns)(hsz:ns.length<=sizeLine)(h:∀h',xG h' x dx C (λy=>if y=name then some v else mA y)->Yb dx s.heap h'->Q () { s with heap:=h',toks:=s.toks+2 }):wpAny ↑11 A (setAttr (.ref x) name v) Q E s:=by
 obtain⟨od,J,hl⟩:=I.look;refine PySem.W.set_plain X J hs (PySem.W.osa_open (s:={ s with toks:=s.toks+1 }) (r:=none) X J hp ht λb=>?_);obtain⟨cd,hc,Tf⟩:=ZG hh;have hx:s.heap.get? x=some ⟨.ref C,some dx,.plain,#[]⟩:=I.obj;refine TZ (U7 (TZ (TZ (wpAny_loadPart hx (TZ (PySem.W.Looks.here (s:={ s with toks:=s.toks+1 }) (PySem.W.looks_clsIn X hc) ?_))))));rw[Tf];refine U7 (a:=some dx) (TZ (U7 (TZ ?_)));refine wpAny_nsSet1 (s:={ s with toks:=s.toks+1 }) I.ns λh' TV Rx=>?_;obtain⟨oD,esD,epD,hoD,hdD,Td⟩:=TV.count (PySem.Within.cons name v hw);refine TZ (wpAny_lookBehind hoD (by rw[hdD];exact pastItsLine_dict (Vz Td (by rw[VF];lia))) ?_);exact U7 (h _ ⟨(Rx.2 _ (WW I.ne)).trans I.obj,TV,I.ne⟩ Rx)
def BJ{R:Result->Shared->Prop}{vs:List Value}(X:K.In s.heap)(hm:ade K C=true)(hi:V_ K (.ref C) "__init__"=some (some (.ref f)))(hf:PySem.W.typeIn K (.ref f)=some (.type "function"))(h:codeAny ↑11 (A.under (.builtin "type.__call__" ⟨.ref C::vs,kw⟩)) (.call (.ref f) ⟨.ref (s.heap.objs.size+1)::vs,kw⟩) (PySem.W.InitBack (s.heap.objs.size+1) R) { s with heap:=(s.heap.push WT).push (XE C s.heap.objs.size) }):codeAny ↑11 A (.call (.ref C) ⟨vs,kw⟩) R s:=by
 obtain⟨hh,g,d,t,os⟩:=s;exact PySem.W.make_core (PySem.W.makes_of X hm) (ZP X hi) (λself=>PySem.W.bind_fn X self hf) (.inl rfl) h
end
def jF(f:Str)(v:V):List (Str×V)->List (Str×V)
 | []=>[(f,v)]
 |(g,x)::r=>if g=f then (g,v)::r else (g,x)::jF f v r
theorem nJ(f g:Str)(v:V):∀fs:List (Str×V),(jF f v fs).lookup g=if g=f then some v else fs.lookup g
 | []=>by
  show Yt g [(f,v)]=_
  by_cases h:g=f
  .have hb:(g==f)=true:=beq_iff_eq.mpr h;simp only[Yt,hb,if_pos h]
  .have hb:(g==f)=false:=beq_eq_false_iff_ne.mpr h;simp only[Yt,hb,if_neg h]
 | (k,x)::r=>by
  have ih:=nJ f g v r;rw[show jF f v ((k,x)::r)=(if k=f then (k,v)::r else (k,x)::jF f v r) from rfl]
  by_cases hk:k=f
  .rw[if_pos hk]
   by_cases h:g=k
   .have hb:(g==k)=true:=beq_iff_eq.mpr h;simp only[Yt,hb,if_pos (h.trans hk)]
   .have hb:(g==k)=false:=beq_eq_false_iff_ne.mpr h;simp only[Yt,hb,if_neg (λe:g=f=>h (e.trans hk.symm))]
  .rw[if_neg hk]
   by_cases h:g=k
   .have hb:(g==k)=true:=beq_iff_eq.mpr h;simp only[Yt,hb,if_neg (λe:g=f=>hk (h.symm.trans e))]
   .have hb:(g==k)=false:=beq_eq_false_iff_ne.mpr h;simp only[Yt,hb];exact ih
theorem mZ(f:Str)(v:V):∀fs:List (Str×V),f∈(jF f v fs).map (·.1)/\∀g,g∈fs.map (·.1)->g∈(jF f v fs).map (·.1)
 | []=>⟨by simp[jF],λg h=>by simp at h⟩
 | (k,x)::r=>by
  obtain⟨i1,i2⟩:=mZ f v r;rw[show jF f v ((k,x)::r)=(if k=f then (k,v)::r else (k,x)::jF f v r) from rfl]
  by_cases hk:k=f
  .rw[if_pos hk];subst hk;exact⟨by simp,λg h=>by simpa using h⟩
  .rw[if_neg hk];refine⟨?_,λg h=>?_⟩
   .rw[Vu];exact Vi _ i1
   .rw[Vu] at h ⊢;rcases Vn.mp h with e|e
    .exact Vn.mpr (.inl e)
    .exact Vi _ (i2 g e)
theorem nE(f:Str)(v:V):∀fs:List (Str×V),(jF f v fs).length<=fs.length+1
 | []=>by simp[jF]
 | (k,x)::r=>by
  have ih:=nE f v r;rw[show jF f v ((k,x)::r)=(if k=f then (k,v)::r else (k,x)::jF f v r) from rfl]
  by_cases hk:k=f
  .rw[if_pos hk,VF,VF];lia
  .rw[if_neg hk,VF,VF];lia
def kA.some_of{o:Option Value}(r:kA (some v) o):∃u,o=some u/\RelV v u:=by
 cases o with
 | none=>exact(show False from r).elim
 |some u=>exact⟨u,rfl,r⟩
def kA.none_of{o:Option Value}(r:kA none o):o=none:=by
 cases o with
 | none=>rfl
 |some u=>exact(show False from r).elim
def AR(r:RelV v u):acO u=true:=by
 cases v with
 | c_=>cases (show u=VU from r);rfl
 | bl b=>cases (show u=XD b from r);rfl
 | int i=>obtain⟨t,e⟩:=(show ∃t,u=ZE i t from r);cases e;rfl
 | str x=>obtain⟨t,e⟩:=(show ∃t,u=aad x t from r);cases e;rfl
 | byt b=>obtain⟨t,e⟩:=(show ∃t,u=Value.bytes b t from r);cases e;rfl
 | HR b=>obtain⟨t,e⟩:=(show ∃t,u=abM b t from r);cases e;rfl
 | ref a=>cases (show u=Vf a from r);rfl
 |ty n=>cases (show u=WD n from r);rfl
section
variable{a:Addr}{fs fs':List (Str×V)}
def lR(bJ:kH P w H h)(e:H a=some (.ins C dx fs)):∃mA,xG h a dx C mA/\(∀f,kA (fs.lookup f) (mA f))/\acp mA (fs.map (·.1))/\fs.length<=1000/\H dx=some (.own a):=by
 obtain⟨d,z,ne,ob,mA,n,r,q⟩:=(show bG P w H h a (.ins C dx fs) from bJ a _ e)
 exact⟨mA,⟨ob,n,ne⟩,r,q,z,d⟩
end
structure mf (K:U5) (C:Addr):Prop where
 pg:ZF K C Str.empty=true
 hd:Zk K C=true
 po:acr K C=true
 sa:V_ K (.ref C) "__setattr__"=some (some (.builtin "object.__setattr__"))
def mf.get{K:U5}(c:mf K C)(f:Str):ZF K C f=true:=c.pg
def cp(K:U5)(C:Addr)(f:Str):Prop:=V_ K (.ref C) f=some none
def cp.MM{K:U5}{f:Str}(n:cp K C f):abu K C f=some none:=by
 unfold abu;rw[show V_ K (.ref C) f=some none from n];rfl
structure Meth (K:U5) (C:Addr) (m:Str) (f:Addr):Prop where
 at_:V_ K (.ref C) m=some (some (.ref f))
 fn:aa7 K (.ref f)=true
 kp:Xc K (.ref f)=true
variable{m:Str}
section
variable{a:Addr}{fs:List (Str×V)}{f:Str}
def xR{b:Bool}(I:Inv X PZ σ H s)(e:H a=some (.ins C dx fs))(c:mf X.K C)(n:cp X.K C f)(l:fs.lookup f=some v)(h:∀u s',Inv X PZ σ H s'->RelV v u->Q u s'):wpAny ↑8 A (getAttr (.ref a) f b) Q E s:=by
 obtain⟨mA,O,r,_,_,_⟩:=lR I.bJ e;obtain⟨u,hu,ru⟩:=kA.some_of (v:=v) (o:=mA f) (by rw[<- l];exact r f);exact get_map I.mh O (c.get f) c.hd n hu (AR ru) (h u _ (I.tok _) ru)
def pP{g:Addr}{Q:Value×List Value->Shared->Prop}(I:Inv X PZ σ H s)(e:H a=some (.ins C dx fs))(c:mf X.K C)(k:Meth X.K C m g)(l:fs.lookup m=none)(h:Q (.ref g,[.ref a]) s):wpAny ↑8 A (getMethod (.ref a) m pl) Q E s:=by
 obtain⟨mA,O,r,_,_,_⟩:=lR I.bJ e;have hn:mA m=none:=kA.none_of (by rw[<- l];exact r m);exact DA I.mh O (c.get m) k.at_ k.fn hn h
theorem xN{y:V}{Q:Unit->Shared->Prop}(I:Inv X PZ σ H s)(e:H a=some (.ins C dx fs))(c:mf X.K C)(n:cp X.K C f)(hl:fs.length<1000)(ry:RelV y u)(h:∀s',Inv X PZ σ (upd H a (.ins C dx (jF f y fs))) s'->Q () s'):wpAny ↑8 A (setAttr (.ref a) f u) Q E s:=by
 obtain⟨mA,O,r,wi,_,ho⟩:=lR I.bJ e;have hz:(fs.map (·.1)).length<=sizeLine:=by rw[U8,sizeLine_eq];lia
 refine GR I.mh O c.sa c.po n.MM c.hd wi hz λh' O' sb=>h _ ?_;have hd:∃o,h'.get? dx=some o:=let ⟨o,_,_,e',_⟩:=O'.ns;⟨o,e'⟩
 refine I.write (x:=a) (e:=dx) (by rw[e];exact WE) (.inr ho) (λb q hb z=>(sb.2 b hb).trans z) hd ?_;refine⟨by rwa[aB O.ne],?_,O.ne,O'.obj,_,O'.ns,λg=>?_,λg hg=>?_⟩
 .have:=nE f y fs;lia
 .show kA ((jF f y fs).lookup g) (if g=f then some u else mA g);rw[nJ]
  by_cases q:g=f
  .rw[if_pos q,if_pos q];exact ry
  .rw[if_neg q,if_neg q];exact r g
 .by_cases q:g=f
  .rw[q];exact(mZ f y fs).1
  .refine(mZ f y fs).2 g (wi g λz=>hg ?_);show (if g=f then some u else mA g)=none;rwa[if_neg q]
def Inv.made(I:Inv X PZ σ H s):Inv X PZ σ (upd (upd H s.heap.objs.size (.own (s.heap.objs.size+1))) (s.heap.objs.size+1) (.ins C s.heap.objs.size [])) { s with heap:=(s.heap.push WT).push (XE C s.heap.objs.size) }:=by
 have e1:(s.heap.push WT).get? s.heap.objs.size=some WT:=U_ s.heap rfl;have e2:((s.heap.push WT).push (XE C s.heap.objs.size)).get? (s.heap.objs.size+1)=some (XE C s.heap.objs.size):=by
  have:=U_ (s.heap.push WT) (o:=XE C s.heap.objs.size) rfl
  rwa [V5] at this
 have e3:(s.heap.push WT).Ns s.heap.objs.size (λ_=>none):=⟨WT,#[],_,e1,rfl,(λe he=>absurd he ↑13),λ_=>rfl⟩
 have I1:=I.laid (a:=s.heap.objs.size) (o:=.own (s.heap.objs.size+1)) (h':=s.heap.push WT) (t':=s.toks) (λb u q=>U3 _ q) (U9 _) ⟨_,e1⟩;refine I1.laid (a:=s.heap.objs.size+1) (o:=.ins C s.heap.objs.size []) (t':=s.toks) (λb u q=>U3 _ q) (aa8 (V5 _ _)) ?_;have ne:s.heap.objs.size≠s.heap.objs.size+1:=Vm (Xj _);refine⟨by rw[aB ne,aH],Vd _,ne,e2,λ_=>none,(Heap.Ns1.of_empty e3).at λo q=>U3 _ q,λ_=>WE,λy hy=>absurd rfl hy⟩
def GV{env:Env}{f:Str}{pos:Pos}(hb:attributeBase e f env (eval e env)=eval e env)(h:wpAny ↑11 A (eval e env) (λo s₁=>wpAny ↑11 A (getAttr o f true) Q E s₁) E s):wpAny ↑11 A (eval (.Attribute e f pos) env) Q E s :=
 Attribute_any_ h (by rw[arm_eval_Attribute,hb])
end
def Oh(K:U5)(ta:TE)(f:Str):TE:=fun σ H Q=>ta σ H λx H1=>∃a C dx fs v,x=.ref a/\H1 a=some (.ins C dx fs)/\mf K C/\cp K C f/\fs.lookup f=some v/\Q v H1
def OU(K:U5)(ta tv:TE)(f:Str):TS:=λD σ H=>tv σ H λy H1=>ta σ H1 λx H2=>∃a C dx fs,x=.ref a/\H2 a=some (.ins C dx fs)/\mf K C/\cp K C f/\fs.length<1000 ∧
 D.nx σ (upd H2 a (.ins C dx (jF f y fs)))
section
variable{o value:Expr}{f:Str}{pos pos' U1:Pos}{tv:TE}
def JT(he:PE X e ta)(hb:attributeBase e f X.env (eval e X.env)=eval e X.env):PE X (.Attribute e f pos) (Oh X.K ta f):=by
 intro PZ s σ H Q I h;refine GV hb (cF (he PZ s σ H _ I h) λu s1 ⟨x,H1,I1,rx,a,C,dx,fs,v,ex,ea,c,n,l,q⟩=>?_);subst ex;obtain rfl:u=Vf a:=rx;exact xR I1 ea c n l λu' s2 I2 ru=>⟨v,H1,I2,ru,q⟩
def J1(ha:PE X o ta)(hv:PE X value tv)(hs:swapsWith value (some (.Attribute o f pos')) pos.line X.env=pure false):PS X (.Assign [.Attribute o f pos'] value pos) (OU X.K ta tv f):=by
 intro PZ s σ H D I h;refine plainObj_wpAny_Assign_Attribute (cF (hv PZ s σ H _ I h) λu s1 ⟨y,H1,I1,ry,q⟩=>cF (ha PZ s1 σ H1 _ I1 q) λov s2 ⟨x,H2,I2,rx,a,C,dx,fs,ex,ea,c,n,l,q2⟩=>?_) hs;subst ex;obtain rfl:ov=Vf a:=rx;exact xN I2 ea c n l ry λs3 I3=>⟨σ,_,I3,q2⟩
end
section
variable{c:Value}{b:Bool}
inductive jN (K:U5) (H:Hp):V->Value->Prop where
 | c_:jN K H .c_ (.type "NoneType")
 | bl (x:Bool):jN K H (.bl x) (.type "bool")
 | int (i:Int):jN K H (.int i) (.type "int")
 | str (x:Str):jN K H (.str x) (.type "str")
 | HR (x:UInt64):jN K H (.HR x) (.type "float")
 | lst {a:Addr} {xs:List V} (e:H a=some (.lst xs)):jN K H (.ref a) (.type "list")
 | j4 {a:Addr} {o:Obj} {xs:List V} (e:H a=some (.j4 o (.lst xs))):jN K H (.ref a) (.type "list")
 | tup {a:Addr} {xs:List V} (e:H a=some (.tup xs)):jN K H (.ref a) (.type "tuple")
 | dK {a:Addr} {P5:List (Key×V)} (e:H a=some (.dK P5)):jN K H (.ref a) (.type "dict")
 | dT {a:Addr} {P5:List (List Key×V)} (e:H a=some (.dT P5)):jN K H (.ref a) (.type "dict")
 | ins {a C dx:Addr} {fs:List (Str×V)} (e:H a=some (.ins C dx fs)) (cl:mf K C) (ha:V_ K (.ref C) "__class__"=some (some (.builtin "object.__class__")))
   (hn:Zl K (.builtin "object.__class__") "__get__"=some (some (.builtin "getset_descriptor.__get__"))) (LN:ZW K (.builtin "object.__class__")=some true)
   (hm:aaK K C (.type "object")=some true):jN K H (.ref a) (.ref C)
def Am{x:V}{t:Value}(I:Inv X PZ σ H s)(rx:RelV x u)(ty:jN X.K H x t)(e:Xx X.K t c=some b)(h:∀tk,Q (.bool b) { s with toks:=tk }):wpAny ↑8 A (call (.builtin "isinstance") [u,c]) Q E s:=by
 cases ty with
 | c_=>cases (show u=VU from rx);exact Wn acs I.mh WE e (λz=>nomatch z) h
 | bl y=>cases (show u=XD y from rx);exact Wn acu I.mh WE e (λz=>nomatch z) h
 | int i=>obtain⟨t,q⟩:=(show ∃t,u=ZE i t from rx);cases q;exact Wn acP I.mh WE e (λz=>nomatch z) h
 | str y=>obtain⟨t,q⟩:=(show ∃t,u=aad y t from rx);cases q;exact Wn acQ I.mh WE e (λz=>nomatch z) h
 | HR y=>obtain⟨t,q⟩:=(show ∃t,u=abM y t from rx);cases q;exact Wn acf I.mh WE e (λz=>nomatch z) h
 | @lst a xs ea =>
  cases (show u=Vf a from rx);obtain⟨_,_,n,_,h1⟩:=(show bG X.prog X.w H s.heap a (.lst xs) from I.bJ a _ ea)
  exact Wn Zm I.mh ⟨_,h1,rfl⟩ e (λz=>nomatch z) h
 | @j4 a ob xs ea =>
  cases (show u=Vf a from rx);obtain⟨_,_,_,n,_,h1⟩:=(show bG X.prog X.w H s.heap a (.j4 ob (.lst xs)) from I.bJ a _ ea)
  exact Wn Zm I.mh ⟨_,h1,rfl⟩ e (λz=>nomatch z) h
 | @tup a xs ea =>
  cases (show u=Vf a from rx);obtain⟨_,_,_,p⟩:=(show bG X.prog X.w H s.heap a (.tup xs) from I.bJ a _ ea)
  obtain⟨o,h1,h2,_⟩:=p;exact Wn acg I.mh ⟨o,h1,h2⟩ e (λz=>nomatch z) h
 | @dK a P5 ea =>
  cases (show u=Vf a from rx);obtain⟨_,_,vs,_,p⟩:=(show bG X.prog X.w H s.heap a (.dK P5) from I.bJ a _ ea)
  obtain⟨o,es,ep,h1,h2,_⟩:=p;exact Wn Zn I.mh ⟨o,h1,h2.1⟩ e (λz=>nomatch z) h
 | @dT a P5 ea =>
  cases (show u=Vf a from rx);obtain⟨_,_,xs,_,o,es,ep,h1,h2,_⟩:=(show bG X.prog X.w H s.heap a (.dT P5) from I.bJ a _ ea)
  exact Wn Zn I.mh ⟨o,h1,h2.1⟩ e (λz=>nomatch z) h
 | @ins a C dx fs ea cl ha hn LN hm =>
  cases (show u=Vf a from rx);obtain⟨mA,O,_⟩:=lR I.bJ ea;obtain⟨od,J,_⟩:=O.look;exact Wn (acR (cl.get _) cl.hd ha hn LN hm) I.mh J e (λz=>nomatch z) h
end
structure cj (k:Nat) (A:Around):Prop where
 hd:A.handled=none
 dp:A.depth+3*k+5<recursionLimit
 un:A.units+16*k+200<cLine
theorem cj.mono{j:Nat}(r:cj k A)(h:j<=k):cj j A:=⟨r.hd,by have:=r.dp;lia,by have:=r.un;lia⟩
theorem cj.deeper{k:Nat}{A:Around}(r:cj (k+1) A)(env:Env):cj k (A.deeper env) :=
 ⟨r.hd,by have:=r.dp;show A.depth+1+3*k+5<_;lia,by have:=r.un;show A.units+3+16*k+200<_;lia⟩
def xm:(A.under (.builtin "type.__call__" ⟨.ref C::us,kw⟩)).depth=A.depth+1:=by
 first|rfl|simp[acv,Code.weight,Code.isCreation,Code.isGuard,Code.isCaller,Code.frames,acw,guardIds]
def yb:(A.under (.builtin "type.__call__" ⟨.ref C::us,kw⟩)).units=A.units+1:=by
 first|rfl|simp[acv,Code.cUnits,Code.frames,acw]
theorem cj.make(r:cj (k+1) A)(C:Addr)(us:List Value)(kw:List (Str×Value)):cj k (A.under (.builtin "type.__call__" ⟨.ref C::us,kw⟩)) :=
 ⟨r.hd,by have:=r.dp;rw[xm];lia,by have:=r.un;rw[yb];lia⟩
theorem cj.depth{k:Nat}{A:Around}(r:cj k A):A.depth<recursionLimit:=by have:=r.dp;lia
theorem cj.units{k:Nat}{A:Around}(r:cj k A):A.units+64<cLine:=by have:=r.un;lia
theorem cj.LG(r:cj k A):A.units<cLine:=by have:=r.un;lia
def MR:TA:=λ_ H Q=>Q [] H
def Ny(ta:TE)(tr:TA):TA:=fun σ H Q=>ta σ H λx H1=>tr σ H1 λxs H2=>Q (x::xs) H2
section
variable{t:TA}{pos:Pos}
def kW:PA X [] MR:=λ_ _ _ _ H Q I h=>Calls.spliced_nil ⟨[],H,I,.nil,h⟩
def fY(ha:PE X e te)(hr:PA X es t)(hs:autoParam ↑0 aR._auto_1):PA X (e::es) (Ny te t):=by
 intro pos PZ s σ H Q I h;rw[hs];show wpAny _ _ (spliced ((false,eval e X.env)::backTo pos (starEach es X.env))) _ _ s;refine Calls.spliced_cons (cF (ha PZ s σ H _ I h) λu s1 ⟨x,H1,I1,r1,q1⟩=>?_);exact cF (hr pos PZ s1 σ H1 _ I1 q1) λus s2 ⟨xs,H2,I2,r2,q2⟩=>⟨x::xs,H2,I2,.cons r1 r2,q2⟩
def Ol(t:TA):TE:=fun σ H Q=>t σ H λxs H1=>xs.length<=sizeLine/\∀p,H1 p=none->Q (.ref p) (upd H1 p (.tup xs))
def OO(t:TA):TE:=fun σ H Q=>t σ H λxs H1=>xs.length<=sizeLine/\∀p,H1 p=none->Q (.ref p) (upd H1 p (.lst xs))
def D5{x1}(h:PA X es t):PE X (.Tuple es x1 pos) (Ol t):=by
 intro PZ s σ H Q I hq;refine wpAny_Tuple_spliced (cF (h pos PZ s σ H _ I hq) λus s1 ⟨xs,H1,I1,r,z,q⟩=>⟨by rwa[<- r.length],?_⟩);have hf:H1 s1.heap.objs.size=none:=I1.bJ.fresh (U9 _);refine⟨.ref s1.heap.objs.size,upd H1 s1.heap.objs.size (.tup xs),I1.laid (t':=s1.toks) (λb u e=>U3 _ e) (U9 _) ?_,rfl,q _ hf⟩;exact⟨z,us,r,⟨_,U_ _ rfl,rfl,_,rfl⟩⟩
def Dk(h:PA X es t):PE X (.List es pos) (OO t):=by
 intro PZ s σ H Q I hq;refine wpAny_List_spliced (cF (h pos PZ s σ H _ I hq) λus s1 ⟨xs,H1,I1,r,z,q⟩=>⟨by rwa[<- r.length],?_⟩);have hf:H1 s1.heap.objs.size=none:=I1.bJ.fresh (U9 _);refine⟨.ref s1.heap.objs.size,upd H1 s1.heap.objs.size (.lst xs),I1.laid (t':=s1.toks) (λb u e=>U3 _ e) (U9 _) ?_,rfl,q _ hf⟩;exact⟨z,us,0,r,U_ _ rfl⟩
end
abbrev Sp:=List V->Hp->VK->XK->Prop
abbrev LO:=List Env->Hp->Shared->XK->Value->Shared->Prop
structure xQ (P:Program) (w:World) (K:U5) (mg:Str->Option Value) (base:Heap) (A:Around) (outer:List Env) (s:Shared) (H:Hp):Prop where
 frames:A.frames=some outer
 mod:Mod K mg base
 bs:∀b o,base.get? b=some o->s.heap.get? b=some o/\H b=none
 Hn:base.objs.size<=s.heap.objs.size
 n5:s.heap.FunFrames base outer
 JH:∀b∈xc outer,H b=none
 bJ:kH P w H s.heap
 bare:AllBare s.gens
def CE(outer:List Env)(P:Program)(w:World)(H:Hp)(s:Shared)(Q:VK)(u:Value)(s':Shared):Prop :=
 ∃v H',s'.os=s.os/\AllBare s'.gens/\Un (xc outer) [] H H' s.heap s'.heap/\kH P w H' s'.heap/\RelV v u/\Q v H'
def CR(CX:LO)(outer:List Env)(P:Program)(w:World)(H:Hp)(s:Shared)(Q:VK)(E:XK)(r:Result)(s':Shared):Prop :=
 match r with
 | .ok (.ret u)=>CE outer P w H s Q u s'
 | .ok _=>False
 |.error e=>CX outer H s E e s'
structure aW (P:Program) (w:World) (K:U5) (mg:Str->Option Value) (base:Heap) (CX:LO) (k:Nat) (f:Addr) (fd:FuncData) (ps:List Str) (sp:Sp):Prop where
 len:∀vs H Q E,sp vs H Q E->vs.length=ps.length
 run:∀(A:Around)(outer:List Env)(s:Shared)(H:Hp)(args:Args)(us:List Value)(vs:List V)(Q:VK)(E:XK),cj k A->xQ P w K mg base A outer s H->BindsTo s fd args (ps.zip us)->Vals vs us->sp vs H Q E ->
  codeAny (model P w) A (.call (.ref f) args) (CR CX outer P w H s Q E) s
variable{outer:List Env}{base:Heap}{mg:Str->Option Value}
def xQ.make{K:U5}(e:xQ P w K mg base A outer s H)(C:Addr)(us:List Value)(kw:List (Str×Value)):xQ P w K mg base (A.under (.builtin "type.__call__" ⟨.ref C::us,kw⟩)) outer s H:=⟨by first|exact e.frames|(simpa [acv,Code.envs,acw,pushEnvs] using e.frames),e.mod,e.bs,e.Hn,e.n5,e.JH,e.bJ,e.bare⟩
section
variable{s':Shared}
def Inv.hU(I:Inv X PZ σ H s):xQ X.prog X.w X.K X.mg X.base X.A X.stack s H :=
 ⟨I.ok.frames,I.ok.mod,I.bs,Vz I.ok.Hn I.sz,I.stack,I.tP,I.bJ,I.bare⟩
def Inv.after{Q:VK}(I:Inv X PZ σ H s)(h:CE X.stack X.prog X.w H s Q u s'):EP X PZ σ Q u s':=by
 obtain⟨v,H',os,bare,un,bJ,r,q⟩:=h;obtain⟨hh,g,d,t,os'⟩:=s';obtain rfl:os'=s.os:=os;exact⟨v,H',I.call (h':=hh) (g':=g) (d':=d) (t':=t) (ch:=[]) un bJ bare (λb z=>absurd z ↑13),r,q⟩
end
def Binds(K:U5)(fd:FuncData)(ps:List Str)(ds:List Value):Prop :=
 ∀(s:Shared)(us:List Value),K.In s.heap->(us++ds).length=ps.length->BindsTo s fd ⟨us,[]⟩ (ps.zip (us++ds))
variable{ps:List Str}{fd:FuncData}
def Binds.all{K:U5}(h:∀us:List Value,us.length=ps.length->bindArgs fd ⟨us,[]⟩=pure (ps.zip us)):Binds K fd ps []:=λs us _ hl=>by
 rw[Ww] at hl ⊢;exact .of_eq (h us hl)
variable{sp:Sp}{CX:LO}
section
variable{f:Addr}{QW:List V}{ds:List Value}{E:XK}{pos apos:Pos}{o:Expr}{t:TA}
structure Mk (K:U5) (C f:Addr):Prop where
 makes:ade K C=true
 init:V_ K (.ref C) "__init__"=some (some (.ref f))
 fn:aa7 K (.ref f)=true
 kp:Xc K (.ref C)=true
end
section
variable{f:Addr}{ks:List Str}{E:XK}{pos apos kpos:Pos}{o:Expr}{kws:List Keyword}{t tk:TA}{nm:Option Str}
variable{g:List Value->List Value->List Value}{gV:List V->List V->List V}
end
structure cH (N P:List Str) (sc:Scope):Prop where
 kind:sc.kind=.function
 co:sc.isCoroutine=false
 gen:sc.isGenerator=false
 nd:N.Nodup
 pre:N.take P.length=P
 par:∀x∈P,sc.names.lookup x=some .local\/sc.names.lookup x=some .cell
 KH:∀y∈sc.names,y.2≠.free
theorem sQ{kindOf:Str->Option NameKind}{x:Str}:∀{binds:List (Str×Value)}{m:Str->Option Value},(∀v,(x,v) ∉ binds)->bindL kindOf binds m x=m x
 | [],_,_=>rfl
 | (n,v)::r,m,h=>by
  unfold bindL;rw[sQ λw hw=>h w (Vi _ hw)]
  split
  .have:x≠n:=by rintro rfl;exact h v Vl
   simp[this]
  .rfl
theorem s_{kindOf:Str->Option NameKind}{x:Str}:∀{binds:List (Str×Value)}{m:Str->Option Value},(∀v,(x,v) ∉ binds)->bindC kindOf binds m x=m x
 | [],_,_=>rfl
 | (n,v)::r,m,h=>by
  unfold bindC;rw[s_ λw hw=>h w (Vi _ hw)]
  split
  .rfl
  .have:x≠n:=by rintro rfl;exact h v Vl
   simp[this]
theorem r9{kindOf:Str->Option NameKind}{x:Str}{v:Value}:∀{P:List Str}{vs:List Value}{i:Nat}{m:Str->Option Value},P.Nodup->P[i]?=some x->vs[i]?=some v->kindOf x=some .local ->bindL kindOf (P.zip vs) m x=some v
 | [],_,_,_,_,h,_,_=>by simp at h
 | _::_,[],_,_,_,_,h,_=>by simp at h
 | p::P,w::vs,0,m,nd,h1,h2,hk=>by
  simp at h1 h2;subst h1;subst h2;show bindL kindOf ((p,w)::P.zip vs) m p=_;unfold bindL;rw[sQ λv hv=>(Yy.mp nd).1 (WL hv).1,if_pos hk];simp
 | p::P,w::vs,i+1,m,nd,h1,h2,hk=>by
  show bindL kindOf ((p,w)::P.zip vs) m x=_;unfold bindL;exact r9 (i:=i) (Yy.mp nd).2 (by simpa using h1) (by simpa using h2) hk
theorem sX{kindOf:Str->Option NameKind}{x:Str}{v:Value}:∀{P:List Str}{vs:List Value}{i:Nat}{m:Str->Option Value},P.Nodup->P[i]?=some x->vs[i]?=some v->kindOf x≠some .local ->bindC kindOf (P.zip vs) m x=some v
 | [],_,_,_,_,h,_,_=>by simp at h
 | _::_,[],_,_,_,_,h,_=>by simp at h
 | p::P,w::vs,0,m,nd,h1,h2,hk=>by
  simp at h1 h2;subst h1;subst h2;show bindC kindOf ((p,w)::P.zip vs) m p=_;unfold bindC;rw[s_ λv hv=>(Yy.mp nd).1 (WL hv).1,if_neg hk];simp
 | p::P,w::vs,i+1,m,nd,h1,h2,hk=>by
  show bindC kindOf ((p,w)::P.zip vs) m x=_;unfold bindC;exact sX (i:=i) (Yy.mp nd).2 (by simpa using h1) (by simpa using h2) hk
def start(N:List Str)(vs:List V):St:=vs.map some++U6 (N.length-vs.length) none
def jO(CX:LO)(P:Program)(w:World)(K:U5)(mg:Str->Option Value)(base:Heap)(N:List Str)(qual:Str)(scope:Scope)(f:Addr)(cd:Value)(A:Around)(outer:List Env)(s:Shared)(H:Hp)(E:XK):Cx where
 prog:=P
 w:=w
 K:=K
 mg:=mg
 base:=base
 A:=A.deeper (envOfC qual scope s.heap.objs.size f cd)
 N:=N
 s₀:=s
 H₀:=H
 env:=envOfC qual scope s.heap.objs.size f cd
 outer:=outer
 stack:=envOfC qual scope s.heap.objs.size f cd::outer
 ex:=[]
 calm:=true
 fn:=λ_=>true
 pn:=[]
 xe:=λe s'=>wpAny (model P w) (A.deeper (envOfC qual scope s.heap.objs.size f cd)) (leaving (envOfC qual scope s.heap.objs.size f cd) e) (λ_ UZ=>CX outer H s E e UZ) (λe' UZ=>CX outer H s E e' UZ) s'
def vq{sc:Scope}(h:sc.names.lookup x=some .cell):∃c,(cellsFrom n sc.names []).lookup x=some c:=by
 have q:=aa9 sc.names n [] (.inl h);exact Y4.mp q
variable{scope:Scope}
theorem A0{K:U5}{qual:Str}{f:Addr}{cd:Value}{s1:Shared}{E:XK}{vs:List V}(S:cH N ps scope)(hd:A.handled=none)(e0:xQ P w K mg base A outer s H)(hl:vs.length=ps.length)(r:Vals vs us)(x:InCallC s s.heap.objs.size (bindL (envOfC qual scope s.heap.objs.size f cd).kindOf (ps.zip us) λ_=>none) (cellsFrom (s.heap.objs.size+1) scope.names []) (bindC (envOfC qual scope s.heap.objs.size f cd).kindOf (ps.zip us) λ_=>none) s1):Inv (jO CX P w K mg base N qual scope f cd A outer s H E) [] (start N vs) H s1:=by
 have QF:ps.length<=N.length:=by have:=congrArg Yc S.pre;rw[YN] at this;lia
 obtain⟨h1,tk,rfl,hk⟩:=x.done;have vC:∀b:Addr,b ∉ (jO CX P w K mg base N qual scope f cd A outer s H E).ex:=λb z=>absurd (show b∈([]:List Addr) from z) ↑13;refine⟨⟨e0.mod,S.kind,rfl,rfl,U9 _,λy z c h1 h2=>?_,λy hy=>?_,λy c _ h=>?_,λ_=>hd,Around.frames_deeper e0.frames,.inr ⟨rfl,rfl⟩,λb z=>absurd z (vC b),e0.bs,e0.Hn,λb _ _=>vC b,λb z=>absurd z (vC b),e0.n5,e0.JH⟩,
  rfl,e0.bare,Un.kept hk,⟨_,x.toInCall.ns,λi y v h1 h2 h3=>?_⟩,λy c h=>⟨_,x.cell y c h⟩,e0.bJ.fresh (U9 _),λy c h=>?_,λp hp=>absurd (show p∈([]:List (Addr×Obj)) from hp) ↑13,e0.bJ.kept hk,?_⟩
 .exact name_of_addr x.apart (Yo h1) (Yo h2)
 .have hy:scope.names.lookup y=some .cell\/scope.names.lookup y=some .free:=hy;rcases hy with hy|hy
  .exact vq hy
  .exact absurd rfl (S.KH _ (Yo hy))
 .exact X_ (x.above y c (Yo h))
 .have hi:i<vs.length:=by
   unfold start at h2
   by_cases hi:i<vs.length
   .exact hi
   .rw[VL (by simpa using hi)] at h2;rw[Zc] at h2
    split at h2<;>cases h2
  have ha:vs[i]?=some v:=by
   unfold start at h2;rw[VZ (by simpa using hi),VD] at h2;cases e:vs[i]? with
   | none=>rw[e] at h2;cases h2
   | some a=>rw[e] at h2;cases h2;rfl
  obtain⟨u,hu,rv⟩:=r.get ha;have hp:ps[i]?=some y:=by
   rwa[<- S.pre,List.getElem?_take_of_lt ⋯]
  have ndP:ps.Nodup:=by rw[<- S.pre];exact S.nd.sublist (List.take_sublist _ _)
  refine⟨u,rv,?_⟩;rcases S.par y (List.mem_of_getElem? hp) with k|k
  .exact .inl ⟨k,r9 ndP hp hu k⟩
  .obtain⟨c,e⟩:=vq (n:=s.heap.objs.size+1) k;refine .inr ⟨.inl k,c,e,?_⟩;have q:=x.cell y c e;rwa[sX ndP hp hu (by show scope.names.lookup y≠_;rw[k];decide)] at q
 .exact e0.bJ.fresh (X_ (x.above y c (Yo h)))
 .unfold start;show _=N.length;rw[Vw,U8,ZA];lia
def M0{K:U5}{f:Addr}{name qual:Str}{params:Arguments}{dV kV doc pm Qf ct oc:Value}{an od:Option Addr}{Sm:Array (Option Value)}(lk:K.lookup f=some ⟨oc,od,.func (WA name qual params body scope dV kV doc pm an Qf ct),Sm⟩)(QI:Xy K Qf qual=true)(S:cH N ps scope)(len:∀vs H Q E,sp vs H Q E->vs.length=ps.length)(SD:∀(A:Around)(outer:List Env)(s:Shared)(H:Hp)(vs:List V)(Q:VK)(E:XK),cj k (A.deeper (envOfC qual scope s.heap.objs.size f Qf))->sp vs H Q E ->∃t,kr (jO CX P w K mg base N qual scope f Qf A outer s H E) body t/\t { nx:=λ_ H'=>Q .c_ H',rt:=Q } (start N vs) H):aW P w K mg base CX (k+1) f (WA name qual params body scope dV kV doc pm an Qf ct) ps sp:=by
 refine⟨len,λA outer s H args us vs Q E hr e0 hb r hsp=>?_⟩;have hl:=len _ _ _ _ hsp;have KX:K.In s.heap:=e0.mod.LH.keeps λb o e=>(e0.bs b o e).1;have lim:s.heap.NoLimit:=e0.mod.nolimit.keeps λb o e=>(e0.bs b o e).1;have UE:∀y∈ps.zip us,scope.names.lookup y.1=some .local\/(scope.names.lookup y.1=some .cell/\((cellsFrom (s.heap.objs.size+1) scope.names []).lookup y.1).isSome=true):=λ⟨n,v⟩ hy=>by
  rcases S.par n (WL hy).1 with q|q
  .exact .inl q
  .exact .inr ⟨q,aa9 _ _ _ (.inl q)⟩
 refine codeAny_call_function hr.depth (KX _ _ lk) rfl S.co S.gen rfl (PySem.W.codeRec_of KX QI) (hb _ _ _ _ ?_);refine wpAny_newFunctionEnv_cells S.kind UE λenv he s1 x=>?_;subst he;refine⟨lim.keeps x.toInCall.keep,codeAny_func ?_⟩;obtain⟨t,ht,hq⟩:=SD A outer s H vs Q E (hr.deeper _) hsp;have I:Inv (jO CX P w K mg base N qual scope f Qf A outer s H E) [] (start N vs) H s1:=A0 S hr.hd e0 hl r x;refine Xi (ht [] s1 (start N vs) H _ I hq) (λfl s' hs=>?_) λe s' hs=>hs;have fin:∀{σ':St}{H':Hp}{v:V}{u:Value},Inv (jO CX P w K mg base N qual scope f Qf A outer s H E) [] σ' H' s'->RelV v u->Q v H'->CE outer P w H s Q u s' :=
  λ{σ' H' v u} J rv q=>⟨v,H',J.os,J.bare,J.base,J.bJ,rv,q⟩
 cases fl with
 | ret u =>
  obtain⟨v,σ',H',J,rv,q⟩:=hs;exact fin J rv q
 | next =>
  obtain⟨σ',H',J,q⟩:=hs;exact fin (v:=V.c_) (u:=VU) J rfl q
 | brk =>
  obtain⟨_,_,_,q⟩:=hs;exact XO q
 | cont =>
  obtain⟨_,_,_,q⟩:=hs;exact XO q
section
variable{pos:Pos}{t:TA}{id T:String}{r:List V->Hp->VK->Prop}
def N2(r:List V->Hp->VK->Prop)(t:TA):TE:=fun σ H Q=>t σ H λvs H1=>r vs H1 Q
def lK(hc:cQ X (.builtin id) r)(hg:Gl X x)(hm:X.mg x=none)(hv:bootBuiltins x=some (.builtin id))(ha:PA X (e::es) t)(hn:autoParam (x ≠ "__name__") aD._auto_1)(RA:autoParam ↑7 aD._auto_1)(he:autoParam ↑0 aR._auto_1)(QF:autoParam ↑2 aR._auto_1):PE X (.Call (.Name x p) (e::es) [] pos) (N2 r t):=by
 intro PZ s σ H Q I h;refine Y_ (iW I hg hm hv ?_ hn RA);exact PyProof.Rows.callWith_builtin1 (cF (ha pos PZ s σ H _ I h) λus s1 ⟨vs,H1,I1,r1,q1⟩=>hc PZ s1 σ H1 vs us Q I1 r1 q1) he QF
def sS(hc:cQ X (.type T) r)(hg:Gl X x)(hm:X.mg x=none)(hv:bootBuiltins x=some (.type T))(ha:PA X (e::es) t)(hn:autoParam (x ≠ "__name__") aD._auto_1)(RA:autoParam ↑7 aD._auto_1)(he:autoParam ↑0 aR._auto_1)(QF:autoParam ↑2 aR._auto_1):PE X (.Call (.Name x p) (e::es) [] pos) (N2 r t):=by
 intro PZ s σ H Q I h;refine Y_ (iW I hg hm hv ?_ hn RA);exact Wj (cF (ha pos PZ s σ H _ I h) λus s1 ⟨vs,H1,I1,r1,q1⟩=>hc PZ s1 σ H1 vs us Q I1 r1 q1) he QF
end
end L2
namespace HT
open PySem PyProof.Rows
def lexLt:List Int->List Int->Bool
 | [],[]=>false
 | [],_::_=>true
 | _::_,[]=>false
 |x::xs,y::ys=>if x=y then lexLt xs ys else decide (x<y)
def bA(x y:Int)(xs ys:List Int):lexLt (x::xs) (y::ys)=if x=y then lexLt xs ys else decide (x<y):=rfl
def rH:lexLt [] []=false:=rfl
def p6(y:Int)(ys:List Int):lexLt [] (y::ys)=true:=rfl
def pX(x:Int)(xs:List Int):lexLt (x::xs) []=false:=rfl
def vG(A:Around)(s:Shared)(a:Int)(t:Tok)(c:Int)(u:Tok):∃e,SeqAt.EqAt A s (.int a t) (.int c u) e/\(e=true ↔ a=c) :=
 ⟨(a==c),SeqAt.EqAt.int_int a t c u,by simp⟩
def wK(A:Around)(s:Shared)(a:Int)(t:Tok)(c:Int)(u:Tok)(prog:Program)(w:World)(E:Value->Shared->Prop)(Q:Value->Shared->Prop)(h:Q (.bool (decide (a<c))) s):wpAny ↑11 A (richCompare .Lt (.int a t) (.int c u)) Q E s :=
 (PyProof.Rows.lt_int h:wpAny ↑11 A (compareOp .Lt (.int a t) (.int c u)) Q E s)
section
open PySem.SeqAt
open PySem.AutoSeq1 (wpAny_loadPart')
open PySem.MeetsSeq PySem.MeetsSeq2 PySem.MeetsSeq3
def rA(l b:Addr)(items QB:Array Value)(n n2:Nat)(dd S_:Option Addr)(sl TJ:Array (Option Value))(ns ms:List Int)(hi:IntsAre items.toList ns)(hj:IntsAre QB.toList ms):Meets (Builtin.«tuple.__lt__» ⟨[.ref l,.ref b],[]⟩) (λ_ R s=>s.heap.get? l=some { cls:=.type "tuple",dict:=dd,data:=.seq items n,slots:=sl }/\s.heap.get? b=some { cls:=.type "tuple",dict:=S_,data:=.seq QB n2,slots:=TJ } ∧R (.ok (.ret (.bool (lexLt ns ms)))) s) :=
 .of_wp λprog w A R s h=>by
  obtain⟨hp,g,d,tk,os⟩:=s;obtain⟨hl,hb,h⟩:=h;have f2:=Yh;have z1:items.size=ns.length:=by rw[<- hi.length];simp
  have z2:QB.size=ms.length:=by rw[<- hj.length];simp
  wp_walk using Yz hl,Yz hb,wpAny_forIn_list _ (λrest b s'=>b.1=none/\s'=⟨hp,g,d,tk,os⟩/\∃(vs ws:List Value)(Sw Sv:List Int),rest=vs.zip ws ∧
   IntsAre vs Sw/\IntsAre ws Sv/\Sw.length+QB.size=Sv.length+items.size/\R (.ok (.ret (.bool (lexLt Sw Sv)))) ⟨hp,g,d,tk,os⟩) _
  case turn =>
   rintro⟨y,x⟩ rest b s' ⟨hb',rfl,vs,ws,Sw,Sv,hz,hvi,hwi,hlen,hR⟩;cases hvi with
   | nil=>rw[aaD] at hz;cases hz
   | cons a t hvi' =>
    cases hwi with
    | nil=>rw[ach] at hz;cases hz
    | cons c u hwi' =>
     rw[Wq] at hz;injection hz with hyx BR
     injection hyx with hy hx
     subst hy hx;rw[bA] at hR;simp only[VF] at hlen;obtain⟨e,he,SG⟩:=vG A.in1 ⟨hp,g,d,tk,os⟩ a t c u;refine TZ (he prog w _ _ ?_);cases e with
     | true =>
      rw[if_pos (SG.mp rfl)] at hR
      wp_walk
      exact⟨rfl,rfl,_,_,_,_,BR,hvi',hwi',by lia,hR⟩
     | false =>
      rw[if_neg (λq=>absurd (SG.mpr q) VQ)] at hR;have hri:=wK A.in1 ⟨hp,g,d,tk,os⟩ a t c u prog w
      wp_walk using hri
      exact⟨_,rfl,by simpa using hR⟩
  case fin =>
   rintro⟨b1,b2⟩ s' ⟨hb',rfl,vs,ws,Sw,Sv,hz,hvi,hwi,hlen,hR⟩;simp only at hb';subst hb';have hv:lexLt Sw Sv=decide (items.size<QB.size):=by
    cases hvi with
    | nil =>
     cases hwi with
     | nil =>
      simp only[X7] at hlen;rw[rH];exact(decide_eq_false ⋯).symm
     | cons c u hw =>
      simp only[X7,VF] at hlen;rw[p6];exact(decide_eq_true ⋯).symm
    | cons a t hv =>
     cases hwi with
     | nil =>
      simp only[X7,VF] at hlen;rw[pX];exact(decide_eq_false ⋯).symm
     | cons c u hw =>
      rw[Wq] at hz;cases hz
   rw[hv] at hR
   wp_walk
   exact⟨_,rfl,by simpa [Builtin.Tuple.tupleCompareSizes] using hR⟩
  case h =>
   exact⟨rfl,rfl,items.toList,QB.toList,ns,ms,rfl,hi,hj,by lia,h⟩
end
variable{Q:Value->Shared->Prop}{items:Array Value}
section
variable{prog:Program}{w:World}{A:Around}{E:Value->Shared->Prop}{s:Shared}
def xS{l b:Addr}{QB:Array Value}{ns ms:List Int}(hl:IsTup s.heap l items)(hb:IsTup s.heap b QB)(hi:IntsAre items.toList ns)(hj:IntsAre QB.toList ms)(hu:A.units<cLine)(h:Q (.bool (lexLt ns ms)) s):wpAny ↑11 A (compareOp .Lt (.ref l) (.ref b)) Q E s:=by
 obtain⟨⟨cls,dd,data,sl⟩,ho,hc,n,hd⟩:=id hl;obtain⟨⟨Uk,S_,data2,TJ⟩,R3,Sr,n2,hd2⟩:=id hb;simp only at hc hd Sr hd2;subst hc hd Sr hd2;exact richCompare_meets_room (op:=.Lt) ⟨_,ho,rfl⟩ ⟨_,R3,rfl⟩ PySem.F.slot_tuple_lt PySem.F.entry_tuple_lt (PySem.F.args_tuple_lt_2 _ _) (rA l b items QB n n2 dd S_ sl TJ ns ms hi hj)
  ⟨ho,R3,show XD (lexLt ns ms)≠abP/\Q (.bool (lexLt ns ms)) s from ⟨(λx=>nomatch x),h⟩⟩ hu
def FF{t b:Addr}{vs ws:List Value}(ht:IsTup s.heap t vs.toArray)(hb:IsTup s.heap b ws.toArray)(hv:vs≠[])(h1:ws=[]->Q (.ref t) s)(h2:ws≠[]->Q (.ref s.heap.objs.size) { s with heap:=s.heap.push { cls:=.type "tuple",data:=.seq (vs++ws).toArray } })(hsz:vs.length+ws.length<=sizeLine):wpAny ↑11 A (binaryOp .Add (.ref t) (.ref b)) Q E s:=by
 obtain⟨⟨cls,dd,data,sl⟩,ho,hc,n,hd⟩:=id ht;obtain⟨⟨Uk,S_,data2,TJ⟩,R3,Sr,n2,hd2⟩:=id hb;simp only at hc hd Sr hd2;subst hc hd Sr hd2;have e:vs.toArray++ws.toArray=(vs++ws).toArray:=by simp
 by_cases hw:ws=[]
 .exact acy ⟨_,ho,rfl⟩ ⟨_,R3,rfl⟩ aaQ ab5 Zo Zd (Y5 _ _)
   (tuple_addW1 t b vs.toArray ws.toArray n n2 dd S_ sl TJ (by simpa using hv) (by simp[hw])) ⟨ho,R3,h1 hw⟩
 .refine acy ⟨_,ho,rfl⟩ ⟨_,R3,rfl⟩ aaQ ab5 Zo Zd (Y5 _ _)
   (tuple_addW2 t b vs.toArray ws.toArray n n2 dd S_ sl TJ (by simpa using hv) (by simpa using hw) (by rwa[Vg,Vg])) ⟨ho,R3,?_⟩
  rw[e];exact h2 hw
def da(n d:Nat):Option Int->Nat
 | none=>d
 |some v=>if v<0 then (v+(n:Int)).toNat else min v.toNat n
def C0(n d:Nat):da n d none=d:=rfl
theorem uY(n d k:Nat):da n d (some (k:Int))=min k n:=by
 show (if (k:Int)<0 then ((k:Int)+(n:Int)).toNat else min (k:Int).toNat n)=min k n;rw[if_neg ⋯,VE]
theorem Iz(n d:Nat)(hd:d<=n)(o:Option Int):da n d o<=n:=by
 cases o with
 | none=>exact hd
 | some v =>
  show (if v<0 then (v+(n:Int)).toNat else min v.toNat n)<=n
  by_cases hv:v<0
  .rw[if_pos hv];lia
  .rw[if_neg hv];exact aaR _ _
theorem zi(v:Int)(n d:Nat):(if v<0 then max (v+(n:Int)) 0 else min v (n:Int))=((da n d (some v):Nat):Int):=by
 show (if v<0 then max (v+(n:Int)) 0 else min v (n:Int))=(((if v<0 then (v+(n:Int)).toNat else min v.toNat n):Nat):Int)
 by_cases hv:v<0
 .simp only[if_pos hv];lia
 .simp only[if_neg hv];lia
theorem xg(lo hi:Option Int)(n:Nat):YX lo hi 1 (n:Int)=(((da n 0 lo:Nat):Int),((da n n hi:Nat):Int)):=by
 have h1:¬ ((1:Int)<0):=by lia
 unfold YX;simp only[h1,if_false];refine Prod.ext ?_ ?_
 .cases lo with
  | none=>rfl
  | some v=>exact zi v n 0
 .cases hi with
  | none=>rfl
  |some v=>exact zi v n n
theorem yc(i j:Nat):X4 (i:Int) (j:Int) 1=j-i:=by
 unfold X4;have h1:(1:Int)>0:=by lia
 simp only[h1,if_true,Int.ediv_one]
 split<;>lia
def qD{v:Value}{o:Option Int}{Q:Option Int->Shared->Prop}(p:IsPart v o)(h:Q o s):wpAny ↑11 A (Builtin.Slice.slicePartIndex v) Q E s:=by
 cases p with
 | none=>exact slicePart_none h
 |int i t=>exact slicePart_int h
def iR{sl:Addr}{vl vu:Value}{lo hi:Option Int}{n:Nat}{Q:Int×Int×Nat->Shared->Prop}(hs:s.heap.IsSliceOf sl vl vu .none)(pl:IsPart vl lo)(pu:IsPart vu hi)(h:Q (((da n 0 lo:Nat):Int),1,da n n hi-da n 0 lo) s):wpAny ↑11 A (aai (.ref sl) (pure (n:Int))) Q E s:=by
 obtain⟨os,T3,hcs,Uy⟩:=id hs;unfold aai Builtin.Slice.sliceFields;refine TZ (TZ (VO T3 Uy (x:=vl) rfl (TZ (VO T3 Uy (x:=vu) rfl (TZ (VO T3 Uy (x:=.none) rfl (U7 ?_)))))));refine TZ (slicePart_none ?_);show wpAny _ _ (if ((1:Int)==0)=true then _ else _) _ _ s;rw[if_neg ↑12];refine TZ (qD pl (TZ (qD pu (TZ (U7 ?_)))));show wpAny _ _ (match YX lo hi 1 (n:Int) with|(lo,hi)=>pure (lo,(1:Int),X4 lo hi 1)) _ _ s;rw[xg lo hi n];show wpAny _ _ (pure (((da n 0 lo:Nat):Int),(1:Int),X4 ((da n 0 lo:Nat):Int) ((da n n hi:Nat):Int) 1)) _ _ s;rw[yc];exact U7 h
theorem Cp(xs:Array Value)(i k:Nat):((Ve k).filterMap λ(m:Nat)=>xs[((i:Int)+(m:Int)*1).toNat]?).toArray=((xs.toList.drop i).take k).toArray:=by
 have e:(λ(m:Nat)=>xs[((i:Int)+(m:Int)*1).toNat]?)=λm=>xs[i+m]?:=by
  funext m
  have:((i:Int)+(m:Int)*1).toNat=i+m:=by lia
  rw[this]
 rw[e];have:=pick_run xs i k;rw[List.filterMap_map] at this;have e2:((λx=>xs[x]?)∘λx=>i+x)=λm=>xs[i+m]?:=rfl;rw[e2] at this;rw[this]
theorem lu{t sl:Addr}{vl vu:Value}{lo hi:Option Int}(ht:IsTup s.heap t items)(hs:s.heap.IsSliceOf sl vl vu .none)(pl:IsPart vl lo)(pu:IsPart vu hi)(hw:¬ (da items.size 0 lo=0/\da items.size items.size hi=items.size))(h:Q (.ref s.heap.objs.size) { s with heap:=s.heap.push { cls:=.type "tuple",data:=.seq ((items.toList.drop (da items.size 0 lo)).take (da items.size items.size hi-da items.size 0 lo)).toArray } })(hsz:items.size<=sizeLine):wpAny ↑11 A (getItem (.ref t) (.ref sl)) Q E s:=by
 have Sh:sizeOk (.seq ((items.toList.drop (da items.size 0 lo)).take (da items.size items.size hi-da items.size 0 lo)).toArray):=by
  show ((items.toList.drop (da items.size 0 lo)).take (da items.size items.size hi-da items.size 0 lo)).toArray.size<=sizeLine;rw[Vg,YN,Wy,VJ];lia
 have hj:da items.size items.size hi<=items.size:=Iz _ _ (U9 _) hi;obtain⟨os,T3,hcs,Uy⟩:=id hs;have hTs:s.TypeIs (.ref sl) "slice" := ⟨os,T3,hcs⟩
 unfold getItem
 try with_reducible refine Wx ?_
 first|refine TZ (U7 ?_)|skip
 refine TZ (wpAny_sequenceKey ht.typeIs ↑12 ?_);refine TZ (VY (name:=VS "__getitem__") ht.typeIs Wm
  (Wb Wm ht.typeIs entry_tuple_getitem ?_ (args_tuple_getitem _ _)))
 show wpAny _ _ (aaj (.ref t) >>= _) _ _ s;refine TZ (tupleItemsOf_ ht ?_);refine TZ (Zp hTs ?_);rw[if_pos ↑12];refine TZ (iR hs pl pu ?_);have hno:¬ ((((da items.size 0 lo:Nat):Int)==0&&(1:Int)==1&&(da items.size items.size hi-da items.size 0 lo)==items.size)=true):=by
  intro q;rw[Wg,Wg] at q;have q1:((da items.size 0 lo:Nat):Int)=0:=eq_of_beq q.1.1;have q2:da items.size items.size hi-da items.size 0 lo=items.size:=eq_of_beq q.2;exact hw ⟨by lia,by lia⟩
 show wpAny _ _ (if (((da items.size 0 lo:Nat):Int)==0&&(1:Int)==1&&(da items.size items.size hi-da items.size 0 lo)==items.size)=true then _ else _) _ _ s;rw[if_neg hno,Cp]
 first
  | exact TZ (m:=Yi _) (Wd (U7 ⟨_,rfl,U7 h⟩) Sh)
  | exact TZ (m:=Yi _) (Wd (TZ (U7 (U7 ⟨_,rfl,U7 h⟩))) Sh)
  | exact TZ (TZ (m:=Yi _) (Wd (U7 (U7 ⟨_,rfl,U7 h⟩)) Sh))
  |exact TZ (TZ (m:=Yi _) (Wd (U7 ⟨_,rfl,U7 h⟩) Sh))
end
end HT
namespace L2
open PySem PySem.Spec PyProof.Rows
abbrev TO:=St->Hp->(Option Int->Hp->Prop)->Prop
def PO(X:Cx)(e:Option Expr)(t:TO):Prop :=
 ∀ (PZ:List (Addr×Obj)) (s:Shared) (σ:St) (H:Hp) (Q:Option Int->Hp->Prop),Inv X PZ σ H s->t σ H Q ->
  wpAny ↑8 X.A (evalPart e X.env) (λu s'=>∃o H',Inv X PZ σ H' s'/\IsPart u o/\Q o H') X.xe s
def G6:TO:=λ_ H Q=>Q none H
def MO(t:TE):TO:=fun σ H Q=>t σ H λx H1=>∃i,x=.int i/\Q (some i) H1
def intsAre_of{ns:List Int}:∀{us:List Value},Vals (ns.map V.int) us->IntsAre us ns:=by
 induction ns with
 | nil=>intro us r;rw[Z9] at r;cases r;exact .nil
 | cons n ns ih =>
  intro us r;rw[Vu] at r;cases r with
  | cons r1 r2 =>
   obtain⟨t,e⟩:=r1;subst e;exact .cons n t (ih r2)
variable{e:Expr}{X:Cx}
variable{r:V->Option Int->Option Int->Hp->VK->Prop}
section
variable{te:TE}{lo hi:Option Expr}{tl th:TO}{pos p2:Pos}
def Fm:PO X none G6:=by
 intro PZ s σ H Q I h;rw[evalPart_none];exact U7 ⟨none,H,I,.none,h⟩
def Fl(h:PE X e te):PO X (some e) (MO te):=by
 intro PZ s σ H Q I hw;rw[evalPart_some];refine cF (h PZ s σ H _ I hw) λu s1 ⟨x,H1,I1,r1,q1⟩=>?_;obtain⟨i,rfl,q⟩:=q1;obtain⟨t,rfl⟩:=r1;exact⟨some i,H1,I1,.int i t,q⟩
def EW(X:Cx)(r:V->Option Int->Option Int->Hp->VK->Prop):Prop :=
 ∀ (PZ:List (Addr×Obj)) (s:Shared) (σ:St) (H:Hp) (x:V) (v vl vu:Value) (lo hi:Option Int) (sl:Addr) (Q:VK),Inv X PZ σ H s->RelV x v->s.heap.IsSliceOf sl vl vu .none->IsPart vl lo->IsPart vu hi->r x lo hi H Q ->
  ∃T id,typeLookup (.type T) "__getitem__"=pure (some (.builtin id))/\s.TypeIs v T/\wpAny ↑8 X.A (getItem v (.ref sl)) (EP X PZ σ Q) X.xe s
def EW.or{r':V->Option Int->Option Int->Hp->VK->Prop}(h:EW X r)(h':EW X r'):EW X (λx lo hi H Q=>r x lo hi H Q\/r' x lo hi H Q):=by
 intro PZ s σ H x v vl vu lo hi sl Q I rx hs pl pu q;rcases q with q|q
 .exact h PZ s σ H x v vl vu lo hi sl Q I rx hs pl pu q
 .exact h' PZ s σ H x v vl vu lo hi sl Q I rx hs pl pu q
def PB(r:V->Option Int->Option Int->Hp->VK->Prop)(te:TE)(tl th:TO):TE:=fun σ H Q=>te σ H λx H1=>tl σ H1 λl H2=>th σ H2 λu H3=>r x l u H3 Q
def DF(hr:EW X r)(he:PE X e te)(hl:PO X lo tl)(hu:PO X hi th):PE X (.Subscript e (.Slice lo hi none p2) pos) (PB r te tl th):=by
 intro PZ s σ H Q I h;refine Subscript_ (cF (he PZ s σ H _ I h) λv s1 ⟨x,H1,I1,r1,q1⟩=>?_);refine wpAny_Slice (cF (hl PZ s1 σ H1 _ I1 q1) λvl s2 ⟨l,H2,I2,pl,q2⟩=>cF (hu PZ s2 σ H2 _ I2 q2) λvu s3 ⟨u,H3,I3,pu,q3⟩=>?_);rw[evalPart_none];refine U7 ?_;have I4:Inv X PZ σ H3 { s3 with heap:=s3.heap.push { cls:=.type "slice",data:=.fields #[vl,vu,.none] } }:=I3.kept (t':=s3.toks) λb ob q=>U3 _ q;obtain⟨T,id,hT,ht,hg⟩:=hr PZ { s3 with heap:=s3.heap.push { cls:=.type "slice",data:=.fields #[vl,vu,.none] } } σ H3 x v vl vu l u s3.heap.objs.size Q I4 r1 (Heap.IsSliceOf.new ..) pl pu q3;show wpAny ↑8 X.A (subscriptTail e (.Slice lo hi none p2) v (.ref s3.heap.objs.size)) (EP X PZ σ Q) X.xe { s3 with heap:=s3.heap.push { cls:=.type "slice",data:=.fields #[vl,vu,.none] } };exact tail_any (ops:=[.ref s3.heap.objs.size,v]) ht hT hg (by with_unfolding_all rfl)
def vi(xs:List V)(lo hi:Option Int):List V:=(xs.drop (HT.da xs.length 0 lo)).take (HT.da xs.length xs.length hi-HT.da xs.length 0 lo)
theorem nq(xs:List V)(lo hi:Option Int):(vi xs lo hi).length<=xs.length:=by
 unfold vi;rw[YN,Wy];lia
def OX(K:U5):V->Option Int->Option Int->Hp->VK->Prop:=λx lo hi H Q=>∃a xs,x=.ref a/\gm K H a xs ∧
 ¬ (HT.da xs.length 0 lo=0/\HT.da xs.length xs.length hi=xs.length)/\∀p,H p=none->Q (.ref p) (upd H p (.tup (vi xs lo hi)))
def Ks:EW X (OX X.K):=by
 intro PZ s σ H x v vl vu lo hi sl Q I rx hs pl pu h;obtain⟨a,xs,rfl,hx,hw,q⟩:=h;cases rx;obtain⟨P7,r,ht,hz⟩:=I.tuple hx;have hlen:P7.toArray.size=xs.length:=by rw[Vg];exact r.length.symm
 refine⟨"tuple",_,Wm.lookup,ht.typeIs,?_⟩;refine HT.lu ht hs pl pu (by rwa[hlen]) ?_ (by rwa[hlen]);rw[hlen];refine⟨.ref s.heap.objs.size,_,I.laid (t':=s.toks) (o:=.tup (vi xs lo hi)) (λb ob q=>U3 _ q) (U9 _) ?_,rfl,q _ (I.bJ.fresh (U9 _))⟩;exact⟨Vz (nq xs lo hi) hz,_,(r.drop (HT.da xs.length 0 lo)).take (HT.da xs.length xs.length hi-HT.da xs.length 0 lo),ab1 _ _⟩
def HF(K:U5):R2:=λx y H Q=>∃a b xs ys,x=.ref a/\y=.ref b/\gm K H a xs/\gm K H b ys/\xs≠[]/\xs.length+ys.length<=sizeLine ∧
 (ys=[]->Q (.ref a) H)/\(ys≠[]->∀p,H p=none->Q (.ref p) (upd H p (.tup (xs++ys))))
def Vals.lx{xs:List V}{us:List Value}(r:Vals xs us):us=[] ↔ xs=[]:=by
 cases r with
 | nil=>simp
 |cons _ _=>simp
def GG:hX X (binaryOp .Add) (HF X.K):=by
 intro PZ s σ H x y v u Q I rx ry h;obtain⟨a,b,xs,ys,rfl,rfl,ha,hb,hx,hz,q1,q2⟩:=h;cases rx;cases ry;obtain⟨P7,r1,p1,_⟩:=I.tuple ha;obtain⟨QU,r2,p2,_⟩:=I.tuple hb;refine HT.FF p1 p2 (λz=>hx (r1.lx.mp z)) (λz=>⟨.ref a,H,I,rfl,q1 (r2.lx.mp z)⟩) (λz=>?_) (by rwa[<- r1.length,<- r2.length]);refine⟨.ref s.heap.objs.size,_,I.laid (t':=s.toks) (o:=.tup (xs++ys)) (λb ob q=>U3 _ q) (U9 _) ?_,rfl,q2 (λw=>z (r2.lx.mpr w)) _ (I.bJ.fresh (U9 _))⟩;exact⟨by rwa[Vw],_,r1.append r2,ab1 _ _⟩
end
def Bj(n:Nat)(i:Int):Option Nat:=if 0<=i then (if i<n then some i.toNat else none) else if -(n:Int)<=i then some (i+n).toNat else none
variable{α:Type}
def vh(xs:List α)(i:Int):Option α:=(Bj xs.length i).bind λj=>xs[j]?
variable{j n:Nat}{i:Int}
theorem yA(h:Bj n i=some j):seqIndex? i n=some j/\j<n/\-(n:Int)<=i/\i<n:=by
 unfold Bj at h
 by_cases h0:0<=i
 .rw[if_pos h0] at h
  by_cases h1:i<n
  .rw[if_pos h1] at h;have e:i.toNat=j:=Vk h;exact⟨by rw[seqIndex_of h0 h1,e],by lia,by lia,h1⟩
  .rw[if_neg h1] at h;cases h
 .rw[if_neg h0] at h
  by_cases h1:-(n:Int)<=i
  .rw[if_pos h1] at h;have e:(i+n).toNat=j:=Vk h;exact⟨by rw[acz ⋯ h1,e],by lia,h1,by lia⟩
  .rw[if_neg h1] at h;cases h
def ua{xs:List α}{v:α}(h:vh xs i=some v):∃j,seqIndex? i xs.length=some j/\xs[j]?=some v/\j<xs.length/\-(xs.length:Int)<=i/\i<xs.length:=by
 unfold vh at h;cases e:Bj xs.length i with
 | none=>rw[e] at h;cases h
 | some j =>
  rw[e] at h;obtain⟨h1,h2,h3,h4⟩:=yA e;exact⟨j,h1,h,h2,h3,h4⟩
theorem tQ{xs:List α}{v:α}(h:xs[j]?=some v):vh xs (j:Int)=some v:=by
 have hj:j<xs.length:=(VI.mp h).1;have e:Bj xs.length (j:Int)=some j:=by
  unfold Bj;rw[if_pos ⋯,if_pos ⋯];simp
 unfold vh;rwa[e]
def tV(b:Expr):Prop:=∀o i,subscripted b false o i=operate [o,i] (getItem o i)
def FO(X:Cx)(r:R2):Prop :=
 ∀ (value slice:Expr) (PZ:List (Addr×Obj)) (s:Shared) (σ:St) (H:Hp) (x y:V) (v u:Value) (Q:VK),Inv X PZ σ H s->RelV x v->RelV y u->r x y H Q ->
  subscripted slice false v u=operate [v,u] (getItem v u)->wpAny ↑8 X.A (subscriptTail value slice v u) (EP X PZ σ Q) X.xe s
def O6(X:Cx)(id:String)(r:V->List V->Hp->VK->Prop):Prop :=
 ∀ (PZ:List (Addr×Obj)) (s:Shared) (σ:St) (H:Hp) (x:V) (xs:List V) (v:Value) (us:List Value) (Q:VK),Inv X PZ σ H s->RelV x v->Vals xs us->r x xs H Q ->
  wpAny ↑8 X.A (call (.builtin id) (v::us)) (EP X PZ σ Q) X.xe s
variable{P7:List Value}{s:Shared}{H:Hp}{σ:St}{PZ:List (Addr×Obj)}
section
variable{a b:Expr}{ta tb:TE}{pos:Pos}
def FO.or{r r':R2}(h:FO X r)(h':FO X r'):FO X (λx y H Q=>r x y H Q\/r' x y H Q):=by
 intro value slice PZ s σ H x y v u Q I rx ry q hs;rcases q with q|q
 .exact h value slice PZ s σ H x y v u Q I rx ry q hs
 .exact h' value slice PZ s σ H x y v u Q I rx ry q hs
def MA{r:R2}(hr:FO X r)(ha:PE X a ta)(hb:PE X b tb)(hs:tV b):PE X (.Subscript a b pos) (LP r ta tb):=by
 intro PZ s σ H Q I h;exact Subscript_ (JZ ha hb I h λv u s2 x y H2 I2 rx ry q=>hr a b PZ s2 σ H2 x y v u Q I2 rx ry q (hs _ _))
def NC(K:U5):R2:=λx y H Q=>∃p xs i v,x=.ref p/\y=.int i/\gR K H p xs/\vh xs i=some v/\Q v H
def M6(K:U5):R2:=λx y H Q=>∃p xs i v,x=.ref p/\y=.int i/\gm K H p xs/\vh xs i=some v/\Q v H
def L5:R2:=λx y H Q=>∃z i c,x=.str z/\y=.int i/\z.length<=sizeLine/\vh z.cps.toList i=some c/\Q (.str ⟨#[c]⟩) H
theorem Gk:FO X (NC X.K):=by
 intro value slice PZ s σ H x y v u Q I rx ry h hs;obtain⟨p,xs,i,z,rfl,rfl,hq,he,q⟩:=h;cases rx;obtain⟨t,rfl⟩:=ry;obtain⟨P7,r,pl,hz⟩:=I.list hq;obtain⟨j,h1,h2,h3,h4,h5⟩:=ua he;obtain⟨w,ew,RO⟩:=r.get h2;have hl:=r.length;have hn:=mG;have fin:EP X PZ σ Q w s:=⟨z,H,I,RO,q⟩
 by_cases h0:0<=i
 .have hj:i.toNat=j:=by
   rw[seqIndex_of h0 h5] at h1;exact Vk h1
  exact item_listR pl.isList h0 ⋯ (by rw[hj];simpa using ew) fin hs
 .have hj:(i+(P7.toArray.size:Int)).toNat=j:=by
   rw[acz ⋯ h4] at h1;rw[Vg,<- hl];exact Vk h1
  exact aa_ (x:=w) pl.isList.typeIs slot_list_getitem.lookup
   (wpAny_getItem_list_neg (Q:=λr s'=>r=w/\EP X PZ σ Q r s') pl.isList ⋯ (by rw[Vg]<;>lia) ⋯ (by rw[hj];simpa using ew) ⟨rfl,fin⟩) hs
theorem LD:FO X (M6 X.K):=by
 intro value slice PZ s σ H x y v u Q I rx ry h hs;obtain⟨p,xs,i,z,rfl,rfl,hq,he,q⟩:=h;cases rx;obtain⟨t,rfl⟩:=ry;obtain⟨P7,r,pl,hz⟩:=I.tuple hq;obtain⟨j,h1,h2,h3,h4,h5⟩:=ua he;obtain⟨w,ew,RO⟩:=r.get h2;have hl:=r.length;have hn:=mG;have fin:EP X PZ σ Q w s:=⟨z,H,I,RO,q⟩
 exact aa_ (x:=w) pl.typeIs slot_tuple_getitem.lookup
  (getItem_tuple (j:=j) (Q:=λr s'=>r=w/\EP X PZ σ Q r s') pl ⋯ ⋯ (by rwa[Vg,<- hl]) (by simpa using ew) ⟨rfl,fin⟩) hs
theorem Ky:FO X L5:=by
 intro value slice PZ s σ H x y v u Q I rx ry h hs;obtain⟨z,i,c,rfl,rfl,hz,he,q⟩:=h;obtain⟨t,rfl⟩:=rx;obtain⟨t',rfl⟩:=ry;obtain⟨j,h1,h2,h3,h4,h5⟩:=ua he;have hl:z.cps.toList.length=z.length:=by simp[Str.length]
 rw[hl] at h1 h4 h5;have hn:=mG;exact tail_any (typeIs_str s z t) slot_str_getitem.lookup (getItem_str (c:=c) (by
  have e1:decide (i < -(2^63:Int))=false:=decide_eq_false ⋯;have e2:decide (i>=2^63)=false:=decide_eq_false ⋯;rw[e1,e2,Bool.or_false]) (by rw[h1];simpa using h2) ⟨.str ⟨#[c]⟩,H,I.tok _,⟨_,rfl⟩,q⟩) hs
def O8(K:U5):R2:=λx y H Q=>NC K x y H Q\/M6 K x y H Q\/L5 x y H Q
def KC:FO X (O8 X.K):=Gk.or (LD.or Ky)
def xO(P7:List Value)(n j:Nat)(u:Value):WG (·.setIfInBounds j u) { cls:=.type "list",data:=.seq P7.toArray n }={ cls:=.type "list",data:=.seq (P7.set j u).toArray n }:=by
 simp[WG]
theorem Inv.lst{PZ:List (Addr×Obj)}{σ:St}{H:Hp}{s:Shared}{p:Addr}{xs:List V}(I:Inv X PZ σ H s)(h:H p=some (.lst xs)):∃(P7:List Value)(n:Nat),Vals xs P7/\s.heap.get? p=some { cls:=.type "list",data:=.seq P7.toArray n }/\xs.length<=sizeLine:=by
 obtain⟨z,P7,n,r,e⟩:=I.bJ p _ h;exact⟨P7,n,r,e,z⟩
def Inv.JC{p:Addr}{xs ys:List V}{its':List Value}{n':Nat}{f:Obj->Obj}(I:Inv X PZ σ H s)(h:H p=some (.lst xs))(ho:s.heap.get? p=some { cls:=.type "list",data:=.seq P7.toArray n })(hf:f { cls:=.type "list",data:=.seq P7.toArray n }={ cls:=.type "list",data:=.seq its'.toArray n' })(r:Vals ys its')(hz:ys.length<=sizeLine)(t:Nat):Inv X PZ σ (upd H p (.lst ys)) { s with heap:=s.heap.update p f,toks:=t }:=by
 have e:(s.heap.update p f).get? p=some { cls:=.type "list",data:=.seq its'.toArray n' }:=by
  rw[V1 f ho (by rw[hf]<;>rfl),hf]
 refine I.write (x:=p) (e:=p) (by rw[h];trivial) (.inl rfl) (λb u hb q=>(Vv _ _ (WW hb)).trans q) ⟨_,e⟩ ?_;exact⟨hz,its',n',r,e⟩
def Nt:V->V->V->Hp->(Hp->Prop)->Prop:=λo i v H Q=>∃p xs k j,o=.ref p/\i=.int k/\H p=some (.lst xs)/\Bj xs.length k=some j/\Q (upd H p (.lst (xs.set j v)))
theorem set_list:Nb X Nt:=by
 intro PZ s σ H o i v ov iv u Q I ro ri rv h;obtain⟨p,xs,k,j,rfl,rfl,hp,hj,q⟩:=h;cases ro;obtain⟨t,rfl⟩:=ri;obtain⟨P7,n,r,ho,hz⟩:=I.lst hp;obtain⟨h1,h2,h3,h4⟩:=yA hj;have hl:=r.length;have hn:=mG;have I':Inv X PZ σ (upd H p (.lst (xs.set j v))) { s with heap:=s.heap.update p (WG (·.setIfInBounds j u)) } :=
  I.JC hp ho (xO P7 n j u) (r.set rv j) (by rwa[ZX]) s.toks
 by_cases h0:0<=k
 .have hk:k.toNat=j:=by
   rw[seqIndex_of h0 h4] at h1;exact Vk h1
  exact PySem.W.ki_setAt ho h0 ⋯ (by rwa[Vg,<- hl]) (by rw[hk];exact⟨_,I',q⟩)
 .have hk:(k+(P7.toArray.size:Int)).toNat=j:=by
   rw[acz ⋯ h3] at h1;rw[Vg,<- hl];exact Vk h1
  exact PySem.W.ki_setBack ho ⋯ (by rwa[Vg,<- hl]) ⋯ (by rw[hk];exact⟨_,I',q⟩)
theorem t6(lo hi:Option Int)(n:Nat):(sliceBounds lo hi none n).1=((HT.da n 0 lo:Nat):Int)/\(sliceBounds lo hi none n).2.1=((HT.da n n hi:Nat):Int)/\(sliceBounds lo hi none n).2.2=1:=by
 refine⟨?_,?_,rfl⟩
 .cases lo with
  | none=>simp[sliceBounds,HT.da]
  | some i =>
   simp only[sliceBounds,HT.da,acS,show (1:Int)>0 by decide,if_true]
   by_cases h:i<0
   .simp only[h,if_true]<;>lia
   .simp only[h,if_false]<;>lia
 .cases hi with
  | none=>simp[sliceBounds,HT.da]
  | some i =>
   simp only[sliceBounds,HT.da,acS,show (1:Int)>0 by decide,if_true]
   by_cases h:i<0
   .simp only[h,if_true]<;>lia
   .simp only[h,if_false]<;>lia
def rK(P7:List Value)(lo hi:Option Int):slicePick P7.toArray lo hi none=((P7.drop (HT.da P7.length 0 lo)).take (HT.da P7.length P7.length hi-HT.da P7.length 0 lo)).toArray:=by
 obtain⟨h1,h2,h3⟩:=t6 lo hi P7.toArray.size;unfold slicePick;rw[h1,h2,h3];simp only[sliceRange_one,pick_run,Vg]<;>rfl
def N3(K:U5):V->Option Int->Option Int->Hp->VK->Prop:=λx lo hi H Q=>∃a xs,x=.ref a/\gR K H a xs/\∀p,H p=none->Q (.ref p) (upd H p (.lst (vi xs lo hi)))
theorem Gu:EW X (N3 X.K):=by
 intro PZ s σ H x v vl vu lo hi sl Q I rx hs pl pu h;obtain⟨a,xs,rfl,hx,q⟩:=h;cases rx;obtain⟨P7,r,ht,hz⟩:=I.list hx;have hlen:=r.length;refine⟨"list",_,slot_list_getitem.lookup,ht.isList.typeIs,?_⟩;refine wpAny_getItem_list_slice ht.isList hs pl pu .none ↑13 ?_ (by rw[Vg]<;>lia);rw[rK,<- hlen];refine⟨.ref s.heap.objs.size,_,I.laid (t':=s.toks) (o:=.lst (vi xs lo hi)) (λb ob q=>U3 _ q) (U9 _) ?_,rfl,q _ (I.bJ.fresh (U9 _))⟩;exact⟨Vz (nq xs lo hi) hz,_,0,(r.drop (HT.da xs.length 0 lo)).take (HT.da xs.length xs.length hi-HT.da xs.length 0 lo),U_ _ rfl⟩
theorem tq:cQ X (.builtin "len") (λxs H Q=>∃p ys,xs=[.ref p]/\(gR X.K H p ys\/gm X.K H p ys)/\Q (.int ys.length) H):=by
 intro PZ s σ H xs us Q I r h;obtain⟨p,ys,rfl,hq,q⟩:=h;obtain⟨u,rfl,rx⟩:=vals1 r;cases rx;have hn:=mG;rcases hq with hq|hq
 .obtain⟨P7,r',pl,hz⟩:=I.list hq;have hlen:=r'.length;exact Calls.call_len_list pl.isList (by simp only[Vg]<;>lia) ⟨.int ys.length,H,I.tok _,⟨s.toks+1,by rw[Vg,hlen]⟩,q⟩
 .obtain⟨P7,r',pl,hz⟩:=I.tuple hq;have hlen:=r'.length;exact len_tuple pl (by simp only[Vg]<;>lia) ⟨.int ys.length,H,I.tok _,⟨s.toks+1,by rw[Vg,hlen]⟩,q⟩
theorem uf:cQ X (.builtin "len") (λxs H Q=>∃z,xs=[.str z]/\z.length<=sizeLine/\Q (.int z.length) H):=by
 intro PZ s σ H xs us Q I r h;obtain⟨z,rfl,hz,q⟩:=h;obtain⟨u,rfl,t,rfl⟩:=vals1 r;have hn:=mG;exact len_str ⋯ ⟨.int z.length,H,I.tok _,⟨_,rfl⟩,q⟩
def cQ.or{f:Value}{r r':List V->Hp->VK->Prop}(h:cQ X f r)(h':cQ X f r'):cQ X f (λxs H Q=>r xs H Q\/r' xs H Q):=by
 intro PZ s σ H xs us Q I rs q;rcases q with q|q
 .exact h PZ s σ H xs us Q I rs q
 .exact h' PZ s σ H xs us Q I rs q
theorem uc:cQ X (.type "list") (λxs H Q=>∃p ys,xs=[.ref p]/\(gR X.K H p ys\/gm X.K H p ys)/\∀l,H l=none->Q (.ref l) (upd H l (.lst ys))):=by
 intro PZ s σ H xs us Q I r h;obtain⟨p,ys,rfl,hq,q⟩:=h;obtain⟨u,rfl,rx⟩:=vals1 r;cases rx;have fin:∀(P7:List Value),Vals ys P7->ys.length<=sizeLine->∀(h':Heap)(c':Nat),(∀b o',s.heap.get? b=some o'->h'.get? b=some o') ->
   h'.get? s.heap.objs.size=some { cls:=.type "list",dict:=none,data:=.seq P7.toArray c',slots:=#[] }->EP X PZ σ Q (.ref s.heap.objs.size) { s with heap:=h' }:=λP7 r' hz h' c' kp e =>
  ⟨.ref s.heap.objs.size,_,I.laid (t':=s.toks) kp (U9 _) (show bG X.prog X.w _ h' _ (.lst ys) from ⟨hz,P7,c',r',e⟩),rfl,q _ (I.bJ.fresh (U9 _))⟩
 rcases hq with hq|hq
 .obtain⟨P7,r',pl,hz⟩:=I.list hq;have hlen:=r'.length;obtain⟨o,ho,hc,n,hd⟩:=pl.isList;exact call_list_seq p (.inl rfl) ho hc hd (λh' c' kp e=>fin P7 r' hz h' c' kp e) (by simp only[Vg]<;>lia)
 .obtain⟨P7,r',pl,hz⟩:=I.tuple hq;have hlen:=r'.length;obtain⟨o,ho,hc,n,hd⟩:=pl;exact call_list_seq p (.inr rfl) ho hc hd (λh' c' kp e=>fin P7 r' hz h' c' kp e) (by simp only[Vg]<;>lia)
theorem rf:cQ X (.type "tuple") (λxs H Q=>∃p ys,xs=[.ref p]/\((gR X.K H p ys/\∀l,H l=none->Q (.ref l) (upd H l (.tup ys)))\/(gm X.K H p ys/\Q (.ref p) H))):=by
 intro PZ s σ H xs us Q I r h;obtain⟨p,ys,rfl,h⟩:=h;obtain⟨u,rfl,rx⟩:=vals1 r;cases rx;rcases h with ⟨hq,q⟩|⟨hq,q⟩
 .obtain⟨P7,r',pl,hz⟩:=I.list hq;have hlen:=r'.length;refine call_tuple_list pl.isList (λh' kp=>?_) (by simp only[Vg]<;>lia);have I1:Inv X PZ σ H { s with heap:=h' }:=I.kept (t':=s.toks) kp;have I2:Inv X PZ σ (upd H h'.objs.size (.tup ys)) { s with heap:=h'.push { cls:=.type "tuple",data:=.seq P7.toArray } } :=
   I1.laid (t':=s.toks) (λb o e=>U3 _ e) (U9 _) (show bG X.prog X.w _ _ _ (.tup ys) from ⟨hz,P7,r',ab1 _ _⟩)
  exact⟨.ref h'.objs.size,_,I2,rfl,q _ (I1.bJ.fresh (U9 _))⟩
 .obtain⟨P7,r',pl,hz⟩:=I.tuple hq;exact call_tuple_same pl ⟨.ref p,H,I,rfl,q⟩
def Of(K:U5)(T:String)(x:V)(H:Hp):Prop:=match x with
 | .str _=>T="str"
 | .int _=>T="int"
 | .ref p=>(T="list" /\ ∃xs,gR K H p xs)\/(T="tuple" /\ ∃o,K.lookup p=some o/\o.cls=.type "tuple" /\ o.dict=none) ∨
   (T="dict" /\ ((∃P5,H p=some (.dK P5))\/∃P5,H p=some (.dT P5)))\/(T="set" /\ ∃S n,H p=some (.set S n))
 |_=>False
def CL{T:String}{x:V}{v:Value}(I:Inv X PZ σ H s)(r:RelV x v)(ty:Of X.K T x H):s.TypeIs v T/\∀a,v=.ref a->∃ob,s.heap.get? a=some ob/\ob.dict=none:=by
 cases x with
 | str z =>
  obtain⟨t,rfl⟩:=r;cases (show T="str" from ty);exact⟨typeIs_str s z t,λ_ e=>nomatch e⟩
 | int i =>
  obtain⟨t,rfl⟩:=r;cases (show T="int" from ty);exact⟨aba s i t,λ_ e=>nomatch e⟩
 | ref p =>
  cases r;rcases ty with ⟨rfl,xs,hq⟩|⟨rfl,o,hk,hc,hd⟩|⟨rfl,hk⟩|⟨rfl,S,n,hk⟩
  .obtain⟨P7,_,pl,_⟩:=I.list hq;refine⟨pl.isList.typeIs,λa e=>?_⟩;cases e;obtain⟨o,n,e,c,hd,_⟩:=pl;exact⟨o,e,hd⟩
  .refine⟨⟨o,I.mh p o hk,hc⟩,λa e=>?_⟩;cases e;exact⟨o,I.mh _ o hk,hd⟩
  .have z:∃o,s.heap.get? p=some o/\o.ExactDict:=by
    rcases hk with ⟨P5,hk⟩|⟨P5,hk⟩
    .obtain⟨_,_,_,_,o,_,_,e,ex,_⟩:=I.bJ p _ hk;exact⟨o,e,ex⟩
    .obtain⟨_,_,_,_,o,_,_,e,ex,_⟩:=I.bJ p _ hk;exact⟨o,e,ex⟩
   obtain⟨o,e,ex⟩:=z;refine⟨⟨o,e,ex.1⟩,λa e2=>?_⟩;cases e2;exact⟨o,e,ex.2.1⟩
  .obtain⟨o,_,_,_,e,ex,_⟩:=I.bJ p _ hk;refine⟨⟨o,e,ex.1⟩,λa e2=>?_⟩;cases e2;exact⟨o,e,ex.2.1⟩
 |_=>exact XO ty
def Oz(K:U5)(T:String)(r:V->List V->Hp->VK->Prop)(to:TE):TE:=fun σ H Q=>to σ H λx H1=>Of K T x H1/\r x [] H1 Q
def Pk(K:U5)(T:String)(r:V->List V->Hp->VK->Prop)(to:TE)(t:TA):TE:=fun σ H Q=>to σ H λx H1=>Of K T x H1/\t σ H1 λxs H2=>r x xs H2 Q
variable{o:Expr}{es:List Expr}{to:TE}{t:TA}{name:Str}{apos Qj:Pos}{T id:String}{r:V->List V->Hp->VK->Prop}
def KA(pa:PlainAttrs T)(slot:Slot T name id)(hty:typeOf (.builtin id)=pure (.type "method_descriptor"))(hm:O6 X id r)(ho:PE X o to)(Q5:autoParam (attributeBase o name X.env (eval o X.env)=eval o X.env) aR._auto_1)(Q6:autoParam ((apos.endLine==Qj.line)=true) aR._auto_1):PE X (.Call (.Attribute o name apos) [] [] Qj) (Oz X.K T r to):=by
 intro PZ s σ H Q I h;refine wpAny_Call_method0_late Q5 Q6 (cF (ho PZ s σ H _ I h) λv s1 ⟨x,H1,I1,r1,ty,q1⟩=>?_);obtain⟨h1,h2⟩:=CL I1 r1 ty;exact⟨T,id,pa,slot,hty,h1,h2,abb rfl (PySem.evalArgs_none (hm PZ s1 σ H1 x [] v [] Q I1 r1 .nil q1))⟩
def HA(pa:PlainAttrs T)(slot:Slot T name id)(hty:typeOf (.builtin id)=pure (.type "method_descriptor"))(hm:O6 X id r)(ho:PE X o to)(ha:PA X (e::es) t)(Q5:autoParam (attributeBase o name X.env (eval o X.env)=eval o X.env) aR._auto_1)(SF:autoParam (((backTo Qj (starEach (e::es) X.env)).all (λx=>!x.1)&&(backToKw Qj (keywordEach [] X.env)).all (λx=>x.1.isSome) && decide ((e::es).length+([]:List Keyword).length+(if ([]:List Keyword).isEmpty then 0 else 1)<30))=true) aR._auto_1)(Q6:autoParam ((apos.endLine==Qj.line)=true) aR._auto_1)(hs:autoParam ↑0 aR._auto_1)(RB:autoParam ((backTo Qj (starEach es X.env)).any (·.1)=false) aR._auto_1):PE X (.Call (.Attribute o name apos) (e::es) [] Qj) (Pk X.K T r to t):=by
 intro PZ s σ H Q I h;refine wpAny_Call_method_late Q5 SF Q6 rfl (cF (ho PZ s σ H _ I h) λv s1 ⟨x,H1,I1,r1,ty,q1⟩=>?_);obtain⟨h1,h2⟩:=CL I1 r1 ty;refine⟨T,id,pa,slot,hty,h1,h2,?_⟩;have hA:=ha Qj PZ s1 σ H1 _ I1 q1;rw[hs] at hA ⊢;refine abb (by show (false||(backTo Qj (starEach es X.env)).any (·.1))=false;rw[RB]<;>rfl) (Calls.evalArgs_plain ?_);exact cF hA λus s2 ⟨vs,H2,I2,r2,q2⟩=>hm PZ s2 σ H2 x vs v us Q I2 r1 r2 q2
end
def ON(X:Cx)(id:String)(r:V->List V->Hp->VK->Prop):Prop :=
 ∀ (PZ:List (Addr×Obj)) (s:Shared) (σ:St) (H:Hp) (x:V) (xs:List V) (v:Value) (us:List Value) (Q:VK),Inv X PZ σ H s->RelV x v->Vals xs us->r x xs H Q ->
  wpAny ↑8 X.A (call (.builtin id) (v::us)) (EP X PZ σ Q) X.xe s
def Vals.one:∀{x:V}{us:List Value},Vals [x] us->∃u,us=[u]/\RelV x u
 |_,_,.cons r .nil=>⟨_,rfl,r⟩
def Vals.zero:∀{us:List Value},Vals [] us->us=[]
 |_,.nil=>rfl
theorem Vals.rep{xs:List V}{us:List Value}(h:Vals xs us):∀k:Nat,Vals (U6 k xs).flatten (U6 k us).flatten
 | 0=>.nil
 | k+1=>by
  rw[Wz,Wz,Xd,Xd];exact Vals.append h (Vals.rep h k)
theorem foldl_rep(P7:List Value):∀(k:Nat)(acc:List Value),aak (λx1 x2=>x1++x2) acc.toArray (U6 k P7.toArray)=(acc++(U6 k P7).flatten).toArray
 | 0,acc=>by simp
 | k+1,acc=>by
  have e:acc.toArray++P7.toArray=(acc++P7).toArray:=by simp
  have e2:(acc++P7)++(U6 k P7).flatten=acc++(U6 (k+1) P7).flatten:=by
   rw[Wz,Xd,WB]
  rw[<- e2,<- foldl_rep P7 k (acc++P7),<- e,Wz,ZY]
variable{b:Addr}
variable{t':Nat}
section
variable{l:Addr}{xs ys zs:List V}
def Inv.Kb{its':List Value}{f:Array Value->Array Value}(I:Inv X PZ σ H s)(hH:H l=some (.lst xs))(e:s.heap.get? l=some { cls:=.type "list",data:=.seq P7.toArray n })(hf:f P7.toArray=its'.toArray)(hv:Vals ys its')(hz:ys.length<=sizeLine):Inv X PZ σ (upd H l (.lst ys)) { s with heap:=s.heap.update l (WG f),toks:=t' }:=by
 have q:=PySem.IsL.update e f;rw[hf] at q;refine I.write (x:=l) (e:=l) (by rw[hH];exact trivial) (.inl rfl) (λb' u hb hu=>(Vv s.heap (WG f) (WW hb)).trans hu) ⟨_,q⟩ ?_;exact⟨hz,its',_,hv,q⟩
def Inv.MK(I:Inv X PZ σ H s)(hv:Vals ys P7)(hz:ys.length<=sizeLine):Inv X PZ σ (upd H s.heap.objs.size (.lst ys)) { s with heap:=s.heap.push { cls:=.type "list",data:=.seq P7.toArray },toks:=t' } :=
 I.laid (λ_ _ q=>U3 _ q) (U9 _) ⟨hz,P7,0,hv,U_ _ rfl⟩
theorem Inv.fresh(I:Inv X PZ σ H s):H s.heap.objs.size=none:=I.bJ.fresh (U9 _)
def Inv.xD(I:Inv X PZ σ H s)(hH:H l=some (.lst xs)):xs.length<=sizeLine/\∃(P7:List Value)(n:Nat),Vals xs P7/\xs.length=P7.length/\s.heap.get? l=some { cls:=.type "list",data:=.seq P7.toArray n }:=by
 obtain⟨z,P7,n,r,e⟩:=I.bJ l _ hH;exact⟨z,P7,n,r,r.length,e⟩
theorem wU(h:n<=sizeLine):Yj n=false:=by
 unfold Yj;exact decide_eq_false ⋯
end
def FT:V->List V->Hp->VK->Prop:=λx vs H Q=>∃l xs y,x=.ref l/\vs=[y]/\H l=some (.lst xs)/\xs.length<sizeLine/\Q .c_ (upd H l (.lst (xs++[y])))
theorem rV:ON X "list.append" FT:=by
 intro PZ s σ H x vs v us Q I rx rv h;obtain⟨l,xs,y,rfl,rfl,hH,hz,q⟩:=h;cases rx;obtain⟨u,rfl,ru⟩:=rv.one;obtain⟨z,P7,n,r,hl,e⟩:=I.xD hH;refine YH F.slot_list_append ⟨_,e,rfl⟩ F.entry_list_append (F.args_list_append_2 _ _) (PySem.list_append l P7.toArray n u (by rw[Vg];lia)) ⟨e,?_⟩;refine⟨.c_,_,I.Kb (its':=P7++[u]) hH e ↑13 (r.append (.cons ru .nil)) ?_,rfl,q⟩;rw[Vw,List.length_singleton];lia
def F2:V->List V->Hp->VK->Prop:=λx vs H Q=>∃l b xs zs,x=.ref l/\vs=[.ref b]/\H l=some (.lst xs)/\H b=some (.lst zs)/\xs.length+zs.length<=sizeLine/\Q .c_ (upd H l (.lst (xs++zs)))
theorem zE:ON X "list.extend" F2:=by
 intro PZ s σ H x vs v us Q I rx rv h;obtain⟨l,b,xs,zs,rfl,rfl,hH,hB,hz,q⟩:=h;cases rx;obtain⟨u,rfl,ru⟩:=rv.one;cases ru;obtain⟨z,P7,n,r,hl,e⟩:=I.xD hH;obtain⟨z2,QU,n2,r2,Rp,e2⟩:=I.xD hB;have hsz:P7.toArray.size+QU.toArray.size<=sizeLine:=by rw[Vg,Vg];lia
 have SJ:¬ (!P7.toArray.isEmpty&&Yj (P7.toArray.size+QU.toArray.size))=true:=by
  rw[wU hsz,Bool.and_false];exact VQ
 refine YH F.slot_list_extend ⟨_,e,rfl⟩ F.entry_list_extend (F.args_list_extend_2 _ _)
  (AutoSeq1.list_extend_list_list_0 l P7.toArray n b QU.toArray n2 SJ (by rw[Vg];lia) ⋯) ⟨e,e2,?_⟩
 refine⟨.c_,_,I.Kb (its':=P7++QU) hH e ↑13 (r.append r2) ?_,rfl,q⟩;rw[Vw];lia
def Kw:V->List V->Hp->VK->Prop:=λx vs H Q=>∃l xs,x=.ref l/\vs=[]/\H l=some (.lst xs)/\Q .c_ (upd H l (.lst []))
theorem CC:ON X "list.clear" Kw:=by
 intro PZ s σ H x vs v us Q I rx rv h;obtain⟨l,xs,rfl,rfl,hH,q⟩:=h;cases rx;have hus:=rv.zero;subst hus;obtain⟨z,P7,n,r,hl,e⟩:=I.xD hH;refine YH F.slot_list_clear ⟨_,e,rfl⟩ F.entry_list_clear (F.args_list_clear_1 _) (AutoSeq1.list_clear_list_0 l P7.toArray n (by rw[Vg];lia)) ⟨e,?_⟩;exact⟨.c_,_,I.Kb (its':=[]) (ys:=[]) hH e rfl .nil (Vd _),rfl,q⟩
def Nr:R2:=λx y H Q=>∃l b xs zs,x=.ref l/\y=.ref b/\H l=some (.lst xs)/\H b=some (.lst zs)/\xs.length+zs.length<=sizeLine/\∀p,H p=none->Q (.ref p) (upd H p (.lst (xs++zs)))
theorem Jy:hX X (binaryOp .Add) Nr:=by
 intro PZ s σ H x y v u Q I rx ry h;obtain⟨l,b,xs,zs,rfl,rfl,hH,hB,hz,q⟩:=h;cases rx;cases ry;obtain⟨z,P7,n,r,hl,e⟩:=I.xD hH;obtain⟨z2,QU,n2,r2,Rp,e2⟩:=I.xD hB;refine PySem.P.add_list e e2 ?_ (by rw[Vg,Vg];lia);have ea:P7.toArray++QU.toArray=(P7++QU).toArray:=by simp
 rw[ea];exact⟨.ref _,_,I.MK (t':=s.toks) (r.append r2) (by rw[Vw];lia),rfl,q _ I.fresh⟩
def Ng:R2:=λx y H Q=>∃l k xs,x=.ref l/\y=.int k/\H l=some (.lst xs)/\-(2^63)<=k/\k<2^63/\xs.length*k.toNat<=sizeLine ∧
 ∀p,H p=none->Q (.ref p) (upd H p (.lst (U6 k.toNat xs).flatten))
def len_rep(xs:List α)(k:Nat):(U6 k xs).flatten.length=k*xs.length:=by
 induction k with
 | zero=>simp
 |succ k ih=>rw[Wz,Xd,Vw,ih,acA,abc]
theorem CN:hX X (binaryOp .Mult) Ng:=by
 intro PZ s σ H x y v u Q I rx ry h;obtain⟨l,k,xs,rfl,rfl,hH,h1,h2,hz,q⟩:=h;cases rx;obtain⟨t,rfl⟩:=ry;obtain⟨z,P7,n,r,hl,e⟩:=I.xD hH;have hlen:P7.toArray.size*k.toNat<=sizeLine:=by rwa[Vg,<- hl]
 have hcap:¬ P7.toArray.size*k.toNat>(2^63-1)/8:=by
  have:(sizeLine:Nat)<=(2^63-1)/8:=by decide
  lia
 have hfit:¬ (!Builtin.List.listFitsIndex k)=true:=by
  rw[fitsIndex_both h1 h2];exact VQ
 have SJ:¬ Yj (P7.toArray.size*k.toNat)=true:=by
  rw[wU hlen];exact VQ
 have Ru:aak (λx1 x2=>x1++x2) #[] (U6 (if P7.toArray.isEmpty=true then 0 else k.toNat) P7.toArray)=(U6 k.toNat P7).flatten.toArray:=by
  have f0:∀m:Nat,aak (λx1 x2=>x1++x2) #[] (U6 m P7.toArray)=(U6 m P7).flatten.toArray:=λm=>by
   have:=foldl_rep P7 m [];rwa[Y6] at this
  rw[f0];cases P7 with
  | nil=>simp
  | cons a r'=>rw[if_neg ↑13]
 refine aaw (T := "list") (U := "int") ↑12 ⟨_,e,rfl⟩ (λs'=>aba s' k t) noFill_list_mul F.fills_int_mul F.slot_int_rmul repeat_list F.slot_int_index.lookup
  (YH F.slot_int_rmul (aba s k t) F.entry_int_rmul (F.args_int_rmul_2 _ _) (int___rmul___int_list k t l P7.toArray n)
   ⟨e,rfl,⟨_,e,rfl⟩,YH F.slot_list_mul ⟨_,e,rfl⟩ F.entry_list_mul (F.args_list_mul_2 _ _) (AutoListH.list___mul___list_int_3 l P7.toArray n k t hfit hcap SJ) ⟨e,?_⟩⟩)
 rw[Ru];exact⟨.ref _,_,I.MK (t':=s.toks) (r.rep k.toNat) (by rwa[len_rep,Z_]),rfl,q _ I.fresh⟩
variable{E:Value->Shared->Prop}{A:Around}{w:World}
section
variable{prog:Program}
end
variable{o:Option V}
variable{u:Value}{y:V}
section
variable{κ:Type}[DecidableEq κ]
def kz(P5:List (κ×V))(k:κ):Option V:=(P5.find? λkv=>decide (kv.1=k)).map (·.2)
def putK(P5:List (κ×V))(k:κ)(v:V):List (κ×V) :=
 if (P5.any λkv=>decide (kv.1=k))=true then P5.map (λkv=>if kv.1=k then (kv.1,v) else kv) else P5++[(k,v)]
def lF{p:κ×V}{r:List (κ×V)}{k:κ}(e:p.1=k):kz (p::r) k=some p.2:=by simp[kz,WY,e]
def lP{p:κ×V}{r:List (κ×V)}{k:κ}(e:¬ p.1=k):kz (p::r) k=kz r k:=by simp[kz,WY,e]
theorem pA(k:κ):∀P5:List (κ×V),(P5.any λkv=>decide (kv.1=k))=(kz P5 k).isSome
 | []=>rfl
 | p::r=>by
  rw[ZL]
  by_cases e:p.1=k
  .simp only[lF e,decide_eq_true e,Bool.true_or,Option.isSome_some]
  .rw[lP e,decide_eq_false e,Bool.false_or];exact pA k r
theorem nA(P5:List (κ×V))(k:κ)(v:V):(putK P5 k v).length<=P5.length+1:=by
 unfold putK
 split
 .rw[U8];lia
 .rw[Vw,VF,X7];lia
def kA.mJ{u:Option Value}(r:kA o u):o.isSome=u.isSome:=by
 cases o with
 | none=>cases u with
  | none=>rfl
  | some _=>exact(show False from r).elim
 | some _=>cases u with
  | none=>exact(show False from r).elim
  |some _=>rfl
def KV.val{P5:List (κ×V)}{vs:List (κ×Value)}(r:KV P5 vs)(k:κ):kA (kz P5 k) (valueAt vs k):=by
 unfold KV at r
 induction r with
 | nil=>exact WE
 | @cons p q ps qs h t ih =>
  obtain⟨h1,h2⟩:=h
  by_cases e:p.1=k
  .have e':q.1=k:=h1.symm.trans e;have b:valueAt (q::qs) k=some q.2:=by simp[valueAt,WY,e']
   rwa[lF e,b]
  .have e':¬ q.1=k:=λz=>e (h1.trans z);have b:valueAt (q::qs) k=valueAt qs k:=by simp[valueAt,WY,e']
   rwa[lP e,b]
theorem KV.any{P5:List (κ×V)}{vs:List (κ×Value)}(r:KV P5 vs)(k:κ):(P5.any λkv=>decide (kv.1=k))=vs.any λkv=>decide (kv.1=k):=by
 unfold KV at r
 induction r with
 | nil=>rfl
 |cons h t ih=>rw[ZL,ZL,ih,h.1]
def KV.JU{P5:List (κ×V)}{vs:List (κ×Value)}(r:KV P5 vs)(k:κ)(ry:RelV y u):KV (P5.map λkv=>if kv.1=k then (kv.1,y) else kv) (vs.map λkv=>if kv.1=k then (kv.1,u) else kv):=by
 unfold KV at r ⊢
 induction r with
 | nil=>exact .nil
 | @cons p q ps qs h t ih =>
  rw[Vu,Vu];refine .cons ?_ ih;obtain⟨h1,h2⟩:=h
  by_cases e:p.1=k
  .rw[if_pos e,if_pos (h1.symm.trans e)];exact⟨h1,ry⟩
  .rw[if_neg e,if_neg (λz=>e (h1.trans z))];exact⟨h1,h2⟩
def KV.put{P5:List (κ×V)}{vs:List (κ×Value)}(r:KV P5 vs)(k:κ)(ry:RelV y u):KV (putK P5 k y) (stored vs k u):=by
 unfold putK stored;rw[r.any k]
 by_cases e:(vs.any λkv=>decide (kv.1=k))=true
 .rw[if_pos e,if_pos e];exact r.JU k ry
 .rw[if_neg e,if_neg e];exact Paired.snoc r ⟨rfl,ry⟩
theorem KV.length{P5:List (κ×V)}{vs:List (κ×Value)}(r:KV P5 vs):P5.length=vs.length:=Paired.length r
end
variable{k:Key}{P:Program}
def Dz(r:RelV (kV k) u):(cv P w).is k u=true:=by
 cases k with
 | inl i=>obtain⟨t,e⟩:=(show ∃t,u=ZE i t from r);subst e;exact v7 P w i t
 |inr x=>obtain⟨t,e⟩:=(show ∃t,u=aad x t from r);subst e;exact w9 P w x t
theorem sD{P:Program}{w:World}:∀{ks:List Key}{us:List Value},Vals (ks.map kV) us->ItemsAre (cv P w) ks us
 | [],_,r=>by rw[Z9] at r;cases r;exact .nil
 | k::ks,_,r=>by
  rw[Vu] at r;cases r with
  |cons h t=>exact .cons (Dz h) (sD t)
abbrev KT(H:Hp):List (List Key×V)->List (List Key×Addr×Value)->Prop:=Paired λp q=>p.1=q.1/\H q.2.1=some (.tup (p.1.map kV))/\RelV p.2 q.2.2
variable{xs:List (List Key×Addr×Value)}{P5:List (List Key×V)}
def KT.val(r:KT H P5 xs)(k:List Key):kA (kz P5 k) ((atKey xs k).map (·.2)):=by
 induction r with
 | nil=>exact WE
 | @cons p q ps qs h t ih =>
  obtain⟨h1,_,h2⟩:=h
  by_cases e:p.1=k
  .have e':q.1=k:=h1.symm.trans e;have b:atKey (q::qs) k=some q.2:=by simp[atKey,WY,e']
   rwa[lF e,b]
  .have e':¬ q.1=k:=λz=>e (h1.trans z);have b:atKey (q::qs) k=atKey qs k:=by simp[atKey,WY,e']
   rwa[lP e,b]
def KT.JU(r:KT H P5 xs)(k:List Key)(ry:RelV y u):KT H (P5.map λkv=>if kv.1=k then (kv.1,y) else kv) (xs.map (putAt k u)):=by
 induction r with
 | nil=>exact .nil
 | @cons p q ps qs h t ih =>
  rw[Vu,Vu];refine .cons ?_ ih;obtain⟨h1,h2,h3⟩:=h;unfold putAt
  by_cases e:p.1=k
  .rw[if_pos e,if_pos (h1.symm.trans e)];exact⟨h1,h2,ry⟩
  .rw[if_neg e,if_neg (λz=>e (h1.trans z))];exact⟨h1,h2,h3⟩
def KT.put(r:KT H P5 xs)(k:List Key)(hb:H b=some (.tup (k.map kV)))(ry:RelV y u):KT H (putK P5 k y) (storedH xs k b u):=by
 have e:(P5.any λkv=>decide (kv.1=k))=(atKey xs k).isSome:=by
  rw[pA,(r.val k).mJ,acB]
 unfold putK storedH;rw[e]
 by_cases q:(atKey xs k).isSome=true
 .rw[if_pos q,if_pos q];exact r.JU k ry
 .rw[if_neg q,if_neg q];exact Paired.snoc r ⟨rfl,hb,ry⟩
variable{H':Hp}
def KT.keeps(r:KT H P5 xs)(ht:∀b ys,H b=some (.tup ys)->H' b=some (.tup ys)):KT H' P5 xs :=
 Paired.Js r λ_ _ z=>⟨z.1,ht _ _ z.2.1,z.2.2⟩
section
variable{h:Heap}{a:Addr}
def zo{u:HO}(ok:kH P w H h)(e:Rd H a u):bG P w H h a u:=e.ok ok
def H0{P5:List (Key×V)}(ok:kH P w H h)(e:Rd H a (.dK P5)):P5.length<=sizeLine/\(a==sysModules)=false/\∃vs,KV P5 vs/\h.DictOf (cv P w) a vs :=
 show bG P w H h a (.dK P5) from zo ok e
def M9{P5:List (Key×V)}(ok:kH P w H h)(e:H a=some (.dK P5)):P5.length<=sizeLine/\(a==sysModules)=false/\∃vs,KV P5 vs/\h.DictOf (cv P w) a vs:=H0 ok (.inl e)
def uw{ks:List Key}(ok:kH P w H h)(e:H a=some (.tup (ks.map kV))):(tupleKind (cv P w)).is h ks a:=by
 obtain⟨_,P7,r,o,h1,h2,n,h3⟩:=(show bG P w H h a (.tup (ks.map kV)) from ok a _ e)
 exact⟨o,P7.toArray,n,h1,h2,h3,by simpa using sD r⟩
def HZ(ok:kH P w H h)(e:Rd H a (.dT P5)):P5.length<=sizeLine/\(a==sysModules)=false ∧∃xs,KT H P5 xs/\h.DictOfH (tupleKind (cv P w)) a xs:=by
 obtain⟨z,y,xs,r,o,es,ep,h1,h2,h3,h4,h5⟩:=(show bG P w H h a (.dT P5) from zo ok e)
 refine⟨z,y,xs,r,o,es,ep,h1,h2,h3,h4,λx hx=>?_,h5⟩;have all:∀{l:List (List Key×V)}{m:List (List Key×Addr×Value)},KT H l m->∀x∈m,(tupleKind (cv P w)).is h x.1 x.2.1:=by
  intro l m q
  induction q with
  | nil=>intro x hx;exact nomatch hx
  | @cons p q ps qs hq t ih =>
   intro x hx;rcases Vn.mp hx with e|hx
   .subst e;exact uw ok (by rw[<- hq.1];exact hq.2.1)
   .exact ih x hx
 exact all r x hx
def HP(ok:kH P w H h)(e:H a=some (.dT P5)):P5.length<=sizeLine/\(a==sysModules)=false ∧∃xs,KT H P5 xs/\h.DictOfH (tupleKind (cv P w)) a xs:=HZ ok (.inl e)
end
def Lx(H:Hp)(a:Addr)(y:V)(r:Option V):Prop :=
 (∃P5 k,Rd H a (.dK P5)/\y=kV k/\r=kz P5 k)\/∃P5 k b,Rd H a (.dT P5)/\y=.ref b/\H b=some (.tup (k.map kV))/\r=kz P5 k
def DM(H:Hp)(a:Addr)(y v:V)(H':Hp):Prop :=
 (∃P5 k,H a=some (.dK P5)/\y=kV k/\P5.length<sizeLine/\H'=upd H a (.dK (putK P5 k v))) ∨
 ∃P5 k b,H a=some (.dT P5)/\y=.ref b/\H b=some (.tup (k.map kV))/\P5.length<sizeLine/\H'=upd H a (.dT (putK P5 k v))
def DM.t{a:Addr}{k:List Key}{v:V}(e:H a=some (.dT P5))(eb:H b=some (.tup (k.map kV)))(hl:P5.length<sizeLine):DM H a (.ref b) v (upd H a (.dT (putK P5 k v))):=.inr ⟨P5,k,b,e,rfl,eb,hl,rfl⟩
variable{h':Heap}
section
variable{a:Addr}{v:V}{r:Value}
def Inv.big(I:Inv X PZ σ H s):sysModules<s.heap.objs.size:=by
 have h:mainGlobals<s.heap.objs.size:=(I.mod.glob.keeps I.bk).lt;exact Nat.lt_trans ↑12 h
def FX{Q:Value->Shared->Prop}(hu:A.units+1<cLine)(I:Inv X PZ σ H s)(g:Lx H a y o)(ry:RelV y u)(h:∀s',Inv X PZ σ H s'->Q (.bool (!o.isSome)) s'):wpAny ↑8 A (compareOp .NotIn u (.ref a)) Q E s:=by
 rcases g with ⟨P5,k,e,ey,l⟩|⟨P5,k,b,e,ey,eb,l⟩
 .subst ey;obtain⟨z,hd,vs,rel,dd⟩:=H0 I.bJ e;refine wpAny_notIn_of (Dz ry) hd dd.mapOf ?_;rw[<- (rel.val k).mJ,<- l];exact h _ (I.tok _)
 .subst ey;cases (show u=Vf b from ry);obtain⟨z,hd,xs,rel,dd⟩:=HZ I.bJ e;refine wpAny_notIn_heap (tupleKind_room_in1 hu) (uw I.bJ eb) hd dd ?_;have q:=(rel.val k).mJ;rw[acB] at q;rw[<- q,<- l];exact h _ (I.tok _)
def oO{ob:HO}(I:Inv X PZ σ H s)(mu:M7 (H a))(hs:Yb a s.heap h')(he:∃q,h'.get? a=some q)(new:bG X.prog X.w (upd H a ob) h' a ob):Inv X PZ σ (upd H a ob) { s with heap:=h',toks:=t' } :=
 I.write (x:=a) (e:=a) mu (.inl rfl) (λb q hb z=>(hs.2 b hb).trans z) he new
def IZ{P5:List (Key×V)}{vs:List (Key×Value)}(z:P5.length<=sizeLine)(hd:(a==sysModules)=false)(rel:KV P5 vs)(dd:h'.DictOf (cv P w) a vs):bG P w H' h' a (.dK P5):=⟨z,hd,vs,rel,dd⟩
theorem zY{Q:Unit->Shared->Prop}(hu:A.units+1<cLine)(I:Inv X PZ σ H s)(g:DM H a y v H')(ry:RelV y u)(rv:RelV v r)(h:∀s',Inv X PZ σ H' s'->Q () s'):wpAny ↑8 A (setItem (.ref a) u r) Q E s:=by
 rcases g with ⟨P5,k,e,ey,l,eH⟩|⟨P5,k,b,e,ey,eb,l,eH⟩
 .subst ey eH;obtain⟨z,hd,vs,rel,dd⟩:=M9 I.bJ e;have hz:vs.length<=sizeLine:=by rwa[<- rel.length]
  have hl:(putK P5 k v).length<=sizeLine:=by have:=nA P5 k v;lia
  refine wpAny_setItem_pairs (hsz:=hz) (Dz ry) dd λh' Ua hs=>h _ ?_;have he:∃q,h'.get? a=some q:=let ⟨q,_,_,hq,_⟩:=Ua;⟨q,hq⟩
  exact oO I (by rw[e];exact WE) hs he (IZ hl hd (rel.put k rv) Ua)
 .subst ey eH;cases (show u=Vf b from ry);obtain⟨z,hd,xs,rel,dd⟩:=HP I.bJ e;have hz:xs.length<=sizeLine:=by rwa[<- Paired.length rel]
  have hl:(putK P5 k v).length<=sizeLine:=by have:=nA P5 k v;lia
  refine wpAny_setItem_heap (hsz:=hz) (tupleKind_room_in1 hu) (uw I.bJ eb) dd λh' Ua hs=>h _ ?_;obtain⟨q,es,ep,hq,h2,h3,h4,_,h5⟩:=Ua;refine oO I (by rw[e];exact WE) hs ⟨q,hq⟩ ⟨hl,hd,_,(rel.put k eb rv).keeps λc ys ec=>?_,q,es,ep,hq,h2,h3,h4,h5⟩;rwa[aB (Cu ec e (λz=>nomatch z))]
end
section
variable{a:Addr}{P5:List (Key×V)}
end
def MP(td ty tv:TE):TS:=λD σ H=>tv σ H λv H1=>td σ H1 λx H2=>ty σ H2 λy H3=>∃a H4,x=.ref a/\DM H3 a y v H4/\D.nx σ H4
section
variable{o i value:Expr}{pos pos' U1:Pos}{td ty tv:TE}
def Gp(hu:X.A.units+1<cLine)(ho:PE X o td)(hi:PE X i ty)(hv:PE X value tv)(hs:swapsWith value (some (.Subscript o i pos')) pos.line X.env=pure false):PS X (.Assign [.Subscript o i pos'] value pos) (MP td ty tv):=by
 intro PZ s σ H D I h;refine wpAny_Assign_Subscript (cF (hv PZ s σ H _ I h) λr s1 ⟨v,H1,I1,rv,q1⟩=>cF (ho PZ s1 σ H1 _ I1 q1) λu s2 ⟨x,H2,I2,rx,q2⟩=>cF (hi PZ s2 σ H2 _ I2 q2) λiv s3 ⟨y,H3,I3,ry,a,H4,ex,g,q3⟩=>?_) hs;subst ex;obtain rfl:u=Vf a:=rx;exact zY hu I3 g ry rv λs4 I4=>⟨σ,H4,I4,q3⟩
end
def EM(h:Heap)(hb:sysModules<h.objs.size):bG P w H (h.push { cls:=.type "dict",data:=.dict #[] }) h.objs.size (.dT []) :=
 ⟨Vd _,beq_eq_false_iff_ne.mpr (WW (Vm hb)),[],.nil,_,#[],0,U_ _ rfl,⟨rfl,rfl,rfl⟩,rfl,rfl,List.nodup_nil⟩
section
variable{pos:Pos}
end
def xj:List (TE×TE)->St->Hp->(List (V×V)->Hp->Prop)->Prop
 | [],_,H,Q=>Q [] H
 |(tk,tv)::r,σ,H,Q=>tk σ H λx H1=>tv σ H1 λy H2=>xj r σ H2 λps H3=>Q ((x,y)::ps) H3
abbrev VV:List (V×V)->List (Value×Value)->Prop:=Paired λp q=>RelV p.1 q.1/\RelV p.2 q.2
def Ou(X:Cx)(pos:Pos)(keys:List (Option Expr))(values:List Expr)(trs:List (TE×TE)):Prop :=
 ∀ (PZ:List (Addr×Obj)) (s:Shared) (σ:St) (H:Hp) (Q:List (V×V)->Hp->Prop),Inv X PZ σ H s->xj trs σ H Q ->
  wpAny ↑8 X.A (evalPairs (pairTrees keys values X.env pos)) (λvs s'=>∃ps H',Inv X PZ σ H' s'/\VV ps vs/\Q ps H') X.xe s
def GY{pos:Pos}:Ou X pos [] [] []:=λPZ s σ H Q I h=>pairTrees_nil_walk ⟨[],H,I,.nil,h⟩
def Dc{pos:Pos}{k v:Expr}{ks:List (Option Expr)}{vs:List Expr}{tk tv:TE}{trs:List (TE×TE)}(hk:PE X k tk)(hv:PE X v tv)(hr:Ou X pos ks vs trs):Ou X pos (some k::ks) (v::vs) ((tk,tv)::trs):=λPZ s σ H Q I h =>
 pairTrees_cons_walk (cF (hk PZ s σ H _ I h) λu s1 ⟨x,H1,I1,rx,q1⟩=>cF (hv PZ s1 σ H1 _ I1 q1) λw2 s2 ⟨y,H2,I2,ry,q2⟩ =>
  cF (hr PZ s2 σ H2 _ I2 q2) λws s3 ⟨ps,H3,I3,rel,q3⟩=>⟨(x,y)::ps,H3,I3,.cons ⟨rx,ry⟩ rel,q3⟩)
section
variable{a:Addr}{d:V}{r:Value}
end
section
variable{o f:Expr}{apos Qj:Pos}{td ty tx:TE}
end
section
variable{a:Addr}{P5:List (Key×V)}
end
section
variable{a:Addr}
end
end L2
namespace Att
open PySem PySem.W PySem.Calls PyProof.Rows
variable{h:Heap}{P:Params}
def n0:∀(ns:List Int)(vs:List Value),WellAll P h vs (ns.map WData.int)->IntsAre vs ns:=by
 intro ns
 induction ns with
 | nil =>
  intro vs w;rw[Z9] at w;cases w;exact .nil
 | cons n ns ih =>
  intro vs w;rw[Vu] at w;cases w with
  | cons a b =>
   cases a;exact .cons _ _ (ih _ b)
def zD{l:OpenLaw}{n:Nat}(hn:l.most=some n){args:List WData}{vals:List Value}(A4:l.row.toRowW.claim.pre args=true)(hwl:WellAll P h vals args):∃a vs ns,vals=[Vf a]/\args=[WData.list (ns.map WData.int)]/\h.get? a=some { cls:=.type "list",data:=.seq vs.toArray }/\IntsAre vs ns/\ns.length<=n:=by
 have hsh:WShape.hasAll [] args [.list .int]=true:=(pre_splitW A4).1;have hc:l.pre.holds [] { args:=args }=true:=(pre_splitW A4).2;obtain⟨d,r,rfl,h1,h2⟩:=hasAllW_cons hsh;obtain rfl:=hasAllW_nil h2;obtain⟨xs,rfl,h3⟩:=hasW_list h1;obtain⟨ns,rfl⟩:=items_int h3;have hlen:ns.length<=n:=by
  unfold OpenLaw.pre at hc;have h4:(WTm.not (.lt (.lit (.int (n:Int))) (.len (.arg 0)))).holds [] { args:=[.list (ns.map .int)] }=true:=by
   have h4:=(holds_andW hc).1;rwa[hn] at h4
  have h5:=condW_of h4 (w_not (w_lt w_lit (w_len_list (w_arg rfl))));rw[U8] at h5;refine Nat.le_of_not_lt λq=>?_;have q':(n:Int)<((ns.length:Nat):Int):=by lia
  first
   | (rw[decide_eq_true q'] at h5;exact absurd h5 ↑12)
   | (simp at h5;lia)
 cases hwl with
 | cons w1 w2 =>
  cases w2;cases w1 with
  |list ho RS=>exact⟨_,_,ns,rfl,rfl,ho,n0 ns _ RS,hlen⟩
def Ac(l:OpenLaw)(args:List WData):l.row.toRowW.claim.post args (.bool true) args=true :=
 postW_of (r:=l.row.toRowW) (X:=(true==true))
  (show WShape.has [] (.bool true) .bool=true by first|rfl|decide|simp[WShape.has,WShape.arms,WShape.armsAll])
  (show (WTm.eq .res (.lit (.bool true))).value [] { args:=args,res:=some (.bool true),after:=args }=some (.bool (true==true)) from w_eq_bool (w_res rfl) w_lit) rfl
section
variable{prog:Program}{w:World}{A:Around}{E:Value->Shared->Prop}{s:Shared}{K:Frag}
end
end Att
namespace L2
open PySem PySem.Spec PyProof.Rows
theorem rZ:∀{vs:List Value}{ns:List Int},IntsAre vs ns->Vals (ns.map V.int) vs
 | _,_,.nil=>.nil
 |_,_,.cons n t h=>.cons ⟨t,rfl⟩ (rZ h)
def Na(H:Hp):Prop:=∀b,H b=none\/∃o xs,H b=some (.j4 o (.lst xs))
variable{mg:Str->Option Value}{w:World}{P:Program}
def EC{K:U5}{mb:Str->Option Value}{CX:LO}{k:Nat}{fa a:Addr}{fd:FuncData}{x:Str}{sp:Sp}{s₁:Shared}{vs:List Value}{ns:List Int}(KX:K.In s₁.heap)(hns:s₁.heap.Ns mainGlobals mg)(hb:s₁.heap.Ns builtinsNs mb)(Uv:∀x:Str,x ≠ "__name__" -> mb x=bootBuiltins x)(hlim:s₁.heap.NoLimit)(hg:s₁.gens=#[])(ha:s₁.heap.get? a=some { cls:=.type "list",data:=.seq vs.toArray })(hi:IntsAre vs ns)(hl:ns.length<=sizeLine)(hr:cj k callerA)(F:∀base:Heap,K.In base->base.Ns mainGlobals mg->aW P w K mg base CX k fa fd [x] sp)(Uw:∀(s:Shared)(u:Value),BindsTo s fd ⟨[u],[]⟩ [(x,u)])(hsp:∀H:Hp,Na H->gR K H a (ns.map V.int)->sp [.ref a] H (λv _=>v=.bl true) λ_ _ _=>False)(hCX:∀H e s',CX [] H s₁ (λ_ _ _=>False) e s'->False):codeAny (model P w) callerA (.call (.ref fa) ⟨[.ref a],[]⟩) (λr s'=>r=.ok (.ret (.bool true))/\OldK s₁.heap s'.heap/\s'.os=s₁.os/\AllBare s'.gens) s₁:=by
 have rv:=rZ hi;have lenV:=hi.length;have core:∀H:Hp,Na H->gR K H a (ns.map V.int)->kH P w H s₁.heap->(∀b,H b≠none->b=a)->(H a≠none->K.lookup a=none) ->
   codeAny (model P w) callerA (.call (.ref fa) ⟨[.ref a],[]⟩) (λr s'=>r=.ok (.ret (.bool true))/\OldK s₁.heap s'.heap/\s'.os=s₁.os/\AllBare s'.gens) s₁:=by
  intro H hO hS bJ hA hK;have R9:∀{b:Addr}{o:Obj},s₁.heap.get? b=some o->H b=none->(t4 s₁.heap H).get? b=some o:=λe n=>DL e n;have vC:∀{b:Addr}{o:Obj}{es:Array DictEntry}{ep:Nat},s₁.heap.get? b=some o->o.data=.dict es ep->H b=none:=λ{b o es ep} e d=>by
   cases q:H b with
   | none=>rfl
   | some u =>
    have e':b=a:=hA b (by rw[q];simp);subst e';rw[ha] at e;cases e;have d':Data.seq vs.toArray _=Data.dict es ep:=d;cases d'
  have nsK:∀{b:Addr}{m:Str->Option Value},s₁.heap.Ns b m->(t4 s₁.heap H).Ns b m:=λ{b m} ⟨o,es,ep,e,d,r⟩=>⟨o,es,ep,R9 e (vC e d),d,r⟩
  have hKb:K.In (t4 s₁.heap H):=λb o e=>R9 (KX b o e) (by
   cases q:H b with
   | none=>rfl
   | some u =>
    have e':b=a:=hA b (by rw[q];simp);subst e';rw[hK (by rw[q];simp)] at e;cases e)
  have hM:Mod K mg (t4 s₁.heap H):=⟨hKb,nsK hns,⟨mb,nsK hb,Uv⟩,let ⟨mc,h1,h2⟩:=hlim;⟨mc,nsK h1,h2⟩⟩
  have e0:xQ P w K mg (t4 s₁.heap H) callerA [] s₁ H:=⟨rfl,hM,λb o e=>Fp e,aa8 (zO _ _),trivial,λb hb=>absurd (show b∈([]:List Addr) from hb) ↑13,bJ,.of_eq hg⟩
  refine abd ((F _ hKb (nsK hns)).run callerA [] s₁ H ⟨[.ref a],[]⟩ [.ref a] [.ref a] _ _ hr e0 (Uw s₁ (.ref a)) (.cons rfl .nil) (hsp H hO hS)) λr s' h=>?_;cases r with
  | error e=>exact(hCX H e s' h).elim
  | ok fl =>
   cases fl with
   | next=>exact XO h
   | brk=>exact XO h
   | cont=>exact XO h
   | ret u =>
    obtain⟨v,H',os,bare,un,hok',r',q⟩:=h;have q':v=.bl true:=q;subst q';obtain rfl:u=XD true:=r';refine⟨rfl,OldK.of_keep λb o e=>?_,os,bare⟩;cases q:H b with
    | none=>exact un.keep b o e q (by intro z;exact absurd (show b∈([]:List Addr) from z) ↑13) ↑13
    | some u =>
     rcases hO b with z|⟨ob,xs,z⟩
     .rw[q] at z;cases z
     .have z2:=un.mq b ob _ z;obtain⟨e1,_⟩:=bJ b _ z;obtain⟨e2,_⟩:=hok' b _ z2;rw[e] at e1;cases e1;exact e2
 cases hk:K.lookup a with
 | some o =>
  have e:=KX a o hk;rw[ha] at e;cases e;refine core (λ_=>none) (λ_=>.inl rfl) (.inr ⟨_,vs.toArray,_,hk,rfl,rfl,rfl,by rwa[Vg,lenV],by simpa using rv⟩) (λb u z=>by have z':(none:Option HO)=some u:=z;cases z') (λb z=>absurd rfl z) λz=>absurd rfl z
 | none =>
  refine core (λb=>if b=a then some (.j4 { cls:=.type "list",data:=.seq vs.toArray } (.lst (ns.map V.int))) else none) (λb=>?_) (.inl (.inr ⟨{ cls:=.type "list",data:=.seq vs.toArray },if_pos rfl⟩)) (λb u z=>?_) (λb z=>?_) λ_=>hk
  .by_cases hb:b=a
   .exact .inr ⟨_,_,if_pos hb⟩
   .exact .inl (if_neg hb)
  .by_cases hb:b=a
   .have z':=(if_pos hb).symm.trans z;cases z';subst hb;exact⟨ha,by rwa[U8],vs,_,rv,ha⟩
   .have z':=(if_neg hb).symm.trans z;cases z'
  .by_cases hb:b=a
   .exact hb
   .exact absurd (if_neg hb) z
def inClass(s:Stmt)(j:Nat):Stmt:=match s with
 | .ClassDef _ _ _ body _ _ _ _ _ _ _=>body.getD j (.Pass ⟨0,0,0,0⟩)
 |_=>.Pass ⟨0,0,0,0⟩
def ir(s:Stmt):Arguments:=match s with
 | .FunctionDef _ a _ _ _ _ _ _ _ _=>a
 |_=>{ posonlyargs:=[],args:=[],vararg:=none,kwonlyargs:=[],kw_defaults:=[],kwarg:=none,defaults:=[] }
def d_(s:Stmt):List Stmt:=match s with
 | .FunctionDef _ _ b _ _ _ _ _ _ _=>b
 |_=>[]
def aZ(s:Stmt):Scope:=match s with
 | .FunctionDef _ _ _ _ _ _ sc _ _ _=>sc
 |_=>{ kind:=.function,names:=[],isGenerator:=false,isCoroutine:=false }
abbrev E0:XK:=λ_ _ _=>False
section
variable{K:U5}{base:Heap}
end
def mz{n:Nat}(h:n<=1000):n<sizeLine:=WH h ↑12
section
variable{X:Cx}
end
def bb(H H':Hp):Prop:=∀b o,H b=some o->H' b=some o
end L2
section
namespace HD
open PySem PySem.W L2
abbrev pw:Program:=PySem.Challenge.pw_dialvault_k42_whole_all_still_weights
noncomputable section
noncomputable def st(s:String)(t:Nat):Value:=.str (VS s) t
def en(P:Params)(s:String)(t:Nat)(v:Value):DictEntry:=⟨PyData.keyHash P (VS s),st s t,v⟩
def tu(xs:List Value):Obj:=⟨.type "tuple",none,.seq ⟨xs⟩ 0,⟨[]⟩⟩
def di(n:Nat)(es:List DictEntry):Obj:=⟨.type "dict",none,.dict ⟨es⟩ n,⟨[]⟩⟩
def tp(i:Nat):Stmt:=pw.main.body.getD i (.Pass ⟨0,0,0,0⟩)
def mp(i j:Nat):Stmt:=inClass (tp i) j
def co(a b:String)(t:Nat)(l n:Int)(x1 x2 x3 x4 x5:Nat)(u:Nat):Obj:=⟨.type "code",none,.fields ⟨[st a t,st b (t+1),st "/claim/cut.py" (t+2),.int l 0,.int n 0,.int 0 0,.int 0 0,.int 3 0,.ref x1,.bool true,.int 181 0,.ref x2,.none,.ref x3,.ref x4,.ref x5,.int u 0,.int l 0,st "/claim/cut.py" (u+1)]⟩,⟨[]⟩⟩
def ft(a b:String)(s:Stmt):Obj:=⟨.none,none,.func ⟨VS a,VS b,ir s,.stmts (d_ s),aZ s,0,[],.none,.none,.none,.none,none,.none,.none,0⟩,⟨[]⟩⟩
def fo(a b:String)(s:Stmt)(df pm:Value)(cd:Nat):Obj:=⟨.type "function",none,.func ⟨VS a,VS b,ir s,.stmts (d_ s),aZ s,3,[],df,.none,.none,pm,none,.ref cd,.none,0⟩,⟨[]⟩⟩
def IL:List Obj->List Obj
 | []=>[]
 | [a]=>[a]
 |a::_::r=>a::IL r
def bt:Nat->List Obj->BT
 | 0,_=>.nil
 | _+1,[]=>.nil
 |n+1,a::r=>.node a (bt n (IL r)) (bt n (IL (r.drop 1)))
def S(L:Params->List Obj)(n k:Nat)(w:World)(os:OsState):SharedT:=⟨bt 14 (L w.params),n,{},⟨[]⟩,⟨0,0,0,0⟩,k,os⟩
def F(L:Params->List Obj)(k:Nat)(w:World)(os:OsState):Shared:=⟨⟨⟨L w.params⟩,{}⟩,⟨[]⟩,⟨0,0,0,0⟩,k,os⟩
def cc(a:String)(t:Nat)(l:Int)(x y u:Nat):Obj:=⟨.type "code",none,.fields ⟨[st a t,st a (t+1),st "/claim/cut.py" (t+2),.int l 0,.int 0 0,.int 0 0,.int 0 0,.int 0 0,.ref x,.bool false,.int 181 0,.ref y,.none,.none,.none,.none,.int u 0,.int l 0,st "/claim/cut.py" (u+1)]⟩,⟨[]⟩⟩
def fr(a b:Nat)(s:String)(t:Nat):Obj:=⟨.type "frame",none,.plain,⟨[some (.ref a),some (.ref 3),some (.ref b),none,some (st s t),none,some (.ref 0)]⟩⟩
def su(a:Nat):Obj:=⟨.type "super",none,.fields ⟨[.ref a,.ref a,.ref a]⟩,⟨[]⟩⟩
def ii(a:Nat):Obj:=⟨.type "builtin_function_or_method",none,.fields ⟨[.builtin "object.__init_subclass__",.ref a]⟩,⟨[]⟩⟩
def qM:List Nat->List Value
 | a::b::c::r=>.int a 0::.int b 0::.ref c::qM r
 |_=>[]
def fi(xs:List Nat):Obj:=⟨.none,none,.fields ⟨qM xs⟩,⟨[]⟩⟩
def cl(n:Str)(bs ms:List Value)(k:Nat)(ss:List Value)(sl:List (Option Value)):Obj:=⟨.type "type",none,.cls ⟨n,bs,ms,k,n,true,[],ss,false,none,false⟩,⟨sl⟩⟩
def pt(L:List Obj)(us:List (Nat×Obj))(ns:List Obj):List Obj:=us.foldl (λl u=>l.set u.1 u.2) L++ns
abbrev b0:=boot_o_0
abbrev b1:=boot_o_1
abbrev b2:=boot_o_2
abbrev b3:=boot_o_3
abbrev b4:=boot_o_4
abbrev b5:=boot_o_5
abbrev b6:=boot_o_6
abbrev b7:=boot_o_7
abbrev b8:=boot_o_8
abbrev b9:=boot_o_9
abbrev PH:=boot_o_10
def m0:Value:=st "__main__" 164
def m1:Value:=st "dialvault.errors" 194
def m2:Value:=st "dialvault.wholes" 363
def m3:Value:=st "dialvault.vault" 420
def m4:Value:=st "dialvault.papers" 562
def m5:Value:=st "dialvault.rungs" 570
def m6:Value:=st "dialvault.classes" 738
def m7:Value:=st "dialvault.stills" 748
def m8:Value:=st "law_dialvault_k42_whole_all_still_weights" 769
def nl:List String->Nat->List Value
 | [],_=>[]
 |x::r,t=>st x t::nl r (t+1)
def fA(P:Params)(a t:Nat)(x q:String)(s:Stmt)(l n:Int)(vs:List String)(df pm:Value):List Obj:=[b7 P,b8 P,tu (nl vs (t+3)),b7 P,ft x q s,co x q t l n a (a+1) (a+2) (a+3) (a+4) (t+3+vs.length),fo x q s df pm (a+5)]
def fT(P:Params)(a t:Nat)(x:String)(s:Stmt)(l n:Int)(vs:List String)(pm:Value):List Obj:=fA P a t x x s l n vs .none pm
def fB(P:Params)(a t:Nat)(x q:String)(s:Stmt)(l n:Int)(df pm:Value):List Obj:=[b7 P,b8 P,ft x q s,⟨.type "code",none,.fields ⟨[st x t,st q (t+1),st "/claim/cut.py" (t+2),.int l 0,.int n 0,.int 0 0,.int 0 0,.int 3 0,.ref a,.bool true,.int 181 0,.ref (a+1),.none,.none,.none,.ref (a+2),.int (t+3) 0,.int l 0,st "/claim/cut.py" (t+4)]⟩,⟨[]⟩⟩,fo x q s df pm (a+3)]
def dB(P:Params)(n t:Nat)(m:Value)(l:Int)(r:List DictEntry):Obj:=di n (en P "__module__" t m::en P "__firstlineno__" (t+4) (.int l (t+3))::r)
def dA(P:Params)(n t:Nat)(m:Value)(x:String)(l:Int)(r:List DictEntry):Obj:=di n (en P "__module__" t m::en P "__qualname__" (t+2) (st x (t+1))::en P "__firstlineno__" (t+4) (.int l (t+3))::r)
def gw(t a:Nat):Obj:=⟨.type "getset_descriptor",none,.fields ⟨[st "__weakref__" t,.ref a,.builtin "ExceptionGroup.__weakref__",.none]⟩,⟨[]⟩⟩
def gd(t a:Nat):Obj:=⟨.type "getset_descriptor",none,.fields ⟨[st "__dict__" t,.ref a,.builtin "function.__dict__",.builtin "function.__dict__#set"]⟩,⟨[]⟩⟩
def ce(x:String)(b a k:Nat)(ss:List Value)(d t u:Nat):Obj:=cl x [.ref b] [.ref a,.ref b,.type "ValueError",.type "Exception",.type "BaseException",.type "object"] k ss [some (.ref d),none,some (st x t),some (st x u),some (.builtin "ValueError.__new__"),some (.bool true)]
def gl P:=[en P "__doc__" 166 .none,en P "__package__" 167 .none,en P "__loader__" 168 (.builtin "__main__.__loader__#opaque"),en P "__spec__" 169 .none,en P "__annotations__" 170 (.ref 6),en P "__builtins__" 171 (.ref 4),en P "__file__" 173 (st "/claim/cut.py" 172),en P "__cached__" 174 .none,en P "_wall" 193 (.ref 21),en P "VaultError" 220 (.ref 38),en P "NoDial" 252 (.ref 65),en P "NoLever" 284 (.ref 91),en P "NoPrice" 316 (.ref 117),en P "NoSetting" 339 (.ref 136),en P "TooMany" 362 (.ref 155),en P "is_whole" 371 (.ref 164),en P "is_row" 377 (.ref 169),en P "common" 389 (.ref 176),en P "multiple_of" 398 (.ref 183),en P "product_of" 407 (.ref 190),en P "unit_row" 413 (.ref 195),en P "rest_sum" 419 (.ref 200),en P "MOST_DIALS" 423 (.int 6 422),en P "LEAST_SIZE" 425 (.int 2 424),en P "MOST_SIZE" 427 (.int 360 426),en P "MOST_LEVERS" 429 (.int 8 428),en P "LEAST_PRICE" 431 (.int 1 430),en P "MOST_PRICE" 433 (.int 1000 432),en P "Vault" 491 (.ref 244),en P "is_within" 500 (.ref 255),en P "need_sizes" 509 (.ref 262),en P "need_levers" 519 (.ref 269),en P "prices_for" 528 (.ref 276),en P "rests" 534 (.ref 281),en P "nought" 541 (.ref 288),en P "is_setting" 547 (.ref 293),en P "need_setting" 555 (.ref 300),en P "added" 561 (.ref 305),en P "weigh" 569 (.ref 310),en P "mixed" 577 (.ref 315),en P "mixed_made" 589 (.ref 322),en P "unpulled" 597 (.ref 329),en P "pulled_once" 606 (.ref 336),en P "step_size" 616 (.ref 343),en P "taken_in" 631 (.ref 350),en P "lowered" 643 (.ref 357),en P "in_spans" 653 (.ref 364),en P "Rungs" 737 (.ref 427),en P "MOST_SETTINGS" 741 (.int 1024 740),en P "all_together" 747 (.ref 436),en P "clear" 755 (.ref 441),en P "stills" 761 (.ref 446),en P "all_stills" 768 (.ref 453),en P "_law_cell" 778 (.ref 460),en P "_law_mix" 787 (.ref 467),en P "_law_digits" 797 (.ref 474),en P "_law_sizes" 803 (.ref 479),en P "_law_lever" 809 (.ref 484),en P "_law_doings" 815 (.ref 489),en P "_law_steps" 821 (.ref 494),en P "_law_all" 827 (.ref 499),en P "_law_round" 838 (.ref 506),en P "_law_weigh" 844 (.ref 511),en P "_law_still" 854 (.ref 518),en P "_law_clear" 863 (.ref 525),en P "_law_told" 872 (.ref 532),en P "law" 878 (.ref 537)]
def LA(P:Params):List Obj:=[b0 P,b1 P,b2 P,b3 P,b4 P,b5 P,b6 P,b7 P,b8 P,b9 P,PH P,b7 P,b8 P,cc "<module>" 182 1 11 12 185,fr 13 3 "__main__" 164]
def o9:Obj:=⟨.type "builtin_function_or_method",none,(.fields ⟨[.builtin "type.__prepare__",.type "type"]⟩),⟨[]⟩⟩
def Po:Obj:=gw 216 38
def Mj:=tu [.ref 38]
def L0 P:=pt (LA P) [(3,di 15 (en P "__name__" 165 m1::(gl P).take 14)),(12,fi [1,0,20,5,0,27,9,0,47,16,0,73,23,0,99,30,0,125])] (fT P 15 187 "_wall" (tp 0) 1 1 ["k"] m0++([tu [.type "ValueError"],o9,dA P 5 203 m1 "VaultError" 5 [en P "word" 214 (.ref 35),en P "__static_attributes__" 215 (.ref 36)],b7 P,fi [7,4,34],cc "VaultError" 198 5 25 26 201,fr 27 24 "dialvault.errors" 194]++(fA P 29 208 "word" "VaultError.word" (mp 2 0) 7 1 ["self"] .none m1++([b7 P,dB P 3 203 m1 5 [en P "word" 214 (.ref 35),en P "__static_attributes__" 215 (.ref 36),en P "__weakref__" 217 (.ref 39),en P "__doc__" 218 .none],cl "VaultError" [.type "ValueError"] [.ref 38,.type "ValueError",.type "Exception",.type "BaseException",.type "object"] 37 [.ref 65,.ref 91,.ref 117,.ref 136] [some (.ref 22),none,some (st "VaultError" 196),some (st "VaultError" 204),some (.builtin "ValueError.__new__"),some (.bool true)],Po,su 38,ii 38,Mj,o9,dA P 6 228 m1 "NoDial" 9 [en P "__init__" 240 (.ref 55),en P "word" 247 (.ref 62),en P "__static_attributes__" 249 (.ref 63)],b7 P,fi [11,4,54,14,4,61],cc "NoDial" 223 9 45 46 226,fr 47 44 "dialvault.errors" 194]++(fA P 49 233 "__init__" "NoDial.__init__" (mp 3 0) 11 2 ["self","dial"] .none m1++(fA P 56 241 "word" "NoDial.word" (mp 3 1) 14 1 ["self"] .none m1++([tu [st "dial" 248],dB P 2 228 m1 9 [en P "__init__" 240 (.ref 55),en P "word" 247 (.ref 62),en P "__static_attributes__" 249 (.ref 63),en P "__doc__" 250 .none],ce "NoDial" 38 65 64 [] 42 221 229,su 65,ii 65,Mj,o9,dA P 6 260 m1 "NoLever" 16 [en P "__init__" 272 (.ref 81),en P "word" 279 (.ref 88),en P "__static_attributes__" 281 (.ref 89)],b7 P,fi [18,4,80,21,4,87],cc "NoLever" 255 16 71 72 258,fr 73 70 "dialvault.errors" 194]++(fA P 75 265 "__init__" "NoLever.__init__" (mp 4 0) 18 2 ["self","lever"] .none m1++(fA P 82 273 "word" "NoLever.word" (mp 4 1) 21 1 ["self"] .none m1++([tu [st "lever" 280],dB P 2 260 m1 16 [en P "__init__" 272 (.ref 81),en P "word" 279 (.ref 88),en P "__static_attributes__" 281 (.ref 89),en P "__doc__" 282 .none],ce "NoLever" 38 91 90 [] 68 253 261,su 91,ii 91,Mj,o9,dA P 6 292 m1 "NoPrice" 23 [en P "__init__" 304 (.ref 107),en P "word" 311 (.ref 114),en P "__static_attributes__" 313 (.ref 115)],b7 P,fi [25,4,106,28,4,113],cc "NoPrice" 287 23 97 98 290,fr 99 96 "dialvault.errors" 194]++(fA P 101 297 "__init__" "NoPrice.__init__" (mp 5 0) 25 2 ["self","lever"] .none m1++(fA P 108 305 "word" "NoPrice.word" (mp 5 1) 28 1 ["self"] .none m1++([tu [st "lever" 312],dB P 2 292 m1 23 [en P "__init__" 304 (.ref 107),en P "word" 311 (.ref 114),en P "__static_attributes__" 313 (.ref 115),en P "__doc__" 314 .none],ce "NoPrice" 38 117 116 [] 94 285 293,su 117,ii 117,Mj,o9,dA P 5 324 m1 "NoSetting" 30 [en P "word" 335 (.ref 133),en P "__static_attributes__" 336 (.ref 134)],b7 P,fi [32,4,132],cc "NoSetting" 319 30 123 124 322,fr 125 122 "dialvault.errors" 194]++(fA P 127 329 "word" "NoSetting.word" (mp 6 0) 32 1 ["self"] .none m1++([b7 P,dB P 2 324 m1 30 [en P "word" 335 (.ref 133),en P "__static_attributes__" 336 (.ref 134),en P "__doc__" 337 .none],ce "NoSetting" 38 136 135 [] 120 317 325,su 136,ii 136])))))))))))))))
def OY:Obj:=gd 485 244
def NV:Obj:=gw 487 244
def L1 P:=pt (L0 P) [(3,di 48 (en P "__name__" 165 m5::(gl P).take 47)),(12,fi [1,0,20,5,0,27,9,0,47,16,0,73,23,0,99,30,0,125,34,0,144,39,0,163,41,0,168,45,0,175,56,0,182,61,0,189,66,0,194,68,0,199,77,0,206,98,0,254,100,0,261,108,0,268,114,0,275,123,0,280,125,0,287,127,0,292,132,0,299,135,0,304,139,0,309,146,0,314,148,0,321,151,0,328,153,0,335,156,0,342,159,0,349,168,0,356,173,0,363]),(38,cl "VaultError" [.type "ValueError"] [.ref 38,.type "ValueError",.type "Exception",.type "BaseException",.type "object"] 37 [.ref 65,.ref 91,.ref 117,.ref 136,.ref 155] [some (.ref 22),none,some (st "VaultError" 196),some (st "VaultError" 204),some (.builtin "ValueError.__new__"),some (.bool true)])] ([Mj,o9,dA P 5 347 m1 "TooMany" 34 [en P "word" 358 (.ref 152),en P "__static_attributes__" 359 (.ref 153)],b7 P,fi [36,4,151],cc "TooMany" 342 34 142 143 345,fr 144 141 "dialvault.errors" 194]++(fA P 146 352 "word" "TooMany.word" (mp 7 0) 36 1 ["self"] .none m1++([b7 P,dB P 2 347 m1 34 [en P "word" 358 (.ref 152),en P "__static_attributes__" 359 (.ref 153),en P "__doc__" 360 .none],ce "TooMany" 38 155 154 [] 139 340 348,su 155,ii 155]++(fT P 158 365 "is_whole" (tp 9) 39 1 ["thing"] m2++(fB P 165 372 "is_row" "is_row" (tp 10) 41 2 .none m2++(fT P 170 378 "common" (tp 11) 45 2 ["one","other","row","behind","times","rest"] m2++(fT P 177 390 "multiple_of" (tp 12) 56 1 ["numbers","multiple","number"] m2++(fT P 184 399 "product_of" (tp 13) 61 1 ["numbers","product","number"] m2++(fB P 191 408 "unit_row" "unit_row" (tp 14) 66 2 .none m2++(fB P 196 414 "rest_sum" "rest_sum" (tp 15) 68 3 .none m2++([b7 P,o9,dA P 9 441 m3 "Vault" 77 [en P "__init__" 451 (.ref 213),en P "sizes" 458 (.ref 220),en P "levers" 465 (.ref 227),en P "prices" 472 (.ref 234),en P "around" 479 (.ref 241),en P "__static_attributes__" 484 (.ref 242)],b7 P,fi [79,4,212,87,4,219,90,4,226,93,4,233,96,4,240],cc "Vault" 436 77 204 205 439,fr 206 203 "dialvault.vault" 420,tu [.none]]++(fB P 209 446 "__init__" "Vault.__init__" (mp 23 0) 79 4 (.ref 208) m3++(fA P 214 452 "sizes" "Vault.sizes" (mp 23 1) 87 1 ["self"] .none m3++(fA P 221 459 "levers" "Vault.levers" (mp 23 2) 90 1 ["self"] .none m3++(fA P 228 466 "prices" "Vault.prices" (mp 23 3) 93 1 ["self"] .none m3++(fA P 235 473 "around" "Vault.around" (mp 23 4) 96 1 ["self"] .none m3++([tu [st "dial_sizes" 480,st "least_round" 481,st "lever_prices" 482,st "lever_settings" 483],dB P 4 441 m3 77 [en P "__init__" 451 (.ref 213),en P "sizes" 458 (.ref 220),en P "levers" 465 (.ref 227),en P "prices" 472 (.ref 234),en P "around" 479 (.ref 241),en P "__static_attributes__" 484 (.ref 242),en P "__dict__" 486 (.ref 245),en P "__weakref__" 488 (.ref 246),en P "__doc__" 489 .none],cl "Vault" [.type "object"] [.ref 244,.type "object"] 243 [] [none,none,some (st "Vault" 434),some (st "Vault" 442),some (.builtin "object.__new__"),some (.bool true)],OY,NV,su 244,ii 244]++(fT P 249 492 "is_within" (tp 24) 98 3 ["thing","least","most"] m3++(fT P 256 501 "need_sizes" (tp 25) 100 1 ["sizes","dial","size"] m3++(fT P 263 510 "need_levers" (tp 26) 108 2 ["levers","dials","place","lever"] m3++(fT P 270 520 "prices_for" (tp 27) 114 2 ["levers","prices","place"] m3++(fB P 277 529 "rests" "rests" (tp 28) 123 2 .none m3++(fT P 282 535 "nought" (tp 29) 125 1 ["vault"] m3++(fB P 289 542 "is_setting" "is_setting" (tp 30) 127 2 .none m3++(fT P 294 548 "need_setting" (tp 31) 132 2 ["vault","thing"] m3++(fB P 301 556 "added" "added" (tp 32) 135 4 .none m3++(fB P 306 564 "weigh" "weigh" (tp 34) 139 3 .none m4++(fB P 311 572 "mixed" "mixed" (tp 36) 146 4 .none m5++(fT P 316 578 "mixed_made" (tp 37) 148 5 ["sizes","made","times","other","others","doing"] m5++(fT P 323 590 "unpulled" (tp 38) 151 2 ["vault","setting"] m5++(fT P 330 598 "pulled_once" (tp 39) 153 2 ["vault","lever","levers"] m5++(fT P 337 607 "step_size" (tp 40) 156 3 ["sizes","made_rows","dial","notch"] m5++(fT P 344 617 "taken_in" (tp 41) 159 3 ["sizes","made_rows","left","wider","dial","made","step","notch","found"] m5++(fT P 351 632 "lowered" (tp 42) 168 4 ["sizes","made_rows","made","first","dial","times"] m5++(fT P 358 644 "in_spans" (tp 43) 173 2 ["pulls","idle_rows","lever","row"] m5)))))))))))))))))))))))))))))))))))
def Oi:Obj:=gd 731 427
def OI:Obj:=gw 733 427
def L2 P:=pt (L1 P) [(3,di 68 (en P "__name__" 165 m8::gl P)),(12,fi [1,0,20,5,0,27,9,0,47,16,0,73,23,0,99,30,0,125,34,0,144,39,0,163,41,0,168,45,0,175,56,0,182,61,0,189,66,0,194,68,0,199,77,0,206,98,0,254,100,0,261,108,0,268,114,0,275,123,0,280,125,0,287,127,0,292,132,0,299,135,0,304,139,0,309,146,0,314,148,0,321,151,0,328,153,0,335,156,0,342,159,0,349,168,0,356,173,0,363,178,0,370,229,0,435,242,0,440,245,0,445,249,0,452,252,0,459,256,0,466,260,0,473,266,0,478,270,0,483,274,0,488,286,0,493,293,0,498,301,0,505,310,0,510,313,0,517,318,0,524,322,0,531,328,0,536])] ([b7 P,o9,dA P 13 661 m5 "Rungs" 178 [en P "__init__" 671 (.ref 376),en P "steps" 677 (.ref 381),en P "rows" 683 (.ref 386),en P "spans" 689 (.ref 391),en P "idle" 696 (.ref 398),en P "brought_down" 704 (.ref 405),en P "least" 712 (.ref 412),en P "pulls_to" 720 (.ref 419),en P "weights_at" 726 (.ref 424),en P "__static_attributes__" 730 (.ref 425)],b7 P,fi [180,4,375,192,4,380,196,4,385,199,4,390,202,4,397,205,4,404,209,4,411,212,4,418,215,4,423],cc "Rungs" 656 178 368 369 659,fr 370 367 "dialvault.rungs" 570]++(fB P 372 666 "__init__" "Rungs.__init__" (mp 44 0) 180 2 .none m5++(fB P 377 672 "steps" "Rungs.steps" (mp 44 1) 192 1 .none m5++(fB P 382 678 "rows" "Rungs.rows" (mp 44 2) 196 1 .none m5++(fB P 387 684 "spans" "Rungs.spans" (mp 44 3) 199 1 .none m5++(fA P 392 690 "idle" "Rungs.idle" (mp 44 4) 202 1 ["self"] .none m5++(fA P 399 697 "brought_down" "Rungs.brought_down" (mp 44 5) 205 2 ["self","setting"] .none m5++(fA P 406 705 "least" "Rungs.least" (mp 44 6) 209 2 ["self","setting"] .none m5++(fA P 413 713 "pulls_to" "Rungs.pulls_to" (mp 44 7) 212 2 ["self","setting"] .none m5++(fB P 420 721 "weights_at" "Rungs.weights_at" (mp 44 8) 215 2 .none m5++([tu [st "idle_rows" 727,st "made_rows" 728,st "vault" 729],dB P 4 661 m5 178 [en P "__init__" 671 (.ref 376),en P "steps" 677 (.ref 381),en P "rows" 683 (.ref 386),en P "spans" 689 (.ref 391),en P "idle" 696 (.ref 398),en P "brought_down" 704 (.ref 405),en P "least" 712 (.ref 412),en P "pulls_to" 720 (.ref 419),en P "weights_at" 726 (.ref 424),en P "__static_attributes__" 730 (.ref 425),en P "__dict__" 732 (.ref 428),en P "__weakref__" 734 (.ref 429),en P "__doc__" 735 .none],cl "Rungs" [.type "object"] [.ref 427,.type "object"] 426 [] [none,none,some (st "Rungs" 654),some (st "Rungs" 662),some (.builtin "object.__new__"),some (.bool true)],Oi,OI,su 427,ii 427]++(fB P 432 742 "all_together" "all_together" (tp 47) 229 2 .none m6++(fB P 437 750 "clear" "clear" (tp 49) 242 1 .none m7++(fB P 442 756 "stills" "stills" (tp 50) 245 1 .none m7++(fT P 447 762 "all_stills" (tp 51) 249 1 ["vault"] m7++(fT P 454 771 "_law_cell" (tp 53) 252 2 ["_law_script","_law_k"] m8++(fT P 461 779 "_law_mix" (tp 54) 256 2 ["_law_cell_here","_law_k","_law_number"] m8++(fT P 468 788 "_law_digits" (tp 55) 260 2 ["_law_cell_here","_law_sizes_here","_law_row","_law_size"] m8++(fB P 475 798 "_law_sizes" "_law_sizes" (tp 56) 266 1 .none m8++(fB P 480 804 "_law_lever" "_law_lever" (tp 57) 270 2 .none m8++(fB P 485 810 "_law_doings" "_law_doings" (tp 58) 274 2 .none m8++(fB P 490 816 "_law_steps" "_law_steps" (tp 59) 286 2 .none m8++(fB P 495 822 "_law_all" "_law_all" (tp 60) 293 1 .none m8++(fT P 500 828 "_law_round" (tp 61) 301 1 ["_law_sizes_here","_law_found","_law_size","_law_one","_law_other"] m8++(fB P 507 839 "_law_weigh" "_law_weigh" (tp 62) 310 3 .none m8++(fT P 512 845 "_law_still" (tp 63) 313 3 ["_law_weights","_law_levers","_law_sizes_here","_law_lever_here"] m8++(fT P 519 855 "_law_clear" (tp 64) 318 3 ["_law_vault","_law_sizes_here","_law_due"] m8++(fT P 526 864 "_law_told" (tp 65) 322 2 ["_law_vault","_law_due","_law_found"] m8++(fB P 533 873 "law" "law" (tp 66) 328 1 .none m8)))))))))))))))))))))))))))))
def LF(P:Params):=L2 P
def bE:List Stmt:=behindTheImports pw
def env:Env:={ scope:=pw.main.scope,locals:=mainNs,globals:=mainNs,cells:=[],code:=.ref 13,frame:=some 14 }
def cE:Code:=.body bE env
abbrev B:List Frame:=[topFrame ⟨0,0,0,0⟩]
abbrev ann:Option Value:=(some (.ref 6))
def KN:List Stmt:=(bE.drop 0).take 7
def K4:List Stmt:=(bE.drop 7).take 37
def Ly:List Stmt:=(bE.drop 44).take 23
end
def A4:∀w:World,(λos=>topGo treeTable pw w 11 ann 12 ⟨boot_heap w.params,⟨[]⟩,boot_drawn,boot_toks,os⟩ (topStub pw))=λos=>some (F LA 187 w os,⟨denote treeTable cE,cE,⟨0,0,0,0⟩,B⟩):=λw=>by
 rw[PySem.W.Fast.te15667345088766844465,Wa,PySem.W.Fast.te11892475500146522536]
 kernel_rfl
def NU:∀w:World,(λos=>segRun treeTable pw w 11 ann 1 1 (F LA 187 w os) (blockOf bE env cE ⟨0,0,0,0⟩ B))=λos=>some (aaP,(S LA 15 187 w os).abs,cE,⟨0,0,0,0⟩):=λw=>by
 rw[PySem.W.Fast.te14374325043358763698,Wa]
 kernel_rfl
def Pl:∀w:World,(λos=>segRunT treeTable pw w 11 ann 1 1326 (S LA 15 187 w os) (piecesOf KN env cE ⟨0,0,0,0⟩ B))=λos=>some (aaP,S L0 139 340 w os,cE,⟨30,0,33,16⟩):=λw=>by
 rw[XJ,Wa]
 kernel_rfl
def PX:∀w:World,(λos=>segRunT treeTable pw w 11 ann 1 1427 (S L0 139 340 w os) (piecesOf K4 env cE ⟨30,0,33,16⟩ B))=λos=>some (aaP,S L1 365 654 w os,cE,⟨173,0,177,16⟩):=λw=>by
 rw[XJ,Wa]
 kernel_rfl
def Dw:∀w:World,(λos=>segRunT treeTable pw w 11 ann 1 1005 (S L1 365 654 w os) (piecesOf Ly env cE ⟨173,0,177,16⟩ B))=λos=>some (aaP,S L2 538 879 w os,cE,⟨328,0,339,103⟩):=λw=>by
 rw[XJ,Wa]
 kernel_rfl
def Jr:∀w:World,(λos=>topRun treeTable pw w 11 ann 2 (S L2 538 879 w os).abs ⟨doneF .next,cE,⟨328,0,339,103⟩,B⟩)=λos=>some (F LF 879 w os):=λw=>by
 rw[PySem.W.Fast.te14082659384304107361,Wa]
 kernel_rfl
def Py:bE=(KN++(K4++(Ly++[]))):=by kernel_rfl
def BR(w:World)(os:OsState):topRun treeTable pw w 11 ann (1326+(1427+(1005+2))) (S LA 15 187 w os).abs (restOf bE env cE ⟨0,0,0,0⟩ B)=some (F LF 879 w os):=by
 rw[show restOf bE env cE ⟨0,0,0,0⟩ B=restOf (KN++(K4++(Ly++[]))) env cE ⟨0,0,0,0⟩ B from congrArg (λb=>restOf b env cE ⟨0,0,0,0⟩ B) Py];exact piece_app (segRun_of (congrFun (Pl w) os)) (piece_app (segRun_of (congrFun (PX w) os)) (piece_app (segRun_of (congrFun (Dw w) os)) (piece_nil (congrFun (Jr w) os))))
def OB(w:World)(os:OsState):topRun treeTable pw w 11 ann (12+(1+(1326+(1427+(1005+2))))) ⟨boot_heap w.params,⟨[]⟩,boot_drawn,boot_toks,os⟩ (topStub pw)=some (F LF 879 w os) :=
 go_top (congrFun (A4 w) os) (piece_block (congrFun (NU w) os) (BR w os))
end HD
end
section
namespace HD
open PySem PySem.W L2
noncomputable section
def vw:Program:=PySem.W.view pw [0,2,3,4,5,6,7,9,10,11,12,13,14,15,17,18,19,20,21,22,23,24,25,26,27,28,29,30,31,32,34,36,37,38,39,40,41,42,43,44,46,47,49,50,51,53,54,55,56,57,58,59,60,61,62,63,64,65,66]
def loose:List Str:=[]
noncomputable def as:List Addr:=[2,3,15,17,18,20,21,22,29,31,32,34,35,36,37,38,39,42,49,51,52,54,55,56,58,59,61,62,63,64,65,68,75,77,78,80,81,82,84,85,87,88,89,90,91,94,101,103,104,106,107,108,110,111,113,114,115,116,117,120,127,129,130,132,133,134,135,136,139,146,148,149,151,152,153,154,155,158,160,161,163,164,165,168,169,170,172,173,175,176,177,179,180,182,183,184,186,187,189,190,191,194,195,196,199,200,208,209,212,213,214,216,217,219,220,221,223,224,226,227,228,230,231,233,234,235,237,238,240,241,242,243,244,245,246,249,251,252,254,255,256,258,259,261,262,263,265,266,268,269,270,272,273,275,276,277,280,281,282,284,285,287,288,289,292,293,294,296,297,299,300,301,304,305,306,309,310,311,314,315,316,318,319,321,322,323,325,326,328,329,330,332,333,335,336,337,339,340,342,343,344,346,347,349,350,351,353,354,356,357,358,360,361,363,364,372,375,376,377,380,381,382,385,386,387,390,391,392,394,395,397,398,399,401,402,404,405,406,408,409,411,412,413,415,416,418,419,420,423,424,425,426,427,428,429,432,435,436,437,440,441,442,445,446,447,449,450,452,453,454,456,457,459,460,461,463,464,466,467,468,470,471,473,474,475,478,479,480,483,484,485,488,489,490,493,494,495,498,499,500,502,503,505,506,507,510,511,512,514,515,517,518,519,521,522,524,525,526,528,529,531,532,533,536,537]
def K(P:Params):Frag:=as.map λa=>(a,(LF P).getD a (su 0))
def hook:Hook:=kHook K as (λ_=>by kernel_rfl)
abbrev rr:RowW:=(PySem.Challenge.rw_dialvault_k42_whole_all_still_weights.row).toRowW
def Xt:Shared->Bool:=λs=>xlAt vw [] s&&recOk (RowW.records rr) s
def H1(P:Params):Heap:=⟨⟨LF P⟩,{}⟩
end
def Mx:∀w:World,((boot_heap w.params).isNs mainGlobals&&(Array.mk []:Array GenState).size==0,(boot_heap w.params).objs.size,(boot_heap w.params).nsMap mainGlobals "__annotations__")=(true,11,ann):=λw=>by
 rw[PySem.W.Fast.te8920871248978507458]
 kernel_rfl
def Pu(w:World):staticsOk (importedModules pw.main.body) (boot_heap w.params) (H1 w.params)=true:=by
 first|(rw[Vp,Vq];kernel_rfl)|(rw[Vp];kernel_rfl)|(rw[Vq];kernel_rfl)|(kernel_rfl)
def PM(w:World):namesBound pw (H1 w.params)=true:=by
 first|(rw[Vp,Vq];kernel_rfl)|(rw[Vp];kernel_rfl)|(rw[Vq];kernel_rfl)|(kernel_rfl)
def PQ(w:World)(os:_):gensDone ⟨H1 w.params,⟨[]⟩,⟨0,0,0,0⟩,879,os⟩=true:=by
 first|(rw[Vp,Vq];kernel_rfl)|(rw[Vp];kernel_rfl)|(rw[Vq];kernel_rfl)|(kernel_rfl)
def Pw(w:World):laidKept (boot_heap w.params) (H1 w.params)=true:=by
 first|(rw[Vp,Vq];kernel_rfl)|(rw[Vp];kernel_rfl)|(rw[Vq];kernel_rfl)|(kernel_rfl)
def Pm(w:World)(os:_):openSeen vw loose (importedModules pw.main.body) Xt true ⟨H1 w.params,⟨[]⟩,⟨0,0,0,0⟩,879,os⟩=openGood vw loose:=by
 first|(rw[Vp,Vq];kernel_rfl)|(rw[Vp];kernel_rfl)|(rw[Vq];kernel_rfl)|(kernel_rfl)
def PC(w:World)(os:_):Hook.obs hook ⟨H1 w.params,⟨[]⟩,⟨0,0,0,0⟩,879,os⟩=Hook.val hook w:=by
 first|(rw[Vp,Vq];kernel_rfl)|(rw[Vp];kernel_rfl)|(rw[Vq];kernel_rfl)|(kernel_rfl)
def Kl:∀w:World,(λos=>((staticsOk (importedModules pw.main.body) (boot_heap w.params) (H1 w.params)&&namesBound pw (H1 w.params)&&gensDone ⟨H1 w.params,⟨[]⟩,⟨0,0,0,0⟩,879,os⟩&&laidKept (boot_heap w.params) (H1 w.params)),openSeen vw loose (importedModules pw.main.body) Xt true ⟨H1 w.params,⟨[]⟩,⟨0,0,0,0⟩,879,os⟩,Hook.obs hook ⟨H1 w.params,⟨[]⟩,⟨0,0,0,0⟩,879,os⟩))=λ_=>(true,openGood vw loose,Hook.val hook w):=λw=>funext λos=>by
 rw[Pu,PM,PQ,Pw,Pm,PC];rfl
def Nh:LeftO pw vw loose Xt (Hook.obs hook) (Hook.val hook) 7636 :=
 LeftO.of_pieces (H₀:=boot_heap) (H₁:=H1) (gs₀:=⟨[]⟩) (gs₁:=⟨[]⟩) (d₀:=boot_drawn) (d₁:=⟨0,0,0,0⟩) (k₀:=boot_toks) (k₁:=879) (m₀:=11) (ann:=ann) (M:=(12+(1+(1326+(1427+(1005+2))))))
  (boot_open ↑10 ↑10 (λs=>by kernel_rfl)) Mx OB ↑10 Kl
end HD
end
section
open PySem PySem.W
def HD.said:PySem.Challenge.rw_dialvault_k42_whole_all_still_weights.wellSaid=true:=by
 decide +kernel
end
namespace L2
open PySem PySem.Spec PyProof.Rows
variable{X:Cx}
variable{n:Nat}
def CK(_ j:Int):Prop:=j≠0/\j.natAbs.log2<9000
def Bt:hX X (binaryOp .FloorDiv) (rI CK λi j=>.int (i.fdiv j)):=N0 λ_ _ _ _ _ _ _ hc q=>floordiv_int hc.1 q (.inl (PyProof.noPylong_of_log2 hc.2))
def F5:hX X (binaryOp .Mult) (rI (λi j=>IntMulOk i j) λi j=>.int (i*j)):=N0 λ_ _ _ _ _ _ _ hc q=>mul_int q hc
def C_{a b:Int}{m:Nat}(ha:a.natAbs<2^m)(hb:b.natAbs<2^n)(h:m+n<=134217728):IntMulOk a b:=IntMulOk.of_le (intBits_le_iff.mpr ha) (intBits_le_iff.mpr hb) h
def D9:bootBuiltins "isinstance"=some (.builtin "isinstance"):=by decide +kernel
def Jm:bootBuiltins "int"=some (.type "int"):=by decide +kernel
def GN:bootBuiltins "bool"=some (.type "bool"):=by decide +kernel
def pF:bootBuiltins "tuple"=some (.type "tuple"):=by decide +kernel
def oH:bootBuiltins "list"=some (.type "list"):=by decide +kernel
def Jj:bootBuiltins "sum"=some (.builtin "sum"):=by decide +kernel
def NY(K:U5):List V->Hp->VK->Prop:=λxs H Q=>∃x T t b,xs=[x,.ty T]/\jN K H x t/\Xx K t (.type T)=some b/\Q (.bl b) H
def BB:cQ X (.builtin "isinstance") (NY X.K):=by
 intro PZ s σ H xs us Q I r h;obtain⟨x,T,t,b,rfl,ty,e,q⟩:=h;cases r with
 | cons r1 r2 =>
  cases r2 with
  | cons r3 r4 =>
   cases r4;cases (show _=WD T from r3);exact Am I r1 ty e λtk=>⟨.bl b,H,I.tok tk,rfl,q⟩
section
variable(K:U5)
end
variable{ch:List Addr}{t':Nat}{h':Heap}{s:Shared}{H:Hp}{σ:St}{PZ:List (Addr×Obj)}
variable{x1:Nat}{elts:List Expr}{w:World}{P:Program}
def Inv.kc{a:Addr}{o:HO}(I:Inv X PZ σ H s)(k:∀b u,b ∉ ch->s.heap.get? b=some u->h'.get? b=some u)(RW:∀b∈ch,lh X PZ H b)(hp:s.heap.objs.size<=a)(hl:∀b∈ch,∃u,s.heap.get? b=some u)(new:bG X.prog X.w (upd H a o) h' a o):Inv X PZ σ (upd H a o) { s with heap:=h',toks:=t' }:=by
 have ne:∀b u,s.heap.get? b=some u->b≠a:=λb u e=>Vm (Vo (Vb e) hp);have Th:H a=none:=I.bJ.fresh hp;have SX:∀b u,H b=some u->b ∉ ch:=λb u e z=>by rw[(RW b z).1] at e;cases e
 have UU:∀b u,H b=some u->b≠a:=λb u e z=>by rw[z,Th] at e;cases e
 refine I.step (g':=s.gens) (d':=s.drawn) (ch:=ch) (λb hb=>?_) (λb u _ _ hc e _=>k b u hc e) (λb u _ _ hc e _=>⟨u.slots,k b u hc e⟩)
  (λb u _ e n=>by rwa[aB (ne b u e)]) (λb u hc e=>⟨u,k b u hc e⟩)
  (λb xs e=>by rwa[aB (UU b _ e)]) (λb ob u e=>by rwa[aB (UU b _ e)]) (λb ps e=>⟨#[],by rw[aB (UU b _ e),e];simp⟩) (λm hm=>?_) (λb u e=>?_) I.bare
 .obtain⟨_,f1,_,f3,f4,f5⟩:=RW b hb;exact⟨f3,f1,f4,f5⟩
 .obtain⟨ob,es,ep,ho,r⟩:=hm;exact⟨ob,es,ep,k _ ob (λz=>(RW _ z).2.1 rfl) ho,r⟩
 .by_cases z:b=a
  .subst z;rw[aH] at e;cases e;exact new
  .rw[aB z] at e;refine(I.bJ b u e).rj (λc v hc q=>k c v ?_ q) (λc q=>?_) λc ys q=>?_
   .rcases hc with z'|z'
    .rw[z'];exact SX b u e
    .exact SX c _ z'
   .rw[aB (UU c _ q)];exact q
   .rw[aB (UU c _ q)];exact q
def J7 (K : U5)(a : Addr) : It :=
  ⟨λi H => ∃xs x,gR K H a xs /\ xs[i]? = some x,
   λi H y H' => ∃p x,H p=none /\ y=.ref p /\ H'=upd H p (.tup [.int i,x]) /\ ∀xs,gR K H a xs -> xs[i]? = some x,
   λi H => ∃xs,gR K H a xs /\ xs.length <= i⟩
theorem zH{K:U5}{tp:Pos}(a e it:Addr)(Se:e≠it):Turn P w K (.Tuple elts x1 tp) (J7 K a) [e,it] e (λi h=>(∃old,IsEnum h e it i old)/\h.IsListIter it a i) where
 mem:=by simp
 obj:=λi h st b hb=>by
  obtain⟨⟨old,he⟩,⟨o,e1,c,d⟩⟩:=st;rcases Vn.mp hb with z|z
  .subst z;exact⟨_,he,λv z=>by cases z⟩
  .have z':b=it:=by simpa using z
   subst z';exact⟨o,e1,λv z=>by rw[d] at z;cases z⟩
 keep:=λi h h' st k=>by
  obtain⟨⟨old,he⟩,hit⟩:=st;exact⟨⟨old,k e ↑13 _ he⟩,hit.at λo x=>k it ↑13 o x⟩
 item:=by
  intro X hP hw hK hc i PZ s σ H E I hf st hg;subst hP hw hK;obtain⟨xs,x,hq,hx⟩:=hg;obtain⟨P7,rv,p,hz⟩:=I.list hq;obtain⟨u,hu,ru⟩:=rv.get hx;obtain⟨⟨old,he⟩,hit⟩:=st;have SE:e<s.heap.objs.size:=Vb he;have TQ:it<s.heap.objs.size:=by obtain⟨_,z,_⟩:=hit;exact Vb z
  refine wpAny_pyNext_enum_item he hit p.isList (x:=u) (by simpa using hu) Se λh' ho TR hT hsz hk=>⟨_,rfl,?_⟩
  refine aal (s:={ s with heap:=h',toks:=s.toks+1 }) ho λh2 he2 Rx=>?_;have SQ:∀b o,b ∉ [e,it]->s.heap.get? b=some o->h2.get? b=some o:=λb o hb q=>by
   have n1:b≠e:=λz=>hb (by simp[z]);have n2:b≠it:=λz=>hb (by simp[z]);exact(Rx.2 b n1).trans (hk b o n1 n2 q)
  have Ta:h2.get? s.heap.objs.size=some { cls:=.type "tuple",data:=.seq #[.int i s.toks,u] }:=(Rx.2 _ (WX SE)).trans hT;have I2:Inv X PZ σ (upd H s.heap.objs.size (.tup [.int i,x])) { s with heap:=h2,toks:=s.toks+1 } :=
   I.kc (ch:=[e,it]) SQ hf (U9 _) (λb hb=>by
    rcases Vn.mp hb with z|z
    .subst z;exact⟨_,he⟩
    .have z':b=it:=by simpa using z
     subst z';obtain⟨o,z,_⟩:=hit;exact⟨o,z⟩)
    ⟨by show 2<=sizeLine;decide,[.int i s.toks,u],.cons ⟨_,rfl⟩ (.cons ru .nil),⟨_,Ta,rfl,_,rfl⟩⟩
  have Ru:H s.heap.objs.size=none:=I.bJ.fresh (U9 _);refine⟨.ref s.heap.objs.size,_,I2,rfl,⟨_,x,Ru,rfl,rfl,λys hy=>by rwa[I.o7 hy hq]⟩,⟨⟨u,by simpa using he2⟩,TR.at λo z=>(Rx.2 it (WW Se)).trans z⟩,λb hb=>?_⟩;have nb:b≠s.heap.objs.size:=by
   rcases Vn.mp hb with z|z
   .rw[z];exact Vm SE
   .have z':b=it:=by simpa using z
    rw[z'];exact Vm TQ
  rw[aB nb];exact(hf b hb).1
 done:=by
  intro X hP hw hK hc i PZ s σ H E I hf st hg;subst hP hw hK;obtain⟨xs,hq,hx⟩:=hg;obtain⟨P7,rv,p,hz⟩:=I.list hq;have hl:=rv.length;obtain⟨⟨old,he⟩,hit⟩:=st;obtain⟨f0,f1,f2,f3,f4,f5⟩:=hf it ↑13;exact wpAny_pyNext_enum_end (I.ok.hd hc) he hit p.isList (by simp;lia) λh' eb=>⟨rfl,I.turned (t':=s.toks) (λb o hb e=>eb b o hb e) f0 f1 f3 f4 f5⟩
 self:=λ_ _ _ _ _ st h=>by
  obtain⟨⟨old,he⟩,_⟩:=st;exact Zq he h
variable{A:Around}{prog:Program}
variable{scope:Scope}{ifs:List Expr}{elt iter:Expr}
section
variable{R:Result->Shared->Prop}
def zX{target:Expr}{pos:Pos}{it acc:Value}{env:Env}(I:Nat->Shared->Prop)
  (turn:∀n s,I n s->wpAny ↑11 A (pyNext it) (λr s₁=>match r with
   | none=>R (.ok .next) s₁
   | some v=>wpAny ↑11 A (letOwnedTupleGo target it v) (λ_ s₂=>wpAny ↑11 A (assign target env v) (λ_ s₃ =>
     wpAny ↑11 A (forIn ifs true λc r=>if r=true then do let ok <- isTrue c env (eval c env);pure (abv ok) else pure (abv r)) (λok s₄ =>
      if ok=true then wpAny ↑11 A (eval elt env) (λx s₅ =>
       wpAny ↑11 A (call (.builtin "list.append") [acc,x]) (λ_ s₆=>∃m,m<n/\I m s₆) (λ_ _=>False) s₅) (λ_ _=>False) s₄
      else ∃m,m<n/\I m s₄) (λ_ _=>False) s₃) (λ_ _=>False) s₂) (λ_ _=>False) s₁) (λ_ _=>False) s)
  (n:Nat) (h:I n s) :
  codeAny ↑11 A (.compLoop (.ListComp elt [⟨target,iter,ifs,0⟩] scope pos) 0 it acc env) R s:=by
 refine codeAny_loop rfl I (λn s hI=>?_) n h;show wpAny _ A ((compTurn (.ListComp elt [⟨target,iter,ifs,0⟩] scope pos) 0 it acc env).onRaise (λx=>do noteFrame x env;theTreesLotGoes x)) _ _ s;refine wpAny_noted ?_;rw[compTurn_list];refine TZ (ZK (TZ (Xi (turn n s hI) (λr s₁ h₁=>?_) λ_ _ h'=>h'.elim)));cases r with
 | none=>exact U7 h₁
 | some v =>
  refine TZ (Xi h₁ (λ_ s₂ h₂=>TZ (Xi h₂ (λ_ s₃ h₃=>TZ (Xi h₃ (λok s₄ h₄=>?_) λ_ _ h'=>h'.elim)) λ_ _ h'=>h'.elim)) λ_ _ h'=>h'.elim);cases ok with
  | false=>exact U7 ⟨rfl,h₄⟩
  | true =>
   exact TZ (TZ (Xi h₄ (λx s₅ h₅=>TZ (Xi h₅ (λ_ s₆ h₆=>U7 (U7 ⟨rfl,h₆⟩)) λ_ _ h'=>h'.elim)) λ_ _ h'=>h'.elim))
end
def me(X:Cx)(scope:Scope)(cl:List (Str×Addr))(N:List Str)(C:Addr)(s₀:Shared)(H₀:Hp)(ex:List Addr)(PZ:List (Addr×Obj)):Cx :=
 { X with N:=N,s₀:=s₀,H₀:=H₀,env:=compEnvC scope cl C X.env,outer:=X.stack,stack:=X.stack,ex:=ex,fn:=λ_=>false,pn:=X.pn++PZ,xe:=λ_ _=>False }
inductive gW (X:Cx) (sc:Scope) (cl:List (Str×Addr)):List Str->List Nat->Prop where
 | nil:gW X sc cl [] []
 |cons {x:Str} {j:Nat} {c:Addr} {fs:List Str} {js:List Nat} (hN:X.N[j]?=some x) (hf:sc.names.lookup x=some .free) (hv:X.env.kindOf x=some .cell\/X.env.kindOf x=some .free) (hc:X.env.cells.lookup x=some c) (hl:cl.lookup x=some c) (r:gW X sc cl fs js):gW X sc cl (x::fs) (j::js)
inductive dJ (X:Cx):List (Str×Addr)->Prop where
 | nil:dJ X []
 |cons {x:Str} {c:Addr} {r:List (Str×Addr)} (h:X.env.cells.lookup x=some c) (t:dJ X r):dJ X ((x,c)::r)
theorem dJ.at{X:Cx}:∀{cl:List (Str×Addr)},dJ X cl->∀x c,cl.lookup x=some c->X.env.cells.lookup x=some c
 | _,.nil,_,_,e=>by simp at e
 | _,.cons (x:=y) (c:=d) h t,x,c,e=>by
  rw[W7] at e;cases q:x==y with
  | true =>
   rw[q] at e;have e':d=c:=Vk e;have q':x=y:=by simpa using q
   rwa[q',<- e']
  | false =>
   rw[q] at e;exact dJ.at t x c e
def fX(cl:List (Str×Addr))(names:List (Str×NameKind)):Bool:=names.all λy=>y.2 != .free||(cl.lookup y.1).isSome
def e8(names:List (Str×NameKind)):Bool:=names.all λy=>y.2 != .cell
def fO(names:List (Str×NameKind)):Bool:=names.all λy=>y.2 != .local||(names.lookup y.1==some .local)
def fG(ts:List Str)(js:List Nat)(σ:St):St:=ts.map (λ_=>none)++js.map λj=>(σ[j]?).join
def yx(wi:TI)(g:TG)(tt:Option TT)(te:TE)(ts:List Str)(js:List Nat):TE:=fun σ H Q=>wi σ H λJ H1=>∀D,H1 D=none ->
 ∃ W:Nat->Nat->St->Hp->Prop,(∃m,W 0 m (fG ts js σ) (upd H1 D (.lst [])))/\∀i m σ' H',W i m σ' H' ->
  (J.stop i H'/\Q (.ref D) H')\/(J.go i H'/\∃N:St->Hp->Prop,(∀σ'' H'',N σ'' H''->∃m',m'<m/\W (i+1) m' σ'' H'') ∧
   ∀ x H2,J.vd i H' x H2->g x σ' H2 fun σ2 H3=>match tt with
    | none=>te σ2 H3 λy H4=>∃ys,H4 D=some (.lst ys)/\ys.length<sizeLine/\N σ2 (upd H4 D (.lst (ys++[y])))
    |some t=>t σ2 H3 λb Ui=>if b=true then te σ2 Ui λy H4=>∃ys,H4 D=some (.lst ys)/\ys.length<sizeLine/\N σ2 (upd H4 D (.lst (ys++[y]))) else N σ2 Ui)
variable{x:Str}{C:Addr}
def qh {cl : List (Str × Addr)}{env : Env}(h : (compEnvC scope cl C env).kindOf x=some .cell \/ (compEnvC scope cl C env).kindOf x=some .free)(nc : e8 scope.names=true) : scope.names.lookup x=some .free := by
  have key : ∀(names : List (Str × NameKind)),e8 names=true ->
      ((names.map λ(n,k) => if (k == ZM && env.scope.kind == .function && env.kindOf n == some .cell) then (n,ab6) else (n,k)).lookup x=some .cell ∨
       (names.map λ(n,k) => if (k == ZM && env.scope.kind == .function && env.kindOf n == some .cell) then (n,ab6) else (n,k)).lookup x=some .free) -> names.lookup x=some .free := by
    intro names
    induction names with
    | nil => intro _ h; simp at h
    | cons p r ih =>
      obtain ⟨n,k⟩ := p;intro nc h;have nc' : (k != .cell)=true /\ e8 r=true := by
        unfold e8 at nc;rw [List.all_cons,Wg] at nc;exact nc
      rw [Vu] at h;dsimp only at h
      by_cases hc : (k == ZM && env.scope.kind == .function && env.kindOf n == some .cell)=true
      . rw [if_pos hc] at h;rw [W7] at h ⊢;cases q : x == n with
        | true =>
          have : k=.free := by
            rw [Wg,Wg] at hc;simpa using hc.1.1
          rw [this]
        | false =>
          rw [q] at h;exact ih nc'.2 h
      . rw [if_neg hc] at h;rw [W7] at h ⊢;cases q : x == n with
        | true =>
          rw [q] at h;have nk : k ≠ .cell := by simpa using nc'.1
          rcases h with h|h
          . exact absurd (Vk h) nk
          . exact h
        | false =>
          rw [q] at h;exact ih nc'.2 h
  exact key scope.names nc h
variable{js:List Nat}{ts:List Str}{te:TE}{tt:Option TT}{Qj:Pos}{tg:Expr}
theorem pf{cl:List (Str×Addr)}{pos:Pos}{wi:TI}{g:TG}{fs:List Str}(Qg:X.calm=true)(Qk:closureFor scope X.env=pure cl)(hk:scope.kind=.function)(nc:e8 scope.names=true)(lo:fO scope.names=true)(fh:fX cl scope.names=true)(ag:dJ X cl)(fr:gW X scope cl fs js)(hi:PI X tg iter wi)(hg:∀C s₀ H₀ ex PZ,PG (me X scope cl (ts++fs) C s₀ H₀ ex PZ) tg g)(ht:∀C s₀ H₀ ex PZ,match ifs,tt with|[],none=>True|[c],some t=>PT (me X scope cl (ts++fs) C s₀ H₀ ex PZ) c t|_,_=>False)(he:∀C s₀ H₀ ex PZ,PE (me X scope cl (ts++fs) C s₀ H₀ ex PZ) elt te)(hs:∀x,foldedSetIterable iter X.env x=pure x){Q:VK}(I:Inv X PZ σ H s)(h:yx wi g tt te ts js σ H Q)(use:Option (Value->Sem Unit))(Qv:Value->Shared->Prop)(Jr:∀(D:Addr)(H':Hp)(s':Shared)(C:Addr),Inv X PZ σ H' s'->Q (.ref D) H'->(∃m,s'.heap.Ns C m)->lh X PZ H' C->compPost ↑8 X.A X.xe use Qv (.ref D) C (.ok .next) s'):wpAny ↑8 X.A (comprehension (.ListComp elt [⟨tg,iter,ifs,0⟩] scope pos) scope X.env Qj (newList []) false (eval iter X.env) use) Qv X.xe s:=by
 have Sa:∀y∈scope.names,y.2≠.cell:=λy hy=>by
  have:=WM.mp nc y hy;simpa using this
 have TY:∀y∈scope.names,y.2=.local->scope.names.lookup y.1=some .local:=λy hy hl=>by
  have:=WM.mp lo y hy;rw[hl] at this;simpa using this
 refine wpAny_comprehension_free (use:=use) rfl hs Qk hk TY (cF (hi PZ s σ H _ I h) λv s1 h1=>cF h1 λitv s2 h2=>?_);obtain⟨it,fp,tn,J,H1,e,I2,T,Qe,f2,hJ⟩:=h2;subst e;refine Wd (wpAny_newFunctionEnv Sa (by intro y hy;simp at hy) (λh₁ hns1 hsb1=>?_) hk);dsimp only at hns1 hsb1 ⊢;generalize hH2:s2.heap.push { cls:=.type "list",dict:=none,data:=.seq ([]:List Value).toArray }=G at hns1 hsb1 ⊢;have hC:G.objs.size=s2.heap.objs.size+1:=by rw[<- hH2,V5]
 have old:∀b o,s2.heap.get? b=some o->h₁.get? b=some o:=λb o e=>by
  have hb:=Vb e;refine hsb1.extBut b o (Vm (Vo hb (X_ (by rw[hC];exact Xj _)))) (U3 _ ?_);rw[<- hH2];exact U3 _ e
 have SA:h₁.get? s2.heap.objs.size=some { cls:=.type "list",dict:=none,data:=.seq #[] }:=by
  refine hsb1.extBut _ _ (Vm (by rw[hC];exact Xj _)) (U3 _ ?_);rw[<- hH2];exact U_ _ rfl
 have nD:H1 s2.heap.objs.size=none:=I2.bJ.fresh (U9 _);have nC:H1 G.objs.size=none:=I2.bJ.fresh ⋯;obtain⟨W,⟨m0,w0⟩,turn⟩:=hJ _ nD;have Uz:∀b∈fp,b<s2.heap.objs.size:=λb hb=>by
  obtain⟨o,e,_⟩:=T.obj _ _ Qe b hb;exact Vb e
 have ltk:∀(x:Str)(c:Addr),cl.lookup x=some c->c<s2.heap.objs.size/\H1 c=none/\(∃v,s2.heap.IsCell c v):=λx c e=>by
  have e':=ag.at x c e;obtain⟨v,q⟩:=I2.cell x c e';exact⟨q.lt,I2.kF x c e',v,q⟩
 let X':=me X scope cl (ts++fs) G.objs.size s2 H1 fp PZ
 have okX:X'.Ok:=by
  refine⟨I2.ok.mod,hk,I2.ok.glob,I2.ok.blt,by show s2.heap.objs.size<=G.objs.size;lia,λx y c e1 e2=>I2.ok.inj x y c (ag.at x c e1) (ag.at y c e2),λx hx=>?_,λx c hf _=>(nomatch (show (false:Bool)=true from hf)),I2.ok.hd,I2.ok.frames,.inl rfl,λb hb=>⟨?_,λx c e z=>?_⟩,λb o e=>I2.bs b o e,Vz I2.ok.Hn I2.sz,λb o e hb=>?_,λb hb hz=>?_,I2.stack,λb hb=>I2.tP b hb⟩
  .have Sb:=qh (env:=X.env) hx nc;have hm:∃y∈scope.names,y.1=x/\y.2=.free:=by
    have:∀(l:List (Str×NameKind)),l.lookup x=some .free->∃y∈l,y.1=x/\y.2=.free:=by
     intro l
     induction l with
     | nil=>intro h;simp at h
     | cons p r ih =>
      intro h;rw[W7] at h;cases q:x==p.1 with
      | true =>
       rw[q] at h;exact⟨p,Vl,(by simpa using q:x=p.1).symm,Vk h⟩
      | false =>
       rw[q] at h;obtain⟨y,hy,r1,r2⟩:=ih h;exact⟨y,Vi _ hy,r1,r2⟩
    exact this _ Sb
   obtain⟨y,hy,r1,r2⟩:=hm;have:=WM.mp fh y hy;rw[r2] at this;have h':(cl.lookup y.1).isSome=true:=by simpa using this
   rw[r1] at h';exact Y4.mp h'
  .exact Vm (Vo (Uz b hb) (by show s2.heap.objs.size<=G.objs.size;lia))
  .exact(f2 b hb).2.2.2.2.1 x c (ag.at x c e) z
  .obtain⟨_,_,_,f3,_,_⟩:=f2 b hb;rcases f3 with z|z
   .exact I2.ok.zI b o e z
   .exact absurd (Vo (Vb (I2.ok.bs b o e).1) z) (XI _)
  .rcases Vn.mp (I2.uH b hz) with z|z
   .exact(f2 b hb).2.1 z
   .exact(f2 b hb).2.2.1 z
 have keepB:∀b o,s2.heap.get? b=some o->h₁.get? b=some o:=old;have I3:Inv X' [] (fG ts js σ) (upd H1 s2.heap.objs.size (.lst [])) { s2 with heap:=h₁,toks:=s2.toks+([]:List (Str×Value)).length }:=by
  have neD:∀b o,s2.heap.get? b=some o->b≠s2.heap.objs.size:=λb o e=>Vm (Vb e);refine⟨okX,rfl,I2.bare,⟨λb o e n hb hx=>old b o e,λb o e n hb hx=>⟨o.slots,old b o e⟩,λb o e n hx=>by rwa[aB (neD b o e)],λb o e hx=>⟨o,old b o e⟩,λb xs e=>?_,λb o u e=>?_,λb ps e=>?_⟩,⟨_,hns1,λi x v e1 e2 e3=>?_⟩,λx c e=>?_,?_,λx c e=>?_,λp hp=>?_,?_,?_⟩
  .rw[aB (bS e nD)];exact e
  .rw[aB (bS e nD)];exact e
  .exact⟨#[],by rw[aB (bS e nD)];exact V2 e ↑13⟩
  .
   have hlen:(ts.map (λ_=>(none:Option V))).length=ts.length:=U8 _;unfold fG at e2
   by_cases QP:i<ts.length
   .rw[VZ (by rwa[hlen]),VD] at e2;cases q:ts[i]?<;>rw[q] at e2<;>cases e2
   .rw[VL (by rw[hlen];lia),hlen] at e2;have e1':fs[i-ts.length]?=some x:=by
     have e1':(ts++fs)[i]?=some x:=e1;rw[VL ⋯] at e1';exact e1'
    have all:∀{fs:List Str}{js:List Nat},gW X scope cl fs js->∀k:Nat,fs[k]?=some x->(js.map λj=>(σ[j]?).join)[k]?=some (some v) ->
      ∃(j:Nat)(c:Addr),X.N[j]?=some x/\σ[j]?=some (some v)/\(X.env.kindOf x=some .cell\/X.env.kindOf x=some .free)/\X.env.cells.lookup x=some c/\cl.lookup x=some c/\scope.names.lookup x=some .free:=by
     intro fs js r
     induction r with
     | nil=>intro k e;simp at e
     | @cons y j c fs js hN hf hv hc hl r ih =>
      intro k e e';cases k with
      | zero =>
       have e0:y=x:=by simpa using e
       subst e0;have Ul:(σ[j]?).join=some v:=by simpa using e'
       refine⟨j,c,hN,?_,hv,hc,hl,hf⟩;cases q:σ[j]? with
       | none=>rw[q] at Ul;cases Ul
       | some z=>rw[q] at Ul;cases z with
        | none=>cases Ul
        | some z =>
         have:z=v:=by simpa using Ul
         rw[this]
      | succ k=>exact ih k (by simpa using e) (by simpa using e')
    obtain⟨j,c,q1,q2,q3,q4,q5,q6⟩:=all fr (i-ts.length) e1' e2;obtain⟨m,hn,hl⟩:=I2.loc;have vis:AK X.env.scope x:=by
     rcases q3 with z|z
     .exact .inr (.inl z)
     .exact .inr (.inr z)
    obtain⟨u,ru,lk⟩:=hl j x v q1 q2 vis;refine⟨u,ru,.inr ⟨?_,c,q5,?_⟩⟩
    .rcases e3 with z|z|z
     .exfalso;have key:∀(l:List (Str×NameKind)),(l.map λ(n,k)=>if (k==ZM&&X.env.scope.kind==.function&&X.env.kindOf n==some .cell) then (n,ab6) else (n,k)).lookup x=some .local->l.lookup x=some .local:=by
       intro l
       induction l with
       | nil=>intro h;simp at h
       | cons p r ih =>
        obtain⟨n,k⟩:=p;intro h;rw[Vu] at h;dsimp only at h
        by_cases hc:(k==ZM&&X.env.scope.kind==.function&&X.env.kindOf n==some .cell)=true
        .rw[if_pos hc] at h;rw[W7] at h ⊢;cases q:x==n with
         | true=>rw[q] at h;cases h
         | false=>rw[q] at h;exact ih h
        .rw[if_neg hc] at h;rw[W7] at h ⊢;cases q:x==n with
         | true=>rwa[q] at h
         | false=>rw[q] at h;exact ih h
      have:=key _ z;rw[q6] at this;cases this
     .exact .inl z
     .exact .inr z
    .rcases lk with ⟨k,_⟩|⟨_,c',e4,z⟩
     .rcases q3 with z|z<;>rw[z] at k<;>cases k
     .rw[q4] at e4;cases e4;obtain⟨o,ho,hd⟩:=z;exact⟨o,old c o ho,hd⟩
  .obtain⟨_,_,v,o,ho,hd⟩:=ltk x c e;exact⟨v,o,old c o ho,hd⟩
  .show upd H1 s2.heap.objs.size (.lst []) G.objs.size=none;rwa[aB (WX (by rw[hC];exact Xj _))]
  .obtain⟨q1,q2,_⟩:=ltk x c e;rwa[aB (Vm q1)]
  .have Su:p∈X.pn++PZ:=by
    have:p∈(X.pn++PZ)++[]:=hp
    rwa [Ww] at this
   obtain⟨e,n,ne,nf,d⟩:=I2.pin p Su;have QP:=Vb e;refine⟨old _ _ e,by rwa[aB (Vm QP)],?_,λhz=>?_,d⟩
   .show p.1≠G.objs.size;exact Vm (Nat.lt_trans QP (by rw[hC];exact Xj _))
   .rcases Vn.mp (I2.uH _ hz) with z|z
    .exact ne z
    .exact nf z
  .exact I2.bJ.laid old (U9 _) ⟨Vd _,[],0,.nil,SA⟩
  .show (fG ts js σ).length=(ts++fs).length;have frl:∀{fs:List Str}{js:List Nat},gW X scope cl fs js->fs.length=js.length:=by
    intro fs js r
    induction r with
    | nil=>rfl
    | cons _ _ _ _ _ _ ih=>rw[VF,VF,ih]
   unfold fG;rw[Vw,Vw,U8,U8,frl fr]
 have R8:∀{H':Hp},(∀b∈fp,H' b=none)->∀b∈fp,lh X' [] H' b:=λ{H'} hn b hb=>by
  obtain⟨_,f1,f3,_,f4,f5⟩:=f2 b hb;refine⟨hn b hb,okX.NX b hb |>.1,okX.Ec b hb,.inl hb,λx c e=>f4 x c (ag.at x c e),λp hp=>f5 p ?_⟩;have:p∈(X.pn++PZ)++[]:=hp
  rwa [Ww] at this
 have fin:∀{σ':St}{H':Hp}{s':Shared},Inv X' [] σ' H' s'->Q (.ref s2.heap.objs.size) H' ->
   compPost ↑8 X.A X.xe use Qv (.ref s2.heap.objs.size) G.objs.size (.ok .next) s':=by
  intro σ' H' s' I4 q;obtain⟨m,hn,_⟩:=I4.loc;have fC:H' G.objs.size=none:=I4.free;have Io:Inv X PZ σ H' s':=by
   refine I2.Dq (s':=s') (ch:=fp) I4.os ⟨λb o e n hb hx=>?_,λb o e n hb hx=>?_,λb o e n hx=>I4.base.free b o e n hx,λb o e hx=>?_,I4.base.t8,I4.base.mq,I4.base.vc⟩ I4.bJ I4.bare λb hb=>?_
   .exact I4.base.keep b o e n hb hx
   .exact I4.base.slot b o e n hb hx
   .exact I4.base.there b o e hx
   .obtain⟨_,f1,_,f3,f4,f5⟩:=f2 b hb;exact⟨f3,f1,f4,f5⟩
  have hCl:s2.heap.objs.size<=G.objs.size:=by rw[hC];exact ZQ _
  exact Jr _ H' s' _ Io q ⟨m,hn⟩ (I2.qS hCl fC)
 have loop:∀s3:Shared,s3={ s2 with heap:=h₁,toks:=s2.toks+([]:List (Str×Value)).length } ->
   codeAny ↑8 X.A (.compLoop (.ListComp elt [⟨tg,iter,ifs,0⟩] scope pos) 0 (.ref it) (.ref s2.heap.objs.size) (compEnvC scope cl G.objs.size X.env))
    (compPost ↑8 X.A X.xe use Qv (.ref s2.heap.objs.size) G.objs.size) s3:=by
  rintro s3 rfl;refine zX (λn s'=>∃i σ' H',Inv X' [] σ' H' s'/\tn i s'.heap/\(∀b∈fp,H' b=none)/\W i n σ' H') ?_ m0 ⟨0,_,_,I3,T.keep _ _ _ Qe λb _ o e=>old b o e,λb hb=>?_,w0⟩
  .rintro n s3 ⟨i,σ3,H3,I3,RJ,fr3,w3⟩;rcases turn i n σ3 H3 w3 with ⟨stop,qn⟩|⟨go,N,hN,step⟩
   .refine cF (T.done X' rfl rfl rfl Qg i [] s3 σ3 H3 _ I3 (R8 fr3) RJ stop) λr s4 ⟨hr,I4⟩=>?_;subst hr;exact fin I4 qn
   .refine cF (T.item X' rfl rfl rfl Qg i [] s3 σ3 H3 _ I3 (R8 fr3) RJ go) λr s4 ⟨u,hr,h4⟩=>?_;subst hr;refine cF h4 λ_ s5 ⟨x,H5,I5,r5,y5,TK,fr5⟩=>?_;have I5':=I5.pinned (R8 fr5) (T.obj _ _ TK);refine cF (hg _ _ _ _ _ _ s5 σ3 H5 x u _ I5' r5 (step x H5 y5)) λ_ s6 ⟨σ6,H6,I6,q6⟩=>?_;have again:∀{σ7:St}{H7:Hp}{s7:Shared},Inv X' ([]++nh fp s5.heap) σ7 H7 s7->N σ7 H7->∃m,m<n/\∃i σ' H',Inv X' [] σ' H' s7/\tn i s7.heap/\(∀b∈fp,H' b=none)/\W i m σ' H':=λ{σ7 H7 s7} I7 n7=>by
     obtain⟨m',hm,w7⟩:=hN σ7 H7 n7;refine⟨m',hm,i+1,σ7,H7,I7.ma,T.keep _ _ _ TK λb hb o e=>(I7.pin (b,o) (V0 _ (V0 _ (i5 hb e)))).1,λb hb=>?_,w7⟩;obtain⟨o,e,d⟩:=T.obj _ _ TK b hb;exact(I7.pin (b,o) (V0 _ (V0 _ (i5 hb e)))).2.1
    have tail:∀{H7:Hp}{s7:Shared},Inv X' ([]++nh fp s5.heap) σ6 H7 s7->(te σ6 H7 λy H4=>∃ys,H4 s2.heap.objs.size=some (.lst ys)/\ys.length<sizeLine/\N σ6 (upd H4 s2.heap.objs.size (.lst (ys++[y])))) ->
      wpAny ↑8 X.A (eval elt (compEnvC scope cl G.objs.size X.env)) (λx s₅=>wpAny ↑8 X.A (call (.builtin "list.append") [.ref s2.heap.objs.size,x])
       (λ_ s₆=>∃m,m<n/\∃i σ' H',Inv X' [] σ' H' s₆/\tn i s₆.heap/\(∀b∈fp,H' b=none)/\W i m σ' H') (λ_ _=>False) s₅) (λ_ _=>False) s7:=by
     intro H7 s7 I7 q7;refine cF (he _ _ _ _ _ _ s7 σ6 H7 _ I7 q7) λuy s8 ⟨y,H8,I8,ry,ys,hy,hl,q8⟩=>?_;refine cF (rV (X:=X') _ s8 σ6 H8 (.ref s2.heap.objs.size) [y] (.ref s2.heap.objs.size) [uy] (λ_ H9=>N σ6 H9) I8 rfl (.cons ry .nil) ⟨_,ys,y,rfl,rfl,hy,hl,q8⟩) λ_ s9 ⟨_,H9,I9,_,q9⟩=>?_;exact again I9 q9
    cases ifs with
    | nil =>
     cases tt with
     | none=>exact wpAny_tests_nil (tail I6 q6)
     | some t=>exact(ht 0 s2 H1 [] []).elim
    | cons c r =>
     cases r with
     | nil =>
      cases tt with
      | none=>exact(ht 0 s2 H1 [] []).elim
      | some t =>
       refine wpAny_tests_one (cF (ht G.objs.size s2 H1 fp PZ _ s6 σ6 H6 _ I6 q6) λb s7 ⟨H7,I7,q7⟩=>?_);cases b with
       | true =>
        rw[if_pos rfl] at q7 ⊢;exact tail I7 q7
       | false =>
        rw[if_neg VQ] at q7 ⊢;exact again I7 q7
     | cons _ _=>cases tt<;>exact(ht 0 s2 H1 [] []).elim
  .rw[aB (Vm (Uz b hb))];exact(f2 b hb).1
 exact codeAny_compStart_list (loop _ rfl) (T.self _ 0 _ _ _ (T.keep _ _ _ Qe λb _ o e=>old b o e) (loop _ rfl))
def Inv.other(I:Inv X PZ σ H s)(f:lh X PZ H C)(hs:Yb C s.heap h'):Inv X PZ σ H { s with heap:=h' }:=by
 obtain⟨f0,f1,_,f3,f4,f5⟩:=f;refine I.Dq (s':={ s with heap:=h' }) (ch:=[C]) rfl ⟨λb o e n hb hx=>?_,λb o e n hb hx=>?_,λb o e n hx=>n,λb o e hx=>?_,λ_ _ q=>q,λ_ _ _ q=>q,λb ps q=>⟨#[],by rw[q];simp⟩⟩ (λb u e=>?_) I.bare λb hb=>?_
 .exact(hs.2 b (λz=>hx (by rw[z];exact Vs.mpr rfl))).trans e
 .exact⟨o.slots,(hs.2 b (λz=>hx (by rw[z];exact Vs.mpr rfl))).trans e⟩
 .exact⟨o,(hs.2 b (λz=>hx (by rw[z];exact Vs.mpr rfl))).trans e⟩
 .refine(I.bJ b u e).rj (λc v hc q=>(hs.2 c ?_).trans q) (λ_ q=>q) λ_ _ q=>q;rcases hc with z|z
  .rw[z];exact bS e f0
  .exact bS z f0
 .rw[Vs.mp hb];exact⟨f3,f1,f4,f5⟩
def yQ{cl:List (Str×Addr)}{pos:Pos}{wi:TI}{g:TG}{fs:List Str}(Qg:X.calm=true)(Qk:closureFor scope X.env=pure cl)(hk:scope.kind=.function)(nc:e8 scope.names=true)(lo:fO scope.names=true)(fh:fX cl scope.names=true)(ag:dJ X cl)(fr:gW X scope cl fs js)(hi:PI X tg iter wi)(hg:∀C s₀ H₀ ex PZ,PG (me X scope cl (ts++fs) C s₀ H₀ ex PZ) tg g)(ht:∀C s₀ H₀ ex PZ,match ifs,tt with|[],none=>True|[c],some t=>PT (me X scope cl (ts++fs) C s₀ H₀ ex PZ) c t|_,_=>False)(he:∀C s₀ H₀ ex PZ,PE (me X scope cl (ts++fs) C s₀ H₀ ex PZ) elt te)(hs:autoParam ↑5 aI._auto_1):PE X (.ListComp elt [⟨tg,iter,ifs,0⟩] scope pos) (yx wi g tt te ts js):=by
 intro PZ s σ H Q I h;rw[eval_ListComp];refine pf Qg Qk hk nc lo fh ag fr hi hg ht he hs I h none _ λD H' s' C Io q hm f=>?_;obtain⟨m,hn⟩:=hm;exact⟨m,hn,λh' RY=>⟨.ref D,H',Io.other f RY,rfl,q⟩⟩
def xk(wi:TI)(g:TG)(te:TE)(ts:List Str)(js:List Nat):TE:=fun σ H Q=>wi σ H λJ H1=>∀D,H1 D=none ->
 ∃ W:Nat->Nat->St->Hp->Prop,(∃m,W 0 m (fG ts js σ) (upd H1 D (.lst [])))/\∀i m σ' H',W i m σ' H' ->
  (J.stop i H'/\Q (.ref D) H')\/(J.go i H'/\∃N:St->Hp->Prop,(∀σ'' H'',N σ'' H''->∃m',m'<m/\W (i+1) m' σ'' H'') ∧
   ∀x H2,J.vd i H' x H2->g x σ' H2 fun σ2 H3=>te σ2 H3 λy H4=>∃ys,H4 D=some (.lst ys)/\ys.length<sizeLine/\N σ2 (upd H4 D (.lst (ys++[y]))))
def yj(wi:TI)(g:TG)(t:TT)(te:TE)(ts:List Str)(js:List Nat):TE:=fun σ H Q=>wi σ H λJ H1=>∀D,H1 D=none ->
 ∃ W:Nat->Nat->St->Hp->Prop,(∃m,W 0 m (fG ts js σ) (upd H1 D (.lst [])))/\∀i m σ' H',W i m σ' H' ->
  (J.stop i H'/\Q (.ref D) H')\/(J.go i H'/\∃N:St->Hp->Prop,(∀σ'' H'',N σ'' H''->∃m',m'<m/\W (i+1) m' σ'' H'') ∧
   ∀x H2,J.vd i H' x H2->g x σ' H2 fun σ2 H3=>t σ2 H3 λb Ui=>if b=true then te σ2 Ui λy H4=>∃ys,H4 D=some (.lst ys)/\ys.length<sizeLine/\N σ2 (upd H4 D (.lst (ys++[y]))) else N σ2 Ui)
def C6{cl:List (Str×Addr)}{pos:Pos}{wi:TI}{g:TG}{fs:List Str}(Qg:X.calm=true)(Qk:closureFor scope X.env=pure cl)(hk:scope.kind=.function)(nc:e8 scope.names=true)(lo:fO scope.names=true)(fh:fX cl scope.names=true)(ag:dJ X cl)(fr:gW X scope cl fs js)(hi:PI X tg iter wi)(hg:∀C s₀ H₀ ex PZ,PG (me X scope cl (ts++fs) C s₀ H₀ ex PZ) tg g)(he:∀C s₀ H₀ ex PZ,PE (me X scope cl (ts++fs) C s₀ H₀ ex PZ) elt te)(hs:autoParam ↑5 aI._auto_1):PE X (.ListComp elt [⟨tg,iter,[],0⟩] scope pos) (xk wi g te ts js) :=
 yQ (tt:=none) Qg Qk hk nc lo fh ag fr hi hg (λ_ _ _ _ _=>trivial) he hs
variable{c:Expr}
def Dm{cl:List (Str×Addr)}{pos:Pos}{wi:TI}{g:TG}{t:TT}{fs:List Str}(Qg:X.calm=true)(Qk:closureFor scope X.env=pure cl)(hk:scope.kind=.function)(nc:e8 scope.names=true)(lo:fO scope.names=true)(fh:fX cl scope.names=true)(ag:dJ X cl)(fr:gW X scope cl fs js)(hi:PI X tg iter wi)(hg:∀C s₀ H₀ ex PZ,PG (me X scope cl (ts++fs) C s₀ H₀ ex PZ) tg g)(ht:∀C s₀ H₀ ex PZ,PT (me X scope cl (ts++fs) C s₀ H₀ ex PZ) c t)(he:∀C s₀ H₀ ex PZ,PE (me X scope cl (ts++fs) C s₀ H₀ ex PZ) elt te)(hs:autoParam ↑5 aI._auto_1):PE X (.ListComp elt [⟨tg,iter,[c],0⟩] scope pos) (yj wi g t te ts js) :=
 yQ (tt:=some t) Qg Qk hk nc lo fh ag fr hi hg ht he hs
def gg(h:Heap)(b:Bool)(l:Addr)(xs:Array Value):Prop:=match b with
 | true=>h.IsList l xs
 |false=>h.IsTuple l xs
def eO(h:Heap)(b:Bool)(it l:Addr)(i:Nat):Prop:=match b with
 | true=>h.IsListIter it l i
 |false=>h.IsTupleIter it l i
variable{l:Addr}{b:Bool}{h:Heap}
def gg.at{xs:Array Value}(x:gg h b l xs)(k:∀o,h.get? l=some o->h'.get? l=some o):gg h' b l xs:=by
 cases b with
 | true=>obtain⟨o,ho,r⟩:=(show h.IsList l xs from x);exact(show h'.IsList l xs from ⟨o,k o ho,r⟩)
 |false=>obtain⟨o,ho,r⟩:=(show h.IsTuple l xs from x);exact(show h'.IsTuple l xs from ⟨o,k o ho,r⟩)
variable{i:Nat}{it:Addr}
def eO.at(x:eO h b it l i)(k:∀o,h.get? it=some o->h'.get? it=some o):eO h' b it l i:=by
 cases b with
 | true=>obtain⟨o,ho,r⟩:=(show h.IsListIter it l i from x);exact(show h'.IsListIter it l i from ⟨o,k o ho,r⟩)
 |false=>obtain⟨o,ho,r⟩:=(show h.IsTupleIter it l i from x);exact(show h'.IsTupleIter it l i from ⟨o,k o ho,r⟩)
def eO.obj(x:eO h b it l i):∃o vs,h.get? it=some o/\o.data=.fields vs:=by
 cases b with
 | true=>obtain⟨o,ho,_,hd⟩:=(show h.IsListIter it l i from x);exact⟨o,_,ho,hd⟩
 |false=>obtain⟨o,ho,_,hd⟩:=(show h.IsTupleIter it l i from x);exact⟨o,_,ho,hd⟩
def gg.obj{xs:Array Value}(x:gg h b l xs):∃o n,h.get? l=some o/\o.data=.seq xs n:=by
 cases b with
 | true=>obtain⟨o,ho,_,n,hd⟩:=(show h.IsList l xs from x);exact⟨o,n,ho,hd⟩
 |false=>obtain⟨o,ho,_,n,hd⟩:=(show h.IsTuple l xs from x);exact⟨o,n,ho,hd⟩
variable{Q:Value->Shared->Prop}{items:Array Value}
variable{ys:Array Value}{k1 k2:Nat}{l1 l2:Addr}
section
variable{E:Value->Shared->Prop}
def ij{t:Addr}{x:Value}(hit:s.heap.IsTupleIter it t i)(ht:s.heap.IsTuple t items)(hx:items[i]?=some x)(hQ:∀h',h'.IsTupleIter it t (i+1)->Yb it s.heap h'->Q x { s with heap:=h' }):wpAny ↑11 A (Vt (.ref it)) Q E s:=by
 obtain⟨o,ho,hc,hd⟩:=id hit;obtain⟨ol,hol,_,nl,hdl⟩:=ht;unfold Vt;refine TZ (VY (name:=VS "__next__") hit.typeIs F.slot_tuple_iterator_next
  (Wb F.slot_tuple_iterator_next hit.typeIs F.entry_tuple_iterator_next ?_ (F.args_tuple_iterator_next_1 _)))
 show wpAny _ _ (field (.ref it) 0 >>= _) _ _ s;refine TZ (VO ho hd (x:=.ref t) rfl ?_);show wpAny _ _ (if (Vf t==VU)=true then _ else _) _ _ s;rw[if_neg (show ¬ ((Vf t==VU)=true) from VQ)];show wpAny _ _ (field (.ref it) 1 >>= _) _ _ s;refine TZ (VO ho hd (x:=.int i 0) rfl ?_);show wpAny _ _ (seqItems? (.ref t) >>= _) _ _ s;refine TZ (VW hol hdl ?_);simp only[VE,hx];refine TZ (Yq ho hd ↑13 (U7 ⟨x,rfl,U7 (hQ _ ?_ (Yp ..))⟩));exact⟨_,V1 _ ho (XX (W5 hd _)),(acC ..).trans hc,by
  rw[W5 hd];simp[rawInt]⟩
def fj{t:Addr}(hh:A.handled=none)(hit:s.heap.IsTupleIter it t i)(ht:s.heap.IsTuple t items)(hx:items[i]?=none)(hE:∀h' e,ac3 it s.heap h'->(∃o,h'.get? e=some o/\o.cls=.type "StopIteration")->E (.ref e) { s with heap:=h' }):wpAny ↑11 A (Vt (.ref it)) Q E s:=by
 obtain⟨o,ho,hc,hd⟩:=id hit;obtain⟨ol,hol,_,nl,hdl⟩:=ht;unfold Vt;refine TZ (VY (name:=VS "__next__") hit.typeIs F.slot_tuple_iterator_next
  (Wb F.slot_tuple_iterator_next hit.typeIs F.entry_tuple_iterator_next ?_ (F.args_tuple_iterator_next_1 _)))
 show wpAny _ _ (field (.ref it) 0 >>= _) _ _ s;refine TZ (VO ho hd (x:=.ref t) rfl ?_);show wpAny _ _ (if (Vf t==VU)=true then _ else _) _ _ s;rw[if_neg (show ¬ ((Vf t==VU)=true) from VQ)];show wpAny _ _ (field (.ref it) 1 >>= _) _ _ s;refine TZ (VO ho hd (x:=.int i 0) rfl ?_);show wpAny _ _ (seqItems? (.ref t) >>= _) _ _ s;refine TZ (VW hol hdl ?_);simp only[VE,hx];refine TZ (Xb (TZ (Yq ho hd ↑13 ?_)));show wpAny _ _ (newExc (.type "StopIteration") [] >>= _) _ _ _;refine TZ ?_;simp only[newExc,newTuple];refine TZ (Wd ?_ (by size_fits));refine TZ (m:=firstArgMember _ _) (abQ (a:=VU) (by first|rfl|(simp only[firstArgMember];rfl)) ?_);refine Wd ?_ (by size_fits);simp only[raiseNew];refine TZ (wpAny_handled ?_)
 first|rw[show A.in1.handled=none from hh]|rw[hh]
 refine TZ (U7 (wpAny_throw ?_));exact hE _ _ (((Yp ..).extBut.push _).push _) ⟨_,U_ _ rfl,rfl⟩
def cR{x:Value}(hit:eO s.heap b it l i)(hl:gg s.heap b l items)(hx:items[i]?=some x)(hQ:∀h',eO h' b it l (i+1)->Yb it s.heap h'->Q x { s with heap:=h' }):wpAny ↑11 A (Vt (.ref it)) Q E s:=by
 cases b with
 | true=>exact wpAny_nextOf_list_item hit hl hx hQ
 |false=>exact ij hit hl hx hQ
def hG(hh:A.handled=none)(hit:eO s.heap b it l i)(hl:gg s.heap b l items)(hx:items[i]?=none)(hE:∀h' e,ac3 it s.heap h'->(∃o,h'.get? e=some o/\o.cls=.type "StopIteration")->E (.ref e) { s with heap:=h' }):wpAny ↑11 A (Vt (.ref it)) Q E s:=by
 cases b with
 | true=>exact wpAny_nextOf_list_end hh hit hl hx hE
 |false=>exact fj hh hit hl hx hE
def Az{b1 b2:Bool}{z TI TO i1 i2:Addr}{xs:Array Value}{x y a b:Value}(D:ZipApart z TI TO i1 i2 l1 l2)(hz:IsZip s.heap z TI TO .none)(QR:IsPair s.heap TI (.ref i1) (.ref i2))(QT:IsPair s.heap TO a b)(h1:eO s.heap b1 i1 l1 k1)(h2:eO s.heap b2 i2 l2 k2)(Rt:gg s.heap b1 l1 xs)(Rp:gg s.heap b2 l2 ys)(hx:xs[k1]?=some x)(hy:ys[k2]?=some y)(hQ:∀h',IsZip h' z TI TO (rawInt s.heap.objs.size)->IsPair h' TO x y->eO h' b1 i1 l1 (k1+1)->eO h' b2 i2 l2 (k2+1)->IsPair h' s.heap.objs.size x y->h'.objs.size=s.heap.objs.size+1 ->(∀c o,c≠z->c≠TO->c≠i1->c≠i2->s.heap.get? c=some o->h'.get? c=some o)->Q (.ref s.heap.objs.size) { s with heap:=h' }):wpAny ↑11 A (Builtin.«zip.__next__» ⟨[.ref z],[]⟩) (λfin s'=>∃v,fin=.done (.ret v)/\Q v s') E s:=by
 show wpAny _ _ (field (.ref z) 2 >>= _) _ _ _;refine TZ (VO hz rfl (x:=.bool false) rfl ?_);show wpAny _ _ (field (.ref z) 3 >>= _) _ _ _;refine TZ (VO hz rfl (x:=.ref TI) rfl ?_);refine TZ (VW QR rfl ?_);show wpAny _ _ (VR (.ref z) >>= _) _ _ _;refine TZ ?_;unfold VR;refine TZ (VO hz rfl (x:=.none) rfl (U7 ?_));simp only[if_true];refine TZ (Xb ?_);refine TZ (VO hz rfl (x:=.ref TO) rfl ?_);refine TZ (V6 hz ↑13 λh₁ hz1 hs₁=>?_)
 replace hz1:IsZip h₁ z TI TO .ellipsis:=hz1
 refine TZ ?_;simp only[XM,ZZ,Y7,Zr];refine TZ (TZ (Xp ?_));show wpAny _ _ (Vt (.ref i1) >>= _) _ _ _;refine TZ (cR (h1.at λo e=>hs₁.extBut _ _ D.i1z e) (Rt.at λo e=>hs₁.extBut _ _ D.l1z e) hx λh₂ h1₂ hs2=>U7 ?_);have hTO2:IsPair h₂ TO a b:=hs2.extBut _ _ D.TOi1 (hs₁.extBut _ _ D.TOz QT);refine TZ (VW hTO2 rfl ?_);refine TZ (ZR hTO2 λh₃ hTO3 hs3=>?_)
 replace hTO3:IsPair h₃ TO x b:=hTO3
 refine TZ (Xf (U7 ?_));refine TZ (TZ (Xp ?_));show wpAny _ _ (Vt (.ref i2) >>= _) _ _ _;refine TZ (cR (h2.at λo e=>hs3.extBut _ _ D.TOi2.symm (hs2.extBut _ _ D.i12.symm (hs₁.extBut _ _ D.i2z e)))
  (Rp.at λo e=>hs3.extBut _ _ D.l2TO (hs2.extBut _ _ D.l2i1 (hs₁.extBut _ _ D.l2z e))) hy λh₄ h2₄ hs4=>U7 ?_)
 have hTO4:IsPair h₄ TO x b:=hs4.extBut _ _ D.TOi2 hTO3;refine TZ (VW hTO4 rfl ?_);refine TZ (ZR hTO4 λh₅ hTO5 hs5=>?_)
 replace hTO5:IsPair h₅ TO x y:=hTO5
 refine TZ (Xf (U7 (U7 ?_)));refine TZ (VW hTO5 rfl ?_);refine TZ (abR ?_);have hsz:h₅.objs.size=s.heap.objs.size:=by rw[hs5.1,hs4.1,hs3.1,hs2.1,hs₁.1]
 have hz5:IsZip h₅ z TI TO .ellipsis:=hs5.extBut _ _ D.TOz.symm (hs4.extBut _ _ D.i2z.symm (hs3.extBut _ _ D.TOz.symm (hs2.extBut _ _ D.i1z.symm hz1)));have hk5:∀c o,c≠z->c≠TO->c≠i1->c≠i2->s.heap.get? c=some o->h₅.get? c=some o:=λc o c1 c2 c3 c4 e =>
  hs5.extBut _ _ c2 (hs4.extBut _ _ c4 (hs3.extBut _ _ c2 (hs2.extBut _ _ c3 (hs₁.extBut _ _ c1 e))))
 have h1₅:eO h₅ b1 i1 l1 (k1+1):=h1₂.at λo e=>hs5.extBut _ _ D.TOi1.symm (hs4.extBut _ _ D.i12 (hs3.extBut _ _ D.TOi1.symm e));have h2₅:eO h₅ b2 i2 l2 (k2+1):=h2₄.at λo e=>hs5.extBut _ _ D.TOi2.symm e;have SN:z<h₅.objs.size:=Vb hz5;show wpAny _ _ (WR (.ref z) (.ref h₅.objs.size) >>= _) _ _ _;refine TZ ?_;unfold WR;have hz6:IsZip (h₅.push { cls:=.type "tuple",data:=.seq #[x,y] }) z TI TO .ellipsis:=U3 _ hz5;refine TZ (V6 hz6 ↑13 λh₇ hz7 hs7=>?_)
 replace hz7:IsZip h₇ z TI TO (rawInt h₅.objs.size):=hz7
 refine V6 hz7 ↑13 λh₈ hz₈ hs8=>?_
 replace hz₈:IsZip h₈ z TI TO (rawInt h₅.objs.size):=hz₈
 have up:∀c o,c≠z->h₅.get? c=some o->h₈.get? c=some o:=λc o c1 e=>hs8.extBut _ _ c1 (hs7.extBut _ _ c1 (U3 _ e));have hT8:IsPair h₈ h₅.objs.size x y:=hs8.extBut _ _ (WX SN) (hs7.extBut _ _ (WX SN) (U_ _ rfl));have hz8:h₈.objs.size=h₅.objs.size+1:=by rw[hs8.1,hs7.1,V5]
 rw[hsz] at hz₈ hT8 hz8;refine U7 ⟨_,rfl,?_⟩;show Q (.ref h₅.objs.size) _;rw[hsz];exact hQ h₈ hz₈ (up _ _ D.TOz hTO5) (h1₅.at λo e=>up _ o D.i1z e) (h2₅.at λo e=>up _ o D.i2z e) hT8 hz8 λc o c1 c2 c3 c4 e=>up c o c1 (hk5 c o c1 c2 c3 c4 e)
def B9{b1 b2:Bool}{z TI TO i1 i2:Addr}{xs:Array Value}{a b:Value}{Q:Fin->Shared->Prop}(hh:A.handled=none)(D:ZipApart z TI TO i1 i2 l1 l2)(hz:IsZip s.heap z TI TO .none)(QR:IsPair s.heap TI (.ref i1) (.ref i2))(QT:IsPair s.heap TO a b)(h1:eO s.heap b1 i1 l1 k1)(h2:eO s.heap b2 i2 l2 k2)(Rt:gg s.heap b1 l1 xs)(Rp:gg s.heap b2 l2 ys)(Ro:xs[k1]?=none\/ys[k2]?=none)(hE:∀h' e,(∀c o,c≠z->c≠TO->c≠i1->c≠i2->s.heap.get? c=some o->h'.get? c=some o)->(∃o,h'.get? e=some o/\o.cls=.type "StopIteration")->E (.ref e) { s with heap:=h' }):wpAny ↑11 A (Builtin.«zip.__next__» ⟨[.ref z],[]⟩) Q E s:=by
 show wpAny _ _ (field (.ref z) 2 >>= _) _ _ _;refine TZ (VO hz rfl (x:=.bool false) rfl ?_);show wpAny _ _ (field (.ref z) 3 >>= _) _ _ _;refine TZ (VO hz rfl (x:=.ref TI) rfl ?_);refine TZ (VW QR rfl ?_);show wpAny _ _ (VR (.ref z) >>= _) _ _ _;refine TZ ?_;unfold VR;refine TZ (VO hz rfl (x:=.none) rfl (U7 ?_));simp only[if_true];refine TZ (Xb ?_);refine TZ (VO hz rfl (x:=.ref TO) rfl ?_);refine TZ (V6 hz ↑13 λh₁ hz1 hs₁=>?_)
 replace hz1:IsZip h₁ z TI TO .ellipsis:=hz1
 refine TZ ?_;simp only[XM,ZZ,Y7,Zr];refine TZ (TZ (Xp ?_));show wpAny _ _ (Vt (.ref i1) >>= _) _ _ _;cases hx:xs[k1]? with
 | none =>
  refine TZ (hG hh (h1.at λo e=>hs₁.extBut _ _ D.i1z e) (Rt.at λo e=>hs₁.extBut _ _ D.l1z e) hx λh₂ e hs2 he=>?_);obtain⟨oe,RH,R_⟩:=he;have hz2:IsZip h₂ z TI TO .ellipsis:=hs2 _ _ D.i1z.symm hz1;have Tg:e≠z:=λx=>by subst x;rw[hz2] at RH;cases RH;simp at R_
  refine V6 hz2 ↑13 λh₃ _ hs3=>hE h₃ e (λc o c1 _ c3 _ x=>hs3.extBut _ _ c1 (hs2 _ _ c3 (hs₁.extBut _ _ c1 x))) ⟨oe,hs3.extBut _ _ Tg RH,R_⟩
 | some x =>
  have hy:ys[k2]?=none:=by rcases Ro with h|h;rw[hx] at h;cases h;exact h
  refine TZ (cR (h1.at λo e=>hs₁.extBut _ _ D.i1z e) (Rt.at λo e=>hs₁.extBut _ _ D.l1z e) hx λh₂ h1₂ hs2=>U7 ?_);have hTO2:IsPair h₂ TO a b:=hs2.extBut _ _ D.TOi1 (hs₁.extBut _ _ D.TOz QT);refine TZ (VW hTO2 rfl ?_);refine TZ (ZR hTO2 λh₃ hTO3 hs3=>?_);refine TZ (Xf (U7 ?_));refine TZ (TZ (Xp ?_));show wpAny _ _ (Vt (.ref i2) >>= _) _ _ _;refine TZ (hG hh (h2.at λo e=>hs3.extBut _ _ D.TOi2.symm (hs2.extBut _ _ D.i12.symm (hs₁.extBut _ _ D.i2z e)))
   (Rp.at λo e=>hs3.extBut _ _ D.l2TO (hs2.extBut _ _ D.l2i1 (hs₁.extBut _ _ D.l2z e))) hy λh₄ e hs4 he=>?_)
  obtain⟨oe,RH,R_⟩:=he;have hz₄:IsZip h₄ z TI TO .ellipsis:=hs4 _ _ D.i2z.symm (hs3.extBut _ _ D.TOz.symm (hs2.extBut _ _ D.i1z.symm hz1));have Tg:e≠z:=λx=>by subst x;rw[hz₄] at RH;cases RH;simp at R_
  refine V6 hz₄ ↑13 λh₅ _ hs5=>hE h₅ e (λc o c1 c2 c3 c4 x=>hs5.extBut _ _ c1 (hs4 _ _ c4 (hs3.extBut _ _ c2 (hs2.extBut _ _ c3 (hs₁.extBut _ _ c1 x))))) ⟨oe,hs5.extBut _ _ Tg RH,R_⟩
def vR(hl:gg s.heap b l items)(h:∀o,o=({ cls:=.type (if b then "list_iterator" else "tuple_iterator"),data:=.fields #[.ref l,.int 0 0] }:Obj)->Q (.ref s.heap.objs.size) { s with heap:=s.heap.push o }):wpAny ↑11 A (pyIter (.ref l)) Q E s:=by
 cases b with
 | true=>exact YE hl (h _ rfl)
 |false=>exact XQ hl (h _ rfl)
def mD{b1 b2:Bool}{z TI TO i1 i2:Addr}{xs:Array Value}{x y a b:Value}{Q:Option Value->Shared->Prop}(D:ZipApart z TI TO i1 i2 l1 l2)(hz:IsZip s.heap z TI TO .none)(QR:IsPair s.heap TI (.ref i1) (.ref i2))(QT:IsPair s.heap TO a b)(h1:eO s.heap b1 i1 l1 k1)(h2:eO s.heap b2 i2 l2 k2)(Rt:gg s.heap b1 l1 xs)(Rp:gg s.heap b2 l2 ys)(hx:xs[k1]?=some x)(hy:ys[k2]?=some y)(hQ:∀h',IsZip h' z TI TO (rawInt s.heap.objs.size)->IsPair h' TO x y->eO h' b1 i1 l1 (k1+1)->eO h' b2 i2 l2 (k2+1)->IsPair h' s.heap.objs.size x y->h'.objs.size=s.heap.objs.size+1 ->(∀c o,c≠z->c≠TO->c≠i1->c≠i2->s.heap.get? c=some o->h'.get? c=some o)->Q (some (.ref s.heap.objs.size)) { s with heap:=h' }):wpAny ↑11 A (pyNext (.ref z)) Q E s:=by
 have hT:s.TypeIs (.ref z) "zip" := ⟨_,hz,rfl⟩
 unfold pyNext;exact TZ (Xq (VY (name:=VS "__next__") hT F.slot_zip_next
  (Wb F.slot_zip_next hT F.entry_zip_next
   (Az D hz QR QT h1 h2 Rt Rp hx hy λh' a1 a2 a3 a4 a5 a6 a7=>U7 (hQ h' a1 a2 a3 a4 a5 a6 a7)) (F.args_zip_next_1 _))))
def nK{b1 b2:Bool}{z TI TO i1 i2:Addr}{xs:Array Value}{a b:Value}{Q:Option Value->Shared->Prop}(hh:A.handled=none)(D:ZipApart z TI TO i1 i2 l1 l2)(hz:IsZip s.heap z TI TO .none)(QR:IsPair s.heap TI (.ref i1) (.ref i2))(QT:IsPair s.heap TO a b)(h1:eO s.heap b1 i1 l1 k1)(h2:eO s.heap b2 i2 l2 k2)(Rt:gg s.heap b1 l1 xs)(Rp:gg s.heap b2 l2 ys)(Ro:xs[k1]?=none\/ys[k2]?=none)(hQ:∀h',(∀c o,c≠z->c≠TO->c≠i1->c≠i2->s.heap.get? c=some o->h'.get? c=some o)->Q none { s with heap:=h' }):wpAny ↑11 A (pyNext (.ref z)) Q E s:=by
 have hT:s.TypeIs (.ref z) "zip" := ⟨_,hz,rfl⟩
 unfold pyNext;refine TZ (Xq (VY (name:=VS "__next__") hT F.slot_zip_next
  (Wb F.slot_zip_next hT F.entry_zip_next (B9 hh D hz QR QT h1 h2 Rt Rp Ro λh' e hk he=>?_) (F.args_zip_next_1 _))))
 obtain⟨o,ho,hc⟩:=he;refine TZ (YO (T := "StopIteration") (b:=true) ⟨o,ho,hc⟩ aam ?_);exact U7 (hQ _ hk)
abbrev GW(b:Bool)(l:Addr):Obj:={ cls:=.type (if b then "list_iterator" else "tuple_iterator"),data:=.fields #[.ref l,.int 0 0] }
abbrev IX(h:Heap)(b1:Bool)(l1:Addr):Heap:=h.push (GW b1 l1)
abbrev Hg(h:Heap)(b1 b2:Bool)(l1 l2:Addr):Heap:=(IX h b1 l1).push (GW b2 l2)
abbrev ND(h:Heap)(b1 b2:Bool)(l1 l2:Addr):Heap:=(Hg h b1 b2 l1 l2).push { cls:=.type "tuple",data:=.seq #[.ref h.objs.size,.ref (IX h b1 l1).objs.size] }
abbrev NR(h:Heap)(b1 b2:Bool)(l1 l2:Addr):Heap:=(ND h b1 b2 l1 l2).push { cls:=.type "tuple",data:=.seq #[.none,.none] }
abbrev K2(h:Heap)(b1 b2:Bool)(l1 l2:Addr):Heap:=(NR h b1 b2 l1 l2).push { cls:=.type "zip",data:=.fields #[.none,.bool false,.bool false,.ref (Hg h b1 b2 l1 l2).objs.size,.ref (ND h b1 b2 l1 l2).objs.size] }
end
def gf{E:Value->Shared->Prop}(hl:gg s.heap b l items)(h:Q (.ref s.heap.objs.size) { s with heap:=s.heap.push (GW b l) }):wpAny ↑11 A (pyIter (.ref l)) Q E s:=vR hl λo e=>by subst e;exact h
theorem gg.push{h:Heap}{b:Bool}{l:Addr}{xs:Array Value}(x:gg h b l xs)(o:Obj):gg (h.push o) b l xs:=x.at λ_ e=>U3 _ e
def oW(b1 b2:Bool)(l1 l2:Addr)(xs ys:Array Value):Meets (Builtin.«zip.__new__» ⟨[.type "zip",.ref l1,.ref l2],[]⟩) (λ_ R s=>gg s.heap b1 l1 xs/\gg s.heap b2 l2 ys ∧R (.ok (.ret (.ref (NR s.heap b1 b2 l1 l2).objs.size))) { s with heap:=K2 s.heap b1 b2 l1 l2 }) :=
 .of_wp λprog w A R s h=>by
  obtain⟨hp,g,d,tk,os⟩:=s;obtain⟨Rt,Rp,h⟩:=h;have UL:=sub_zip;have hL1:gg (ZS ⟨hp,g,d,tk,os⟩) b1 l1 xs:=Rt;have hL2:gg (ZS ⟨hp.push (GW b1 l1),g,d,tk,os⟩) b2 l2 ys:=gg.push Rp _
  wp_walk using gf hL1,gf hL2
  exact⟨_,rfl,h⟩
section
variable{E:Value->Shared->Prop}
def eO.new(h:Heap)(b:Bool)(it l:Addr)(e:h.get? it=some (GW b l)):eO h b it l 0:=by
 cases b with
 | true=>exact⟨_,e,rfl,rfl⟩
 |false=>exact⟨_,e,rfl,rfl⟩
def AO{b1 b2:Bool}{xs:Array Value}(Rt:gg s.heap b1 l1 xs)(Rp:gg s.heap b2 l2 ys)(h:∀h',IsZip h' (s.heap.objs.size+4) (s.heap.objs.size+2) (s.heap.objs.size+3) .none->IsPair h' (s.heap.objs.size+2) (.ref s.heap.objs.size) (.ref (s.heap.objs.size+1)) ->IsPair h' (s.heap.objs.size+3) .none .none->eO h' b1 s.heap.objs.size l1 0->eO h' b2 (s.heap.objs.size+1) l2 0->h'.objs.size=s.heap.objs.size+5 ->(∀c o,s.heap.get? c=some o->h'.get? c=some o)->Q (.ref (s.heap.objs.size+4)) { s with heap:=h' }):wpAny ↑11 A (call (.type "zip") [.ref l1,.ref l2]) Q E s:=by
 refine acD F.called_zip ↑12 (F.typeCall_zip_2 _ _) (F.newCall_zip_2 _ _) (λobj=>F.args_object_init_3 obj _ _) F.entry_zip_new
  (oW b1 b2 l1 l2 xs ys) ⟨Rt,Rp,?_⟩
 have z1:(IX s.heap b1 l1).objs.size=s.heap.objs.size+1:=V5 ..;have z2:(Hg s.heap b1 b2 l1 l2).objs.size=s.heap.objs.size+2:=by rw[V5,z1]
 have z3:(ND s.heap b1 b2 l1 l2).objs.size=s.heap.objs.size+3:=by rw[V5,z2]
 have z4:(NR s.heap b1 b2 l1 l2).objs.size=s.heap.objs.size+4:=by rw[V5,z3]
 have z5:(K2 s.heap b1 b2 l1 l2).objs.size=s.heap.objs.size+5:=by rw[V5,z4]
 have g5:(K2 s.heap b1 b2 l1 l2).get? (NR s.heap b1 b2 l1 l2).objs.size=some _:=U_ _ rfl;have g4:(K2 s.heap b1 b2 l1 l2).get? (ND s.heap b1 b2 l1 l2).objs.size=some _:=U3 _ (U_ _ rfl);have g3:(K2 s.heap b1 b2 l1 l2).get? (Hg s.heap b1 b2 l1 l2).objs.size=some _:=U3 _ (U3 _ (U_ _ rfl));have g2:(K2 s.heap b1 b2 l1 l2).get? (IX s.heap b1 l1).objs.size=some _:=U3 _ (U3 _ (U3 _ (U_ _ rfl)));have g1:(K2 s.heap b1 b2 l1 l2).get? s.heap.objs.size=some _:=U3 _ (U3 _ (U3 _ (U3 _ (U_ _ rfl))));show _/\_;rw[z2,z3,z4] at g5;rw[z1,z2] at g3;rw[z3] at g4;rw[z1] at g2;rw[z4];exact⟨⟨_,g5,rfl⟩,h _ g5 g3 g4 (eO.new _ b1 _ _ g1) (eO.new _ b2 _ _ g2) z5 λc o x =>
  U3 _ (U3 _ (U3 _ (U3 _ (U3 _ x))))⟩
end
def kn(K:U5)(H:Hp)(b:Bool)(a:Addr)(xs:List V):Prop:=match b with
 | true=>gR K H a xs
 |false=>gm K H a xs
variable{tl:TA}
def Inv.row{a:Addr}{xs:List V}(I:Inv X PZ σ H s)(h:kn X.K H b a xs):∃P7:List Value,Vals xs P7/\gg s.heap b a P7.toArray/\xs.length<=sizeLine:=by
 cases b with
 | true =>
  obtain⟨P7,r,p,z⟩:=I.list h;exact⟨P7,r,p.isList,z⟩
 | false =>
  obtain⟨P7,r,p,z⟩:=I.tuple h;exact⟨P7,r,p,z⟩
def Inv.lZ{a:Addr}{xs ys:List V}(I:Inv X PZ σ H s)(h:kn X.K H b a xs)(h':kn X.K H b a ys):xs=ys:=by
 cases b with
 | true=>exact I.o7 h h'
 |false=>exact I.mP h h'
def Inv.yP(I:Inv X PZ σ H s)(k:∀b u,b ∉ ch->s.heap.get? b=some u->h'.get? b=some u)(RW:∀b∈ch,lh X PZ H b):Inv X PZ σ H { s with heap:=h',toks:=t' }:=by
 have SX:∀b u,H b=some u->b ∉ ch:=λb u e z=>by rw[(RW b z).1] at e;cases e
 refine I.step (g':=s.gens) (d':=s.drawn) (ch:=ch) (λb hb=>?_) (λb u _ _ hc e _=>k b u hc e) (λb u _ _ hc e _=>⟨u.slots,k b u hc e⟩)
  (λb u _ e n=>n) (λb u hc e=>⟨u,k b u hc e⟩) (λb xs e=>e) (λb ob u e=>e) (λb ps e=>⟨#[],by rw[e];simp⟩) (λm hm=>?_) (λb u e=>?_) I.bare
 .obtain⟨_,f1,_,f3,f4,f5⟩:=RW b hb;exact⟨f3,f1,f4,f5⟩
 .obtain⟨ob,es,ep,ho,r⟩:=hm;exact⟨ob,es,ep,k _ ob (λz=>(RW _ z).2.1 rfl) ho,r⟩
 .refine(I.bJ b u e).rj (λc v hc q=>k c v ?_ q) (λc q=>q) λc ys q=>q;rcases hc with z'|z'
  .rw[z'];exact SX b u e
  .exact SX c _ z'
def cD{a c:Addr}{xs:List V}(I:Inv X PZ σ H s)(h:kn X.K H b a xs)(f:lh X PZ H c):a≠c:=by
 have rd:∀{u:HO},Rd H a u->a≠c:=λ{u} r=>by
  rcases r with r|⟨o,r⟩
  .exact bS r f.1
  .exact bS r f.1
 have mk:∀{o:Obj},X.K.lookup a=some o->a≠c:=λ{o} e z=>by
  subst z;have e':=I.ok.mod.LH _ _ e;rcases f.2.2.2.1 with q|q
  .exact I.ok.zI _ _ e' q
  .exact absurd (Vo (Vb (I.ok.bs _ _ e').1) q) (XI _)
 cases b with
 | true =>
  rcases(show gR X.K H a xs from h) with r|⟨o,P7,n,e,_⟩
  .exact rd r
  .exact mk e
 | false =>
  rcases(show gm X.K H a xs from h) with r|⟨o,P7,n,e,_⟩
  .exact rd r
  .exact mk e
def N9 (K : U5)(b1 b2 : Bool)(a1 a2 : Addr) : It :=
  ⟨λi H => ∃xs ys x y,kn K H b1 a1 xs /\ kn K H b2 a2 ys /\ xs[i]? = some x /\ ys[i]? = some y,
   λi H v H' => ∃p x y,H p=none /\ v=.ref p /\ H'=upd H p (.tup [x,y]) /\ (∀xs,kn K H b1 a1 xs -> xs[i]? = some x) /\ (∀ys,kn K H b2 a2 ys -> ys[i]? = some y),
   λi H => ∃xs ys,kn K H b1 a1 xs /\ kn K H b2 a2 ys /\ (xs.length <= i \/ ys.length <= i)⟩
theorem Cs{K:U5}{tp:Pos}(b1 b2:Bool)(a1 a2 z TI TO i1 i2:Addr)(D:TI≠z/\TO≠z/\i1≠z/\i2≠z/\TI≠TO/\TI≠i1/\TI≠i2/\TO≠i1/\TO≠i2/\i1≠i2):Turn P w K (.Tuple elts x1 tp) (N9 K b1 b2 a1 a2) [z,TO,i1,i2,TI] z (λi h=>IsZip h z TI TO .none/\IsPair h TI (.ref i1) (.ref i2)/\(∃a b,IsPair h TO a b)/\eO h b1 i1 a1 i/\eO h b2 i2 a2 i) where
 mem:=by simp
 obj:=λi h st b hb=>by
  obtain⟨hz,QR,⟨a,c,QT⟩,h1,h2⟩:=st;simp only[Vn,Wo,or_false] at hb;rcases hb with q|q|q|q|q<;>subst q
  .exact⟨_,hz,λv z=>by cases z⟩
  .exact⟨_,QT,λv z=>by cases z⟩
  .obtain⟨o,vs,e,d⟩:=h1.obj;exact⟨o,e,λv z=>by rw[d] at z;cases z⟩
  .obtain⟨o,vs,e,d⟩:=h2.obj;exact⟨o,e,λv z=>by rw[d] at z;cases z⟩
  .exact⟨_,QR,λv z=>by cases z⟩
 keep:=λi h h' st k=>by
  obtain⟨hz,QR,⟨a,c,QT⟩,h1,h2⟩:=st;exact⟨k z ↑13 _ hz,k TI ↑13 _ QR,⟨a,c,k TO ↑13 _ QT⟩,h1.at λo e=>k i1 ↑13 o e,h2.at λo e=>k i2 ↑13 o e⟩
 item:=by
  intro X hP hw hK hc i PZ s σ H E I hf st hg;subst hP hw hK;obtain⟨xs,ys,x,y,QS,QJ,hx,hy⟩:=hg;obtain⟨SO,Tt,p1,UO⟩:=I.row QS;obtain⟨QU,Tu,p2,S8⟩:=I.row QJ;obtain⟨u1,hu1,ru1⟩:=Tt.get hx;obtain⟨u2,hu2,ru2⟩:=Tu.get hy;obtain⟨hz,QR,⟨a,c,QT⟩,h1,h2⟩:=st;obtain⟨d1,d2,d3,d4,d5,d6,d7,d8,d9,d10⟩:=D;obtain⟨o1,n1,e1,dd1⟩:=p1.obj;obtain⟨o2,n2,e2,S_⟩:=p2.obj;obtain⟨oi1,vs1,Um,di1⟩:=h1.obj;obtain⟨oi2,vs2,Uo,di2⟩:=h2.obj;have D:ZipApart z TI TO i1 i2 a1 a2:=⟨d1,d2,d3,d4,d5,d6,d7,d8,d9,d10,cD I QS (hf z ↑13),cD I QS (hf TO ↑13),cD I QS (hf i1 ↑13),cD I QS (hf i2 ↑13),
   cD I QJ (hf z ↑13),cD I QJ (hf TO ↑13),cD I QJ (hf i1 ↑13),cD I QJ (hf i2 ↑13)⟩
  refine mD D hz QR QT h1 h2 p1 p2 (x:=u1) (y:=u2) (by simpa using hu1) (by simpa using hu2) λh' g1 g2 g3 g4 g5 g6 g7=>⟨_,rfl,?_⟩
  refine aax (s:={ s with heap:=h' }) g1 λh3 UP Sg=>?_;have Ru:H s.heap.objs.size=none:=I.bJ.fresh (U9 _);have lt:∀{c:Addr}{o:Obj},s.heap.get? c=some o->c≠s.heap.objs.size:=λe=>Vm (Vb e);have SU:∀b o,b ∉ [z,TO,i1,i2,TI]->s.heap.get? b=some o->h3.get? b=some o:=λb o hb q=>by
   simp only[Vn,Wo,or_false,not_or] at hb;exact(Sg.2 b hb.1).trans (g7 b o hb.1 hb.2.1 hb.2.2.1 hb.2.2.2.1 q)
  have hT3:h3.get? s.heap.objs.size=some { cls:=.type "tuple",data:=.seq #[u1,u2] }:=(Sg.2 _ (lt hz).symm).trans g5;have I3:Inv X PZ σ (upd H s.heap.objs.size (.tup [x,y])) { s with heap:=h3,toks:=s.toks } :=
   I.kc (ch:=[z,TO,i1,i2,TI]) SU hf (U9 _) (λb hb=>by
    simp only[Vn,Wo,or_false] at hb;rcases hb with q|q|q|q|q<;>subst q
    .exact⟨_,hz⟩
    .exact⟨_,QT⟩
    .exact⟨_,Um⟩
    .exact⟨_,Uo⟩
    .exact⟨_,QR⟩)
    ⟨by show 2<=sizeLine;decide,[u1,u2],.cons ru1 (.cons ru2 .nil),⟨_,hT3,rfl,_,rfl⟩⟩
  refine⟨.ref s.heap.objs.size,_,I3,rfl,⟨_,x,y,Ru,rfl,rfl,λzs Tq=>by rwa[I.lZ Tq QS],λzs Tq=>by rwa[I.lZ Tq QJ]⟩,
   ⟨UP,(Sg.2 TI d1).trans (g7 TI _ d1 d5 d6 d7 QR),⟨_,_,(Sg.2 TO d2).trans g2⟩,g3.at λo e=>(Sg.2 i1 d3).trans e,g4.at λo e=>(Sg.2 i2 d4).trans e⟩,λb hb=>?_⟩
  have nb:b≠s.heap.objs.size:=by
   simp only[Vn,Wo,or_false] at hb;rcases hb with q|q|q|q|q<;>subst q
   .exact lt hz
   .exact lt QT
   .exact lt Um
   .exact lt Uo
   .exact lt QR
  rw[aB nb];exact(hf b hb).1
 done:=by
  intro X hP hw hK hc i PZ s σ H E I hf st hg;subst hP hw hK;obtain⟨xs,ys,QS,QJ,Ro⟩:=hg;obtain⟨SO,Tt,p1,UO⟩:=I.row QS;obtain⟨QU,Tu,p2,S8⟩:=I.row QJ;obtain⟨hz,QR,⟨a,c,QT⟩,h1,h2⟩:=st;obtain⟨d1,d2,d3,d4,d5,d6,d7,d8,d9,d10⟩:=D;have D:ZipApart z TI TO i1 i2 a1 a2:=⟨d1,d2,d3,d4,d5,d6,d7,d8,d9,d10,cD I QS (hf z ↑13),cD I QS (hf TO ↑13),cD I QS (hf i1 ↑13),cD I QS (hf i2 ↑13),
   cD I QJ (hf z ↑13),cD I QJ (hf TO ↑13),cD I QJ (hf i1 ↑13),cD I QJ (hf i2 ↑13)⟩
  have l1:=Tt.length;have l2:=Tu.length;refine nK (I.ok.hd hc) D hz QR QT h1 h2 p1 p2 ?_ λh' k=>⟨rfl,?_⟩
  .rcases Ro with q|q
   .exact .inl (by simp;lia)
   .exact .inr (by simp;lia)
  .exact I.yP (t':=s.toks) (ch:=[z,TO,i1,i2,TI]) (λb u hb e=>by
    simp only[Vn,Wo,or_false,not_or] at hb;exact k b u hb.1 hb.2.1 hb.2.2.1 hb.2.2.2.1 e) hf
 self:=λ_ _ _ _ _ st h=>by
  obtain⟨hz,_⟩:=st;exact ZH hz h
theorem Lq(n:Nat):n+2≠n+4/\n+3≠n+4/\n≠n+4/\n+1≠n+4/\n+2≠n+3/\n+2≠n/\n+2≠n+1/\n+3≠n/\n+3≠n+1/\n≠n+1:=by
 refine⟨?_,?_,?_,?_,?_,?_,?_,?_,?_,?_⟩<;>lia
def M5(K:U5)(tl:TA):TI:=fun σ H R=>tl σ H λvs H1=>∃b1 b2 a1 a2,vs=[.ref a1,.ref a2]/\(∃xs,kn K H1 b1 a1 xs)/\(∃ys,kn K H1 b2 a2 ys)/\R (N9 K b1 b2 a1 a2) H1
def kO{tp:Pos}{l1 l2:Expr}{p pos:Pos}(hg:Gl X "zip")(hm:X.mg "zip"=none)(hl:PA X [l1,l2] tl)(hs:autoParam (starEach [l1,l2] X.env=[(false,eval l1 X.env),(false,eval l2 X.env)]) aR._auto_1)(Rx:autoParam (starEach [l2] X.env=[(false,eval l2 X.env)]) aR._auto_1):PI X (.Tuple elts x1 tp) (.Call (.Name "zip" p) [l1,l2] [] pos) (M5 X.K tl):=by
 intro PZ s σ H R I h;refine Call_ (iW I hg hm abB (Wj (cF (hl pos PZ s σ H _ I h) λus s1 ⟨vs,H1,I1,r1,q1⟩=>?_) (by rw[hs,Rx]) (by rw[Rx];rfl)));obtain⟨b1,b2,a1,a2,e,⟨xs,QS⟩,⟨ys,QJ⟩,q⟩:=q1;subst e;cases r1 with
 | cons r rr =>
  cases rr with
  | cons r' rr =>
   cases rr;cases (show _=Vf a1 from r);cases (show _=Vf a2 from r');obtain⟨SO,Tt,p1,UO⟩:=I1.row QS;obtain⟨QU,Tu,p2,S8⟩:=I1.row QJ;refine AO p1 p2 λh' g1 g2 g3 g4 g5 g6 g7=>?_;have I2:Inv X PZ σ H1 { s1 with heap:=h' }:=I1.kept (t':=s1.toks) g7;refine ZH (s:={ s1 with heap:=h' }) g1 ?_;refine⟨s1.heap.objs.size+4,[s1.heap.objs.size+4,s1.heap.objs.size+3,s1.heap.objs.size,s1.heap.objs.size+1,s1.heap.objs.size+2],_,_,H1,rfl,I2,
    Cs b1 b2 a1 a2 _ _ _ _ _ (Lq s1.heap.objs.size),⟨g1,g2,⟨_,_,g3⟩,g4,g5⟩,λb hb=>?_,q⟩
   have hle:s1.heap.objs.size<=b:=by
    simp only[Vn,Wo,or_false] at hb;rcases hb with q|q|q|q|q
    .rw[q];exact WN _ 4
    .rw[q];exact WN _ 3
    .rw[q];exact U9 _
    .rw[q];exact WN _ 1
    .rw[q];exact WN _ 2
   exact I1.qS hle (I1.bJ.fresh hle)
def MZ(K:U5)(b:Bool)(a:Addr):It:=match b with
 | true=>O7 K a
 |false=>O5 K a
def M8(K:U5)(tl:TE):TI:=fun σ H R=>tl σ H λx H1=>∃b a,x=.ref a/\(∃xs,kn K H1 b a xs)/\R (MZ K b a) H1
def dr{l:Expr}{tl:TE}(hl:PE X l tl):PI X tg l (M8 X.K tl):=by
 intro PZ s σ H R I h;refine cF (hl PZ s σ H _ I h) λv s1 ⟨x,H1,I1,r1,q1⟩=>?_;obtain⟨b,a,e,⟨xs,hq⟩,q⟩:=q1;subst e;cases r1;cases b with
 | true =>
  obtain⟨P7,rv,p,hz⟩:=I1.list hq;refine YE p.isList ?_;refine⟨s1.heap.objs.size,[s1.heap.objs.size],_,_,H1,rfl,I1.kept (t':=s1.toks) λb o e=>U3 _ e,sW a _,⟨_,U_ _ rfl,rfl,rfl⟩,λb hb=>?_,q⟩;have e:b=s1.heap.objs.size:=by simpa using hb
  subst e;exact I1.qS (U9 _) (I1.bJ.fresh (U9 _))
 | false =>
  obtain⟨P7,rv,p,hz⟩:=I1.tuple hq;refine XQ (show s1.heap.IsTuple a P7.toArray from p) ?_;refine⟨s1.heap.objs.size,[s1.heap.objs.size],_,_,H1,rfl,I1.kept (t':=s1.toks) λb o e=>U3 _ e,pE a _,⟨_,U_ _ rfl,rfl,rfl⟩,λb hb=>?_,q⟩;have e:b=s1.heap.objs.size:=by simpa using hb
  subst e;exact I1.qS (U9 _) (I1.bJ.fresh (U9 _))
def AL(hc:X.calm=true):cQ X (.builtin "sum") (λxs H Q=>∃(a:Addr)(ns:List Int),xs=[.ref a]/\gR X.K H a (ns.map V.int)/\Q (.int ns.sum) H):=by
 intro PZ s σ H xs us Q I r h;obtain⟨a,ns,rfl,hq,q⟩:=h;cases r with
 | cons r1 r2 =>
  cases r2;cases (show _=Vf a from r1);obtain⟨P7,rv,p,hz⟩:=I.list hq;have hi:=intsAre_of rv;obtain⟨xs',e⟩:=hi.allInts.items;have e3:numsOf (intItems xs').toList=ns:=by rw[<- e];exact hi.numsOf
  rw[nums_intItems] at e3;refine sum_intListG (I.ok.hd hc) (by rw[<- e];exact p.isList) λh' tk t' hk=>⟨.int ns.sum,H,I.kept (t':=tk) hk,⟨t',?_⟩,q⟩
  rw[preSum_eq,Wr ↑13,e3]
structure BK (K:U5) (C:Addr):Prop where
 ga:V_ K (.ref C) "__getattribute__"=some (some (.builtin "BaseException.__getattribute__"))
 gn:V_ K (.ref C) "__getattr__"=some none
 hd:Zk K C=true
 sa:V_ K (.ref C) "__setattr__"=some (some (.builtin "object.__setattr__"))
 mb:aaK K C (.type "BaseException")=some true
 mo:aaK K C (.type "object")=some true
 ca:V_ K (.ref C) "__class__"=some (some (.builtin "object.__class__"))
 cg:Zl K (.builtin "object.__class__") "__get__"=some (some (.builtin "getset_descriptor.__get__"))
 ct:ZW K (.builtin "object.__class__")=some true
variable{name:Str}{od:Option Obj}{ox:Obj}
section
variable{E:Value->Shared->Prop}{K:U5}{x:Addr}
def C4:builtinKind "BaseException.__getattribute__"=some .slot:=by decide +kernel
def Be:splitId "BaseException.__getattribute__"=some ("BaseException","__getattribute__"):=by decide +kernel
def IC{tk:Tok}{fill expr:Bool}(c:BK K C)(X:K.In s.heap)(I:Zj s.heap x ox C od)(h:wpAny ↑11 A.in1 (Builtin.«object.__getattribute__» ⟨[.ref x,.str name tk],[]⟩) (λfin s'=>match fin with|.done (.ret v)=>wpAny ↑11 A (handedOut v) Q E s'|_=>False) (λ_ _=>False) s):wpAny ↑11 A (getAttrBy (.ref x) (.str name tk) fill expr) Q E s:=by
 have Uh:(ZN "BaseException.__getattribute__" == ZN "object.__getattribute__")=false:=by decide +kernel
 have UN:(onTheHeap (Vf C)&&ZN "BaseException.__getattribute__" == ZN "object.__getattribute__")=false:=by rw[Uh];rfl
 have Ug:(expr&&onTheHeap (ZN "BaseException.__getattribute__"))=false:=by cases expr<;>rfl
 have sub:PySem.W.Looks ↑11 s.heap (isInstance (.ref x) (.type "BaseException")) true:=I.type.andThen (PySem.W.looks_mroIn X c.mb);unfold getAttrBy;refine Wx (TZ (I.type.here (TZ ((ZP X c.ga).here ?_))));dsimp only;rw[UN,if_neg VQ];unfold getAttrByItsOwn hookBefore;refine TZ ?_;show wpAny _ _ (typeLookup (.ref C) "__getattr__") _ _ _;refine(ZP X c.gn).here ?_;refine TZ (Xq (Wx ?_));unfold callGetattribute;rw[Ug,if_neg VQ];unfold boundAndCalled;refine TZ (abQ (aaS.ga.bind _) ?_);refine aci (codeAny_call_builtin aaS.ga.plain PySem.F.entry_bexc_ga (@PySem.W.check_slot ↑11 _ _ s "BaseException.__getattribute__" "BaseException" "__getattribute__" (.ref x) [.str name tk] [] _ C4 Be sub (PySem.F.args_bexc_ga _ _) ?_));refine Xi h (λfin s' z=>?_) (λ_ _ z=>z.elim);rcases fin with (v|_|_|_)|_<;>first|exact z|exact z.elim
end
variable{dd:Option Addr}
section
open PySem.Builtin.ObjectAttr (storeInOwnDict storeTaker? setByDescriptor)
section
variable{E:Value->Shared->Prop}{K:U5}{x:Addr}
def rn{a g:Value}(hc:(aaL K C).isSome=true)(ha:V_ K (.ref C) name=some (some a))(hg:Zl K a "__get__"=some (some g))(ht:ZW K a=some true):abw K C od name=some (.bind g a):=by
 obtain⟨cd,hc⟩:=Y4.mp hc;unfold abw;rw[hc,acT,ha,acT];simp[hg,ht]
def Af{Q:Option Value->Shared->Prop}(c:BK K C)(X:K.In s.heap)(I:Zj s.heap x ox C od)(h:Q (some (.ref C)) { s with toks:=s.toks+1 }):wpAny ↑11 A (getAttr? (.ref x) "__class__") Q E s:=by
 have hc:(aaL K C).isSome=true:=by obtain⟨cd,hc,_⟩:=ZG c.hd;rw[hc];rfl
 have hf:abw K C od "__class__"=some (.bind (.builtin "getset_descriptor.__get__") (.builtin "object.__class__")):=rn hc c.ca c.cg c.ct;unfold getAttr? getAttrBy?;refine TZ (wpAny_mkText (TZ (Xq ?_)));refine IC (s:={ s with toks:=s.toks+1 }) c X I ?_;unfold Builtin.«object.__getattribute__»;refine TZ (U7 ?_);dsimp only;refine TZ (U7 ?_);refine TZ (I.type.here (s:={ s with toks:=s.toks+1 }) (TZ ((PySem.W.looks_find X I hf).here (s:={ s with toks:=s.toks+1 }) ?_)));show wpAny _ _ (holding [.builtin "object.__class__"] (call (.builtin "getset_descriptor.__get__") [.builtin "object.__class__",.ref x,.ref C]) >>= ret) _ _ _;refine TZ (Wx (aci (PySem.W.class_get (s:={ s with toks:=s.toks+1 }) (ox:=ox) (od:=od) X I c.mo ?_)));refine U7 ?_;exact PySem.W.handed_on rfl (U7 h)
def vK(c:BK K C):adk K (.ref x) (.ref C) (λh=>Zj h x ox C od) where
 ty:=λ_ _ _ I=>I.type
 it:=λ_ _ X _=>by
  obtain⟨cdD,Td,_⟩:=ZG c.hd;unfold aaL at Td
  split at Td
  .rename_i c' d' cd' sl' ho;intro A' Q' E' s' k q;unfold isType loadHead;exact TZ (wpAny_loadPart (k _ _ (X _ _ ho)) (U7 q))
  .cases Td
 ne:=λh tp dd P7 n sl X htp=>by
  obtain⟨cdD,Td,_⟩:=ZG c.hd;refine Bool.eq_false_iff.mpr λq=>?_;have e:C=tp:=Value.ref.inj (beq_iff_eq.mp q);subst e;unfold aaL at Td
  split at Td
  .rename_i c' d' cd' sl' ho;have z:=(X _ _ ho).symm.trans htp;cases z
  .cases Td
 ca:=λX I k=>Af c X I k
end
section
variable{E:Value->Shared->Prop}{g:Array GenState}{d:Drawn}{t:Nat}{os:OsState}
variable{nm q:Str}{N:Addr}{bs bm:List Value}{hdct:Bool}{sn:List Str}{sub:List Value}{ab:Bool}{col:Option Bool}{k0 k1 k2 k3 k5:Option Value}{newId initId:String}
end
end
def mW(C:Addr)(dd:Option Addr)(e:Addr):HO:=.ext λh=>∃vs,h.get? e=some ⟨.ref C,dd,.fields vs,#[]⟩
def ExcAt(H:Hp)(e C:Addr)(fo:Option (List (Str×V))):Prop:=match fo with
 | none=>H e=some (mW C none e)
 |some fs=>∃d,H e=some (mW C (some d) e)/\H d=some (.xd fs)
def Inv.En(I:Inv X PZ σ H s){e:Addr}(he:H e=some (mW C dd e)):∃vs,s.heap.get? e=some ⟨.ref C,dd,.fields vs,#[]⟩:=(I.bJ e _ he).1
def Inv.Ga(I:Inv X PZ σ H s){e:Addr}{fo:Option (List (Str×V))}(h:ExcAt H e C fo):∃ox od,Zj s.heap e ox C od/\(fo=none->od=none) ∧∀fs,fo=some fs->∃(o:Obj)(mA:Str->Option Value),od=some o/\(∀n,Zi n o=some (mA n))/\∀f,kA (fs.lookup f) (mA f):=by
 cases fo with
 | none =>
  obtain⟨vs,q⟩:=I.En h;exact⟨_,none,⟨q,rfl,rfl,trivial⟩,λ_=>rfl,λfs z=>(by cases z)⟩
 | some fs =>
  obtain⟨d,h1,h2⟩:=h;obtain⟨vs,q⟩:=I.En h1;obtain⟨mA,n,r⟩:=(show ∃mA,s.heap.Ns1 d mA/\∀f,kA (fs.lookup f) (mA f) from I.bJ d _ h2)
  obtain⟨o,ho,hl⟩:=sO n;refine⟨_,some o,⟨q,rfl,rfl,ho⟩,λz=>(by cases z),λfs' z=>?_⟩;cases z;exact⟨o,mA,rfl,hl,r⟩
variable{apos:Pos}{m:Str}{ta:TE}{o:Expr}
section
variable{f:Str}{pos:Pos}
def OC(K:U5):List V->Hp->VK->Prop:=λxs H Q=>∃e C fo b,BK K C/\ExcAt H e C fo ∧
 ((∃T,xs=[.ref e,.ty T]/\Xx K (.ref C) (.type T)=some b)\/(∃D,xs=[.ref e,.ref D]/\Xx K (.ref C) (.ref D)=some b))/\Q (.bl b) H
def D4:cQ X (.builtin "isinstance") (OC X.K):=by
 intro PZ s σ H xs us Q I r h;obtain⟨e,C,fo,b,c,ha,hc,q⟩:=h;obtain⟨ox,od,J,_⟩:=I.Ga ha;rcases hc with ⟨T,rfl,hk⟩|⟨D,rfl,hk⟩
 .cases r with
  | cons r1 r2 =>
   cases r2 with
   | cons r3 r4 =>
    cases r4;cases (show _=Vf e from r1);cases (show _=WD T from r3);exact Wn (vK c) I.mh J hk (λz=>nomatch z) λtk=>⟨.bl b,H,I.tok tk,rfl,q⟩
 .cases r with
  | cons r1 r2 =>
   cases r2 with
   | cons r3 r4 =>
    cases r4;cases (show _=Vf e from r1);cases (show _=Vf D from r3);exact Wn (vK c) I.mh J hk (λz=>nomatch z) λtk=>⟨.bl b,H,I.tok tk,rfl,q⟩
end
variable{k:Nat}{es:List Expr}{e:Expr}{sp:Sp}{ps:List Str}{fd:FuncData}{f:Addr}
section
variable{p pos:Pos}{t:TA}
end
section
open PySem.SeqAt (shaped noMix noMixAll)
end
section
open PySem.SeqAt (shaped noMix noMixAll)
def E8{x:V}{u t:Value}(I:Inv X PZ σ H s)(rx:RelV x u)(ty:jN X.K H x t):∃HH:Heap->Prop,adk X.K u t HH/\HH s.heap/\u≠.builtin "__main__.__loader__#opaque" := by
 cases ty with
 | c_=>cases (show u=VU from rx);exact⟨_,acs,WE,λz=>nomatch z⟩
 | bl y=>cases (show u=XD y from rx);exact⟨_,acu,WE,λz=>nomatch z⟩
 | int i=>obtain⟨t,q⟩:=(show ∃t,u=ZE i t from rx);cases q;exact⟨_,acP,WE,λz=>nomatch z⟩
 | str y=>obtain⟨t,q⟩:=(show ∃t,u=aad y t from rx);cases q;exact⟨_,acQ,WE,λz=>nomatch z⟩
 | HR y=>obtain⟨t,q⟩:=(show ∃t,u=abM y t from rx);cases q;exact⟨_,acf,WE,λz=>nomatch z⟩
 | @lst a xs ea =>
  cases (show u=Vf a from rx);obtain⟨_,_,n,_,h1⟩:=(show bG X.prog X.w H s.heap a (.lst xs) from I.bJ a _ ea)
  exact⟨_,Zm,⟨_,h1,rfl⟩,λz=>nomatch z⟩
 | @j4 a ob xs ea =>
  cases (show u=Vf a from rx);obtain⟨_,_,_,n,_,h1⟩:=(show bG X.prog X.w H s.heap a (.j4 ob (.lst xs)) from I.bJ a _ ea)
  exact⟨_,Zm,⟨_,h1,rfl⟩,λz=>nomatch z⟩
 | @tup a xs ea =>
  cases (show u=Vf a from rx);obtain⟨_,_,_,o,h1,h2,_⟩:=(show bG X.prog X.w H s.heap a (.tup xs) from I.bJ a _ ea)
  exact⟨_,acg,⟨o,h1,h2⟩,λz=>nomatch z⟩
 | @dK a P5 ea =>
  cases (show u=Vf a from rx);obtain⟨_,_,vs,_,o,es,ep,h1,h2,_⟩:=(show bG X.prog X.w H s.heap a (.dK P5) from I.bJ a _ ea)
  exact⟨_,Zn,⟨o,h1,h2.1⟩,λz=>nomatch z⟩
 | @dT a P5 ea =>
  cases (show u=Vf a from rx);obtain⟨_,_,xs,_,o,es,ep,h1,h2,_⟩:=(show bG X.prog X.w H s.heap a (.dT P5) from I.bJ a _ ea)
  exact⟨_,Zn,⟨o,h1,h2.1⟩,λz=>nomatch z⟩
 | @ins a C dx fs ea cl ha hn LN hm =>
  cases (show u=Vf a from rx);obtain⟨mA,O,_⟩:=lR I.bJ ea;obtain⟨od,J,_⟩:=O.look;exact⟨_,acR (cl.get _) cl.hd ha hn LN hm,J,λz=>nomatch z⟩
def Nz(K:U5):List V->Hp->VK->Prop:=λxs H Q=>∃(x:V)(tp:Addr)(Ts:List String)(t:Value)(b:Bool),xs=[x,.ref tp]/\H tp=some (.tup (Ts.map V.ty))/\jN K H x t/\aan K t (Ts.map WD)=some b/\Q (.bl b) H
theorem yR:∀{Ts:List String}{us:List Value},Vals (Ts.map V.ty) us->us=Ts.map WD
 | [],us,r=>by rw[Z9] at r;cases r;rfl
 | T::Ts,us,r=>by
  rw[Vu] at r;cases r with
  | cons r1 r2 =>
   cases (show _=WD T from r1);rw[yR r2];rfl
def Ao:cQ X (.builtin "isinstance") (Nz X.K):=by
 intro PZ s σ H xs us Q I r h;obtain⟨x,tp,Ts,t,b,rfl,htp,ty,e,q⟩:=h;cases r with
 | cons r1 r2 =>
  cases r2 with
  | cons r3 r4 =>
   cases r4;cases (show _=Vf tp from r3);obtain⟨HH,Z,p,ne⟩:=E8 I r1 ty;obtain⟨_,P7,rv,o,h1,h2,n,h3⟩:=(show bG X.prog X.w H s.heap tp (.tup (Ts.map V.ty)) from I.bJ tp _ htp)
   have ei:=yR rv;subst ei;obtain⟨cls,dd,data,sl⟩:=o;dsimp only at h2 h3;subst h2 h3;exact PySem.W.kia_tup Z I.mh p h1 e ne λtk=>⟨.bl b,H,I.tok tk,rfl,q⟩
theorem yY:∀{bs:List Bool}{us:List Value},Vals (bs.map V.bl) us->us=bs.map XD
 | [],us,r=>by rw[Z9] at r;cases r;rfl
 | b::bs,us,r=>by
  rw[Vu] at r;cases r with
  | cons r1 r2 =>
   cases (show _=XD b from r1);rw[yY r2];rfl
def JO:bootBuiltins "all"=some (.builtin "all"):=by decide +kernel
def Ab(hc:X.calm=true):cQ X (.builtin "all") (λxs H Q=>∃(a:Addr)(bs:List Bool),xs=[.ref a]/\gR X.K H a (bs.map V.bl)/\Q (.bl (bs.all id)) H):=by
 intro PZ s σ H xs us Q I r h;obtain⟨a,bs,rfl,hq,q⟩:=h;cases r with
 | cons r1 r2 =>
  cases r2;cases (show _=Vf a from r1);obtain⟨P7,rv,p,hz⟩:=I.list hq;have ei:=yY rv;subst ei;have hl:=p.isList;have QP:a<s.heap.objs.size:=by obtain⟨_,e,_⟩:=hl;exact Vb e
  refine call_all_walk (YE hl ?_);refine⟨s.heap.objs.size,[s.heap.objs.size,a],[s.heap.objs.size],(bs.map XD).toArray.size,_,_,λi=>(bs[i]?).getD true,rfl,acj (A:=X.A.in1) (I.ok.hd hc) _ a (Vm QP) (bs.map XD).toArray,
   ⟨⟨_,U_ _ rfl,rfl,rfl⟩,hl.push _⟩,λi v s' Q' E' hP hQ=>?_,λh' tk hk=>?_⟩
  .have hP':(bs.map XD)[i]?=some v:=by simpa using hP
   rw[VD] at hP';obtain⟨b,e1,e2⟩:=VB.mp hP';subst e2;simp only[e1,W8] at hQ;exact Xa hQ
  .have e:((Ve (bs.map XD).toArray.size).all λi=>(bs[i]?).getD true)=bs.all id:=by
    rw[Vg,U8];rw[Z0,WM,WM];constructor
    .intro h b hb;obtain⟨i,hi,e⟩:=ab2 hb;have:=h i (V9.mpr hi);simp only[U4 hi,W8,e] at this;exact this
    .intro h i hi;have Ss:=V9.mp hi;simp only[U4 Ss,W8];exact h _ (Vx Ss)
   rw[e];refine⟨.bl _,H,I.kept (t':=tk) (λb x e=>?_),rfl,q⟩;exact hk b x (λhm=>by rw[Vs.mp hm] at e;exact XI _ (Vb e)) (U3 _ e)
end
section
open PySem.MeetsSeq PySem.MeetsSeq2 PySem.MeetsSeq3
def my:fillsNumberSlot (.type "tuple") "mul"=pure false :=
 PySem.fillsNumberSlot_seq (id := "tuple.__mul__") (r:=some (.builtin "tuple.__rmul__")) F.slot_tuple_mul.lookup (by decide +kernel) F.slot_tuple_rmul.lookup (by decide +kernel)
def u_:seqRepeat? (.type "tuple")=pure (some (.builtin "tuple.__mul__")):=by
 unfold seqRepeat?;rw[acU (T := "tuple") (name := "__mul__") (id := "tuple.__mul__") F.slot_tuple_mul.lookup (by decide +kernel),acU (T := "tuple") (name := "__rmul__") (id := "tuple.__rmul__") F.slot_tuple_rmul.lookup (by decide +kernel)];rfl
def uv(a:Int)(t:Tok)(l:Addr)(items:Array Value)(n:Nat)(dd:Option Addr)(sl:Array (Option Value)):Meets (Builtin.«int.__rmul__» ⟨[.int a t,.ref l],[]⟩) (λ_ R s=>s.heap.get? l=some ⟨.type "tuple",dd,.seq items n,sl⟩/\R (.ok (.ret abP)) s) :=
 .of_wp λprog w A R s h=>by obtain⟨hp,g,d,tk,os⟩:=s;obtain⟨hl,h⟩:=h;wp_walk;exact⟨_,rfl,h⟩
def Ag(l:Addr)(items:Array Value)(n:Nat)(dd:Option Addr)(sl:Array (Option Value))(u:Tok):Meets (Builtin.«tuple.__mul__» ⟨[.ref l,.int 1 u],[]⟩) (λ_ R s=>s.heap.get? l=some ⟨.type "tuple",dd,.seq items n,sl⟩/\R (.ok (.ret (.ref l))) s) :=
 .of_wp λprog w A R s h=>by
  obtain⟨hp,g,d,tk,os⟩:=s;obtain⟨hl,h⟩:=h;have f1:=aaT;have f2:=Yh
  wp_walk using WU hl
  exact⟨_,rfl,h⟩
def Ax(l:Addr)(items:Array Value)(n:Nat)(dd:Option Addr)(sl:Array (Option Value))(x:Int)(u:Tok)(c0:¬ (decide (x < -2^63)||decide (x>=2^63))=true)(c1:¬ (items.isEmpty||x==1)=true)(c2:¬ (decide (x<=0)||items.isEmpty)=true)(c3:¬ (items.size:Int)*x>(2^63-1)/8)(c4:¬ aao ((items.size:Int)*x)=true)(hsz:(aak (λx1 x2=>x1++x2) #[] (U6 x.toNat items)).size<=sizeLine):Meets (Builtin.«tuple.__mul__» ⟨[.ref l,.int x u],[]⟩) (λ_ R s=>s.heap.get? l=some ⟨.type "tuple",dd,.seq items n,sl⟩/\R (.ok (.ret (.ref s.heap.objs.size))) { s with heap:=s.heap.push { cls:=.type "tuple",data:=.seq (aak (λx1 x2=>x1++x2) #[] (U6 x.toNat items)) },toks:=s.toks }) :=
 .of_wp λprog w A R s h=>by
  obtain⟨hp,g,d,tk,os⟩:=s;obtain⟨hl,h⟩:=h;have f1:=aaT;have f2:=Yh
  wp_walk using WU hl
  refine abx (decide_eq_false c0) ?_;wp_walk using WU hl;refine abx (decide_eq_false c3) ?_;wp_walk using WU hl;exact⟨_,rfl,h⟩
def zC(l:Addr)(items:Array Value)(n:Nat)(dd:Option Addr)(sl:Array (Option Value))(x:Int)(u:Tok)(c0:¬ (decide (x < -2^63)||decide (x>=2^63))=true)(c1:¬ (items.isEmpty||x==1)=true)(c2:(decide (x<=0)||items.isEmpty)=true):Meets (Builtin.«tuple.__mul__» ⟨[.ref l,.int x u],[]⟩) (λ_ R s=>s.heap.get? l=some ⟨.type "tuple",dd,.seq items n,sl⟩/\R (.ok (.ret (.ref s.heap.objs.size))) { s with heap:=s.heap.push { cls:=.type "tuple",data:=.seq #[] },toks:=s.toks }) :=
 .of_wp λprog w A R s h=>by
  obtain⟨hp,g,d,tk,os⟩:=s;obtain⟨hl,h⟩:=h;have f1:=aaT;have f2:=Yh
  wp_walk using WU hl
  refine abx (decide_eq_false c0) ?_;wp_walk using WU hl;exact⟨_,rfl,h⟩
def Hq(K:U5):R2:=λx y H Q=>∃a k xs,x=.ref a/\y=.int k/\gm K H a xs/\xs≠[]/\-(2^63)<=k/\k<2^63/\xs.length*k.toNat<=sizeLine/\(k=1->Q (.ref a) H)/\(k≠1->∀p,H p=none->Q (.ref p) (upd H p (.tup (U6 k.toNat xs).flatten)))
theorem GI:hX X (binaryOp .Mult) (Hq X.K):=by
 intro PZ s σ H x y v u Q I rx ry h;obtain⟨a,k,xs,rfl,rfl,hq,Se,h1,h2,hz,q1,q2⟩:=h;cases rx;obtain⟨t,rfl⟩:=ry;obtain⟨P7,r,⟨o,e,hc,n,hd⟩,_⟩:=I.tuple hq;obtain⟨cls,dd,data,sl⟩:=o;dsimp only at hc hd;subst hc hd;have hl:=r.length;refine aaw (T := "tuple") (U := "int") ↑12 ⟨_,e,rfl⟩ (λs'=>aba s' k t) my F.fills_int_mul F.slot_int_rmul u_ F.slot_int_index.lookup
  (YH F.slot_int_rmul (aba s k t) F.entry_int_rmul (F.args_int_rmul_2 _ _) (uv k t a P7.toArray n dd sl) ⟨e,rfl,⟨_,e,rfl⟩,?_⟩)
 by_cases hk1:k=1
 .subst hk1;exact YH F.slot_tuple_mul ⟨_,e,rfl⟩ F.entry_tuple_mul (F.args_tuple_mul_2 _ _) (Ag a P7.toArray n dd sl t) ⟨e,⟨.ref a,H,I,rfl,q1 rfl⟩⟩
 .have S6:(k==1)=false:=by simpa using hk1
  have hni:P7≠[]:=λz=>Se (r.lx.mp z);have hie:P7.toArray.isEmpty=false:=by cases P7 with|nil=>exact absurd rfl hni|cons _ _=>rfl
  have c0:¬ (decide (k < -2^63)||decide (k>=2^63))=true:=by simp;lia
  have c1:¬ (P7.toArray.isEmpty||k==1)=true:=by rw[hie,S6];simp
  have fin:∀ys,ys=(U6 k.toNat P7).flatten.toArray->EP X PZ σ Q (.ref s.heap.objs.size) { s with heap:=s.heap.push { cls:=.type "tuple",data:=.seq ys },toks:=s.toks }:=λys ey=>by
   subst ey;refine⟨.ref s.heap.objs.size,_,I.laid (t':=s.toks) (o:=.tup (U6 k.toNat xs).flatten) (λb ob q=>U3 _ q) (U9 _) ?_,rfl,q2 hk1 _ (I.bJ.fresh (U9 _))⟩;exact⟨by rwa[len_rep,Z_],_,r.rep k.toNat,ab1 _ _⟩
  have Ru:aak (λx1 x2=>x1++x2) #[] (U6 k.toNat P7.toArray)=(U6 k.toNat P7).flatten.toArray:=by
   have:=foldl_rep P7 k.toNat [];rwa[Y6] at this
  by_cases hk0:k<=0
  .have c2:(decide (k<=0)||P7.toArray.isEmpty)=true:=by rw[decide_eq_true hk0];rfl
   refine YH F.slot_tuple_mul ⟨_,e,rfl⟩ F.entry_tuple_mul (F.args_tuple_mul_2 _ _) (zC a P7.toArray n dd sl k t c0 c1 c2) ⟨e,fin _ ?_⟩;rw[show k.toNat=0 by lia];rfl
  .have c2:¬ (decide (k<=0)||P7.toArray.isEmpty)=true:=by rw[decide_eq_false hk0,hie];simp
   have em:((P7.toArray.size:Nat):Int)*k=((xs.length*k.toNat:Nat):Int):=by
    rw[Vg,<- hl,aby,Xe ⋯]
   have hs:(sizeLine:Int)<=(2^63-1)/8:=by decide
   refine YH F.slot_tuple_mul ⟨_,e,rfl⟩ F.entry_tuple_mul (F.args_tuple_mul_2 _ _) (Ax a P7.toArray n dd sl k t c0 c1 c2 ?_ ?_ ?_) ⟨e,fin _ Ru⟩
   .rw[em];lia
   .rw[em];unfold aao;simp only[decide_eq_true_eq];lia
   .rw[Ru,Vg,len_rep,Z_,<- hl];exact hz
end
structure bg (K:U5) (x qual:Str) (st:Stmt) (dv:Value) (f:Addr) (fd:FuncData):Prop where
 ex:∃(oc:Value)(od:Option Addr)(kV doc pm:Value)(an:Option Addr)(Qf ct:Value)(Sm:Array (Option Value)),
  fd=WA x qual (ir st) (d_ st) (aZ st) dv kV doc pm an Qf ct/\K.lookup f=some ⟨oc,od,.func fd,Sm⟩/\Xy K Qf qual=true
 kp:Xc K (.ref f)=true
variable{base:Heap}{mg:Str->Option Value}
variable{ds:List Value}{T:Addr}{qual:Str}
section
variable{K:U5}
def bg.binds{st:Stmt}{o:Obj}(F:bg K x qual st (.ref T) f fd)(ho:K.lookup T=some o)(hs:o.data=.seq items n)(h:∀(kV doc pm:Value)(an:Option Addr)(Qf ct:Value)(us:List Value),(us++ds).length=ps.length->∃k,bindArgs (WA x qual (ir st) (d_ st) (aZ st) (.ref T) kV doc pm an Qf ct) ⟨us,[]⟩=seqItems? (.ref T) >>= k/\k (some items)=pure (ps.zip (us++ds))):Binds K fd ps ds:=by
 obtain⟨oc,od,kV,doc,pm,an,Qf,ct,Sm,rfl,lk,QI⟩:=F.ex;intro s us X hl;obtain⟨k,h1,h2⟩:=h kV doc pm an Qf ct us hl;exact BindsTo.of_defaults rfl (X _ _ ho) hs h1 h2
end
variable{v:V}
def Mw{pos:Pos}(hg:Gl X x)(hm:∃u,X.mg x=some u/\RelV v u)(hd:autoParam ↑7 aD._auto_1):PE X (.Name x pos) (tC v):=by
 obtain⟨u,h1,h2⟩:=hm;exact GD hg h1 h2 hd
def Kz:bootBuiltins "max"=some (.builtin "max"):=by decide +kernel
def Kq:bootBuiltins "min"=some (.builtin "min"):=by decide +kernel
variable{y:Str}
def Ge{cl:List (Str×Addr)}{pos Rv py:Pos}{wi:TI}{g:TG}{fs:List Str}(hN:X.N.Nodup)(TU:X.N[i]?=some y)(hy:Loc X.env.scope y)(Qg:X.calm=true)(Qk:closureFor scope X.env=pure cl)(hk:scope.kind=.function)(nc:e8 scope.names=true)(lo:fO scope.names=true)(fh:fX cl scope.names=true)(ag:dJ X cl)(fr:gW X scope cl fs js)(hi:PI X tg iter wi)(hg:∀C s₀ H₀ ex PZ,PG (me X scope cl (ts++fs) C s₀ H₀ ex PZ) tg g)(he:∀C s₀ H₀ ex PZ,PE (me X scope cl (ts++fs) C s₀ H₀ ex PZ) elt te)(hs:autoParam ↑5 aI._auto_1)(To:autoParam (swapsWith (.ListComp elt [⟨tg,iter,[],0⟩] scope pos) (some (.Name y py)) Rv.line X.env=pure true) aR._auto_1)(hf:autoParam (X.fn y=true\/X.env.scope.names.lookup y=some .local) aF._auto_1):PS X (.Assign [.Name y py] (.ListComp elt [⟨tg,iter,[],0⟩] scope pos) Rv) (G2 (xk wi g te ts js) (aJ i)):=by
 intro PZ s σ H D I h;rw[abC _ _ _ _ To];refine TZ (ZK (TZ ?_));show wpAny _ X.A (do let _ <- comprehension (.ListComp elt [⟨tg,iter,[],0⟩] scope pos) scope X.env _ (newList []) false (eval iter X.env) (some (assign (.Name y py) X.env))) _ _ s;refine TZ (Xi (pf (tt:=none) Qg Qk hk nc lo fh ag fr hi hg (λ_ _ _ _ _=>trivial) he hs I (show yx wi g none te ts js σ H (λx H1=>D.nx (σ.set i (some x)) H1) from h) (some (assign (.Name y py) X.env)) (λ_ s'=>SP X PZ D .next s') λDd H' s' C Io q hm f=>?_) (λ_ s' hq=>U7 (U7 hq)) λ_ _ e=>e);show wpAny _ X.A (assign (.Name y py) X.env (.ref Dd)) _ _ s';refine aaC (mL Io hN TU hy (v:=.ref Dd) rfl (λUZ I'' ⟨a,sb,ha⟩=>?_) hf);obtain⟨m,hn⟩:=hm;obtain⟨f0,f1,f2,f3,f4,f5⟩:=f;have naC:a≠C:=by
  rcases ha with z|z
  .rw[z];exact λw=>f1 w.symm
  .exact f4 y a z
 refine⟨m,hn.sameBut sb (WW naC),λh' RY=>?_⟩;exact⟨_,H',I''.other ⟨f0,f1,f2,f3,f4,f5⟩ RY,q⟩
def p8(a b c:Value):checkTypeCall "zip" ⟨[a,b,c],[]⟩=pure ():=by kernel_rfl
def qR(a b c:Value):checkBuiltinCall "zip.__new__" ⟨[.type "zip",a,b,c],[]⟩=pure ():=by kernel_rfl
abbrev bM(h:Heap)(T:Addr)(a b c:Value):Prop:=h.get? T=some { cls:=.type "tuple",data:=.seq #[a,b,c] }
structure Z3 (z TI TO i1 i2 i3:Addr):Prop where
 TIz:TI≠z
 TOz:TO≠z
 i1z:i1≠z
 i2z:i2≠z
 LM:i3≠z
 TITO:TI≠TO
 TIi1:TI≠i1
 TIi2:TI≠i2
 Oj:TI≠i3
 TOi1:TO≠i1
 TOi2:TO≠i2
 Gv:TO≠i3
 i12:i1≠i2
 N4:i1≠i3
 OA:i2≠i3
structure L3 (z TO i1 i2 i3 l:Addr):Prop where
 z:l≠z
 o:l≠TO
 i1:l≠i1
 i2:l≠i2
 i3:l≠i3
section
variable{E:Value->Shared->Prop}
def dm{a b c x:Value}{Q:Unit->Shared->Prop}(hT:bM s.heap T a b c)(h:∀h',h'.get? T=some { cls:=.type "tuple",data:=.seq ((#[a,b,c]:Array Value).setIfInBounds k x) }->Yb T s.heap h'->Q () { s with heap:=h' }):wpAny ↑11 A (updateSeq T (·.setIfInBounds k x)) Q E s:=by
 refine X8 hT rfl (h _ ?_ (Yp ..));rw[V1 _ hT rfl];simp[WG]
variable{b1 b2 b3:Bool}{z TI TO i1 i2 i3 l3:Addr}{k3:Nat}{xs zs:Array Value}{x y v a b c:Value}
def Au(D:Z3 z TI TO i1 i2 i3)(D1:L3 z TO i1 i2 i3 l1)(D2:L3 z TO i1 i2 i3 l2)(D3:L3 z TO i1 i2 i3 l3)(hz:IsZip s.heap z TI TO .none)(QR:bM s.heap TI (.ref i1) (.ref i2) (.ref i3))(QT:bM s.heap TO a b c)(h1:eO s.heap b1 i1 l1 k1)(h2:eO s.heap b2 i2 l2 k2)(h3:eO s.heap b3 i3 l3 k3)(Rt:gg s.heap b1 l1 xs)(Rp:gg s.heap b2 l2 ys)(SH:gg s.heap b3 l3 zs)(hx:xs[k1]?=some x)(hy:ys[k2]?=some y)(hv:zs[k3]?=some v)(hQ:∀h',IsZip h' z TI TO (rawInt s.heap.objs.size)->bM h' TO x y v->eO h' b1 i1 l1 (k1+1)->eO h' b2 i2 l2 (k2+1)->eO h' b3 i3 l3 (k3+1)->bM h' s.heap.objs.size x y v->h'.objs.size=s.heap.objs.size+1 ->(∀c o,c≠z->c≠TO->c≠i1->c≠i2->c≠i3->s.heap.get? c=some o->h'.get? c=some o)->Q (.ref s.heap.objs.size) { s with heap:=h' }):wpAny ↑11 A (Builtin.«zip.__next__» ⟨[.ref z],[]⟩) (λfin s'=>∃v,fin=.done (.ret v)/\Q v s') E s:=by
 show wpAny _ _ (field (.ref z) 2 >>= _) _ _ _;refine TZ (VO hz rfl (x:=.bool false) rfl ?_);show wpAny _ _ (field (.ref z) 3 >>= _) _ _ _;refine TZ (VO hz rfl (x:=.ref TI) rfl ?_);refine TZ (VW QR rfl ?_);show wpAny _ _ (VR (.ref z) >>= _) _ _ _;refine TZ ?_;unfold VR;refine TZ (VO hz rfl (x:=.none) rfl (U7 ?_));simp only[if_true];refine TZ (Xb ?_);refine TZ (VO hz rfl (x:=.ref TO) rfl ?_);refine TZ (V6 hz ↑13 λh₁ hz1 hs₁=>?_)
 replace hz1:IsZip h₁ z TI TO .ellipsis:=hz1
 refine TZ ?_;simp only[XM,ZZ,Y7,Zr];refine TZ (TZ (Xp ?_));show wpAny _ _ (Vt (.ref i1) >>= _) _ _ _;refine TZ (cR (h1.at λo e=>hs₁.extBut _ _ D.i1z e) (Rt.at λo e=>hs₁.extBut _ _ D1.z e) hx λh₂ h1₂ hs2=>U7 ?_);have hTO2:bM h₂ TO a b c:=hs2.extBut _ _ D.TOi1 (hs₁.extBut _ _ D.TOz QT);refine TZ (VW hTO2 rfl ?_);refine TZ (dm hTO2 λh₃ hTO3 hs3=>?_)
 replace hTO3:bM h₃ TO x b c:=hTO3
 refine TZ (Xf (U7 ?_));have S9:∀q o,q≠z->q≠TO->q≠i1->s.heap.get? q=some o->h₃.get? q=some o:=λq o c1 c2 c3 e=>hs3.extBut _ _ c2 (hs2.extBut _ _ c3 (hs₁.extBut _ _ c1 e));refine TZ (TZ (Xp ?_));show wpAny _ _ (Vt (.ref i2) >>= _) _ _ _;refine TZ (cR (h2.at λo e=>S9 _ o D.i2z D.TOi2.symm D.i12.symm e) (Rp.at λo e=>S9 _ o D2.z D2.o D2.i1 e) hy λh₄ h2₄ hs4=>U7 ?_);have hTO4:bM h₄ TO x b c:=hs4.extBut _ _ D.TOi2 hTO3;refine TZ (VW hTO4 rfl ?_);refine TZ (dm hTO4 λh₅ hTO5 hs5=>?_)
 replace hTO5:bM h₅ TO x y c:=hTO5
 refine TZ (Xf (U7 ?_));have k5:∀q o,q≠z->q≠TO->q≠i1->q≠i2->s.heap.get? q=some o->h₅.get? q=some o:=λq o c1 c2 c3 c4 e=>hs5.extBut _ _ c2 (hs4.extBut _ _ c4 (S9 q o c1 c2 c3 e));refine TZ (TZ (Xp ?_));show wpAny _ _ (Vt (.ref i3) >>= _) _ _ _;refine TZ (cR (h3.at λo e=>k5 _ o D.LM D.Gv.symm D.N4.symm D.OA.symm e) (SH.at λo e=>k5 _ o D3.z D3.o D3.i1 D3.i2 e) hv λh₆ h3₆ hs6=>U7 ?_);have hTO6:bM h₆ TO x y c:=hs6.extBut _ _ D.Gv hTO5;refine TZ (VW hTO6 rfl ?_);refine TZ (dm hTO6 λh₇ hTO7 hs7=>?_)
 replace hTO7:bM h₇ TO x y v:=hTO7
 refine TZ (Xf (U7 (U7 ?_)));refine TZ (VW hTO7 rfl ?_);refine TZ (abR ?_);have hsz:h₇.objs.size=s.heap.objs.size:=by rw[hs7.1,hs6.1,hs5.1,hs4.1,hs3.1,hs2.1,hs₁.1]
 have hz3:IsZip h₃ z TI TO .ellipsis:=hs3.extBut _ _ D.TOz.symm (hs2.extBut _ _ D.i1z.symm hz1);have hz5:IsZip h₅ z TI TO .ellipsis:=hs5.extBut _ _ D.TOz.symm (hs4.extBut _ _ D.i2z.symm hz3);have hz7:IsZip h₇ z TI TO .ellipsis:=hs7.extBut _ _ D.TOz.symm (hs6.extBut _ _ D.LM.symm hz5);have k7:∀q o,q≠z->q≠TO->q≠i1->q≠i2->q≠i3->s.heap.get? q=some o->h₇.get? q=some o:=λq o c1 c2 c3 c4 c5 e=>hs7.extBut _ _ c2 (hs6.extBut _ _ c5 (k5 q o c1 c2 c3 c4 e));have h1₇:eO h₇ b1 i1 l1 (k1+1):=h1₂.at λo e=>hs7.extBut _ _ D.TOi1.symm (hs6.extBut _ _ D.N4 (hs5.extBut _ _ D.TOi1.symm (hs4.extBut _ _ D.i12 (hs3.extBut _ _ D.TOi1.symm e))));have h2₇:eO h₇ b2 i2 l2 (k2+1):=h2₄.at λo e=>hs7.extBut _ _ D.TOi2.symm (hs6.extBut _ _ D.OA (hs5.extBut _ _ D.TOi2.symm e));have h3₇:eO h₇ b3 i3 l3 (k3+1):=h3₆.at λo e=>hs7.extBut _ _ D.Gv.symm e;have SN:z<h₇.objs.size:=Vb hz7;show wpAny _ _ (WR (.ref z) (.ref h₇.objs.size) >>= _) _ _ _;refine TZ ?_;unfold WR;have hz₈:IsZip (h₇.push { cls:=.type "tuple",data:=.seq #[x,y,v] }) z TI TO .ellipsis:=U3 _ hz7;refine TZ (V6 hz₈ ↑13 λh₉ hz9 hs9=>?_)
 replace hz9:IsZip h₉ z TI TO (rawInt h₇.objs.size):=hz9
 refine V6 hz9 ↑13 λhA hzA hsA=>?_
 replace hzA:IsZip hA z TI TO (rawInt h₇.objs.size):=hzA
 have up:∀c o,c≠z->h₇.get? c=some o->hA.get? c=some o:=λc o c1 e=>hsA.extBut _ _ c1 (hs9.extBut _ _ c1 (U3 _ e));have hTA:bM hA h₇.objs.size x y v:=hsA.extBut _ _ (WX SN) (hs9.extBut _ _ (WX SN) (U_ _ rfl));have UQ:hA.objs.size=h₇.objs.size+1:=by rw[hsA.1,hs9.1,V5]
 rw[hsz] at hzA hTA UQ;refine U7 ⟨_,rfl,?_⟩;show Q (.ref h₇.objs.size) _;rw[hsz];exact hQ hA hzA (up _ _ D.TOz hTO7) (h1₇.at λo e=>up _ o D.i1z e) (h2₇.at λo e=>up _ o D.i2z e) (h3₇.at λo e=>up _ o D.LM e) hTA UQ λc o c1 c2 c3 c4 c5 e=>up c o c1 (k7 c o c1 c2 c3 c4 c5 e)
def CV{Q:Fin->Shared->Prop}(hh:A.handled=none)(D:Z3 z TI TO i1 i2 i3)(D1:L3 z TO i1 i2 i3 l1)(D2:L3 z TO i1 i2 i3 l2)(D3:L3 z TO i1 i2 i3 l3)(hz:IsZip s.heap z TI TO .none)(QR:bM s.heap TI (.ref i1) (.ref i2) (.ref i3))(QT:bM s.heap TO a b c)(h1:eO s.heap b1 i1 l1 k1)(h2:eO s.heap b2 i2 l2 k2)(h3:eO s.heap b3 i3 l3 k3)(Rt:gg s.heap b1 l1 xs)(Rp:gg s.heap b2 l2 ys)(SH:gg s.heap b3 l3 zs)(Ro:xs[k1]?=none\/ys[k2]?=none\/zs[k3]?=none)(hE:∀h' e,(∀c o,c≠z->c≠TO->c≠i1->c≠i2->c≠i3->s.heap.get? c=some o->h'.get? c=some o)->(∃o,h'.get? e=some o/\o.cls=.type "StopIteration")->E (.ref e) { s with heap:=h' }):wpAny ↑11 A (Builtin.«zip.__next__» ⟨[.ref z],[]⟩) Q E s:=by
 show wpAny _ _ (field (.ref z) 2 >>= _) _ _ _;refine TZ (VO hz rfl (x:=.bool false) rfl ?_);show wpAny _ _ (field (.ref z) 3 >>= _) _ _ _;refine TZ (VO hz rfl (x:=.ref TI) rfl ?_);refine TZ (VW QR rfl ?_);show wpAny _ _ (VR (.ref z) >>= _) _ _ _;refine TZ ?_;unfold VR;refine TZ (VO hz rfl (x:=.none) rfl (U7 ?_));simp only[if_true];refine TZ (Xb ?_);refine TZ (VO hz rfl (x:=.ref TO) rfl ?_);refine TZ (V6 hz ↑13 λh₁ hz1 hs₁=>?_)
 replace hz1:IsZip h₁ z TI TO .ellipsis:=hz1
 refine TZ ?_;simp only[XM,ZZ,Y7,Zr];refine TZ (TZ (Xp ?_));show wpAny _ _ (Vt (.ref i1) >>= _) _ _ _;cases hx:xs[k1]? with
 | none =>
  refine TZ (hG hh (h1.at λo e=>hs₁.extBut _ _ D.i1z e) (Rt.at λo e=>hs₁.extBut _ _ D1.z e) hx λh₂ e hs2 he=>?_);obtain⟨oe,RH,R_⟩:=he;have hz2:IsZip h₂ z TI TO .ellipsis:=hs2 _ _ D.i1z.symm hz1;have Tg:e≠z:=λx=>by subst x;rw[hz2] at RH;cases RH;simp at R_
  refine V6 hz2 ↑13 λh₃ _ hs3=>hE h₃ e (λc o c1 _ c3 _ _ x=>hs3.extBut _ _ c1 (hs2 _ _ c3 (hs₁.extBut _ _ c1 x))) ⟨oe,hs3.extBut _ _ Tg RH,R_⟩
 | some x =>
  refine TZ (cR (h1.at λo e=>hs₁.extBut _ _ D.i1z e) (Rt.at λo e=>hs₁.extBut _ _ D1.z e) hx λh₂ h1₂ hs2=>U7 ?_);have hTO2:bM h₂ TO a b c:=hs2.extBut _ _ D.TOi1 (hs₁.extBut _ _ D.TOz QT);refine TZ (VW hTO2 rfl ?_);refine TZ (dm hTO2 λh₃ hTO3 hs3=>?_)
  replace hTO3:bM h₃ TO x b c:=hTO3
  refine TZ (Xf (U7 ?_));have S9:∀q o,q≠z->q≠TO->q≠i1->s.heap.get? q=some o->h₃.get? q=some o:=λq o c1 c2 c3 e=>hs3.extBut _ _ c2 (hs2.extBut _ _ c3 (hs₁.extBut _ _ c1 e));have hz3:IsZip h₃ z TI TO .ellipsis:=hs3.extBut _ _ D.TOz.symm (hs2.extBut _ _ D.i1z.symm hz1);refine TZ (TZ (Xp ?_));show wpAny _ _ (Vt (.ref i2) >>= _) _ _ _;cases hy:ys[k2]? with
  | none =>
   refine TZ (hG hh (h2.at λo e=>S9 _ o D.i2z D.TOi2.symm D.i12.symm e) (Rp.at λo e=>S9 _ o D2.z D2.o D2.i1 e) hy λh₄ e hs4 he=>?_);obtain⟨oe,RH,R_⟩:=he;have hz₄:IsZip h₄ z TI TO .ellipsis:=hs4 _ _ D.i2z.symm hz3;have Tg:e≠z:=λx=>by subst x;rw[hz₄] at RH;cases RH;simp at R_
   refine V6 hz₄ ↑13 λh₅ _ hs5=>hE h₅ e (λc o c1 c2 c3 c4 _ x=>hs5.extBut _ _ c1 (hs4 _ _ c4 (S9 c o c1 c2 c3 x))) ⟨oe,hs5.extBut _ _ Tg RH,R_⟩
  | some y =>
   have hv:zs[k3]?=none:=by
    rcases Ro with h|h|h
    .rw[hx] at h;cases h
    .rw[hy] at h;cases h
    .exact h
   refine TZ (cR (h2.at λo e=>S9 _ o D.i2z D.TOi2.symm D.i12.symm e) (Rp.at λo e=>S9 _ o D2.z D2.o D2.i1 e) hy λh₄ h2₄ hs4=>U7 ?_);have hTO4:bM h₄ TO x b c:=hs4.extBut _ _ D.TOi2 hTO3;refine TZ (VW hTO4 rfl ?_);refine TZ (dm hTO4 λh₅ hTO5 hs5=>?_);refine TZ (Xf (U7 ?_));have k5:∀q o,q≠z->q≠TO->q≠i1->q≠i2->s.heap.get? q=some o->h₅.get? q=some o:=λq o c1 c2 c3 c4 e=>hs5.extBut _ _ c2 (hs4.extBut _ _ c4 (S9 q o c1 c2 c3 e));have hz5:IsZip h₅ z TI TO .ellipsis:=hs5.extBut _ _ D.TOz.symm (hs4.extBut _ _ D.i2z.symm hz3);refine TZ (TZ (Xp ?_));show wpAny _ _ (Vt (.ref i3) >>= _) _ _ _;refine TZ (hG hh (h3.at λo e=>k5 _ o D.LM D.Gv.symm D.N4.symm D.OA.symm e) (SH.at λo e=>k5 _ o D3.z D3.o D3.i1 D3.i2 e) hv λh₆ e hs6 he=>?_);obtain⟨oe,RH,R_⟩:=he;have hz6:IsZip h₆ z TI TO .ellipsis:=hs6 _ _ D.LM.symm hz5;have Tg:e≠z:=λx=>by subst x;rw[hz6] at RH;cases RH;simp at R_
   refine V6 hz6 ↑13 λh₇ _ hs7=>hE h₇ e (λc o c1 c2 c3 c4 c5 x=>hs7.extBut _ _ c1 (hs6 _ _ c5 (k5 c o c1 c2 c3 c4 x))) ⟨oe,hs7.extBut _ _ Tg RH,R_⟩
end
section
variable{E:Value->Shared->Prop}
variable{b1 b2 b3:Bool}{z TI TO i1 i2 i3 l3:Addr}{k3:Nat}{xs zs:Array Value}{x y v a b c:Value}
def mH{Q:Option Value->Shared->Prop}(D:Z3 z TI TO i1 i2 i3)(D1:L3 z TO i1 i2 i3 l1)(D2:L3 z TO i1 i2 i3 l2)(D3:L3 z TO i1 i2 i3 l3)(hz:IsZip s.heap z TI TO .none)(QR:bM s.heap TI (.ref i1) (.ref i2) (.ref i3))(QT:bM s.heap TO a b c)(h1:eO s.heap b1 i1 l1 k1)(h2:eO s.heap b2 i2 l2 k2)(h3:eO s.heap b3 i3 l3 k3)(Rt:gg s.heap b1 l1 xs)(Rp:gg s.heap b2 l2 ys)(SH:gg s.heap b3 l3 zs)(hx:xs[k1]?=some x)(hy:ys[k2]?=some y)(hv:zs[k3]?=some v)(hQ:∀h',IsZip h' z TI TO (rawInt s.heap.objs.size)->bM h' TO x y v->eO h' b1 i1 l1 (k1+1)->eO h' b2 i2 l2 (k2+1)->eO h' b3 i3 l3 (k3+1)->bM h' s.heap.objs.size x y v->h'.objs.size=s.heap.objs.size+1 ->(∀c o,c≠z->c≠TO->c≠i1->c≠i2->c≠i3->s.heap.get? c=some o->h'.get? c=some o)->Q (some (.ref s.heap.objs.size)) { s with heap:=h' }):wpAny ↑11 A (pyNext (.ref z)) Q E s:=by
 have hT:s.TypeIs (.ref z) "zip" := ⟨_,hz,rfl⟩
 unfold pyNext;exact TZ (Xq (VY (name:=VS "__next__") hT F.slot_zip_next
  (Wb F.slot_zip_next hT F.entry_zip_next
   (Au D D1 D2 D3 hz QR QT h1 h2 h3 Rt Rp SH hx hy hv λh' a1 a2 a3 a4 a5 a6 a7 a8=>U7 (hQ h' a1 a2 a3 a4 a5 a6 a7 a8)) (F.args_zip_next_1 _))))
def n6{Q:Option Value->Shared->Prop}(hh:A.handled=none)(D:Z3 z TI TO i1 i2 i3)(D1:L3 z TO i1 i2 i3 l1)(D2:L3 z TO i1 i2 i3 l2)(D3:L3 z TO i1 i2 i3 l3)(hz:IsZip s.heap z TI TO .none)(QR:bM s.heap TI (.ref i1) (.ref i2) (.ref i3))(QT:bM s.heap TO a b c)(h1:eO s.heap b1 i1 l1 k1)(h2:eO s.heap b2 i2 l2 k2)(h3:eO s.heap b3 i3 l3 k3)(Rt:gg s.heap b1 l1 xs)(Rp:gg s.heap b2 l2 ys)(SH:gg s.heap b3 l3 zs)(Ro:xs[k1]?=none\/ys[k2]?=none\/zs[k3]?=none)(hQ:∀h',(∀c o,c≠z->c≠TO->c≠i1->c≠i2->c≠i3->s.heap.get? c=some o->h'.get? c=some o)->Q none { s with heap:=h' }):wpAny ↑11 A (pyNext (.ref z)) Q E s:=by
 have hT:s.TypeIs (.ref z) "zip" := ⟨_,hz,rfl⟩
 unfold pyNext;refine TZ (Xq (VY (name:=VS "__next__") hT F.slot_zip_next
  (Wb F.slot_zip_next hT F.entry_zip_next (CV hh D D1 D2 D3 hz QR QT h1 h2 h3 Rt Rp SH Ro λh' e hk he=>?_) (F.args_zip_next_1 _))))
 obtain⟨o,ho,hc⟩:=he;refine TZ (YO (T := "StopIteration") (b:=true) ⟨o,ho,hc⟩ aam ?_);exact U7 (hQ _ hk)
end
abbrev NP(h:Heap)(b1 b2 b3:Bool)(l1 l2 l3:Addr):Heap:=(Hg h b1 b2 l1 l2).push (GW b3 l3)
abbrev NT(h:Heap)(b1 b2 b3:Bool)(l1 l2 l3:Addr):Heap:=(NP h b1 b2 b3 l1 l2 l3).push { cls:=.type "tuple",data:=.seq #[.ref h.objs.size,.ref (IX h b1 l1).objs.size,.ref (Hg h b1 b2 l1 l2).objs.size] }
abbrev NJ(h:Heap)(b1 b2 b3:Bool)(l1 l2 l3:Addr):Heap:=(NT h b1 b2 b3 l1 l2 l3).push { cls:=.type "tuple",data:=.seq #[.none,.none,.none] }
abbrev Lb(h:Heap)(b1 b2 b3:Bool)(l1 l2 l3:Addr):Heap:=(NJ h b1 b2 b3 l1 l2 l3).push { cls:=.type "zip",data:=.fields #[.none,.bool false,.bool false,.ref (NP h b1 b2 b3 l1 l2 l3).objs.size,.ref (NT h b1 b2 b3 l1 l2 l3).objs.size] }
def qH(b1 b2 b3:Bool)(l1 l2 l3:Addr)(xs ys zs:Array Value):Meets (Builtin.«zip.__new__» ⟨[.type "zip",.ref l1,.ref l2,.ref l3],[]⟩) (λ_ R s=>gg s.heap b1 l1 xs/\gg s.heap b2 l2 ys/\gg s.heap b3 l3 zs ∧R (.ok (.ret (.ref (NJ s.heap b1 b2 b3 l1 l2 l3).objs.size))) { s with heap:=Lb s.heap b1 b2 b3 l1 l2 l3 }) :=
 .of_wp λprog w A R s h=>by
  obtain⟨hp,g,d,tk,os⟩:=s;obtain⟨Rt,Rp,SH,h⟩:=h;have UL:=sub_zip;have hL1:gg (ZS ⟨hp,g,d,tk,os⟩) b1 l1 xs:=Rt;have hL2:gg (ZS ⟨hp.push (GW b1 l1),g,d,tk,os⟩) b2 l2 ys:=gg.push Rp _;have hL3:gg (ZS ⟨(hp.push (GW b1 l1)).push (GW b2 l2),g,d,tk,os⟩) b3 l3 zs:=gg.push (gg.push SH _) _
  wp_walk using gf hL1,gf hL2,gf hL3
  exact⟨_,rfl,h⟩
section
variable{E:Value->Shared->Prop}
def A5{b1 b2 b3:Bool}{l3:Addr}{xs zs:Array Value}(Rt:gg s.heap b1 l1 xs)(Rp:gg s.heap b2 l2 ys)(SH:gg s.heap b3 l3 zs)(h:∀h',IsZip h' (s.heap.objs.size+5) (s.heap.objs.size+3) (s.heap.objs.size+4) .none->bM h' (s.heap.objs.size+3) (.ref s.heap.objs.size) (.ref (s.heap.objs.size+1)) (.ref (s.heap.objs.size+2)) ->bM h' (s.heap.objs.size+4) .none .none .none->eO h' b1 s.heap.objs.size l1 0->eO h' b2 (s.heap.objs.size+1) l2 0->eO h' b3 (s.heap.objs.size+2) l3 0 ->(∀c o,s.heap.get? c=some o->h'.get? c=some o)->Q (.ref (s.heap.objs.size+5)) { s with heap:=h' }):wpAny ↑11 A (call (.type "zip") [.ref l1,.ref l2,.ref l3]) Q E s:=by
 refine acD F.called_zip ↑12 (p8 _ _ _) (qR _ _ _) (λobj=>F.initArgs_range_3 obj _ _ _) F.entry_zip_new
  (qH b1 b2 b3 l1 l2 l3 xs ys zs) ⟨Rt,Rp,SH,?_⟩
 have z1:(IX s.heap b1 l1).objs.size=s.heap.objs.size+1:=V5 ..;have z2:(Hg s.heap b1 b2 l1 l2).objs.size=s.heap.objs.size+2:=by rw[V5,z1]
 have z3:(NP s.heap b1 b2 b3 l1 l2 l3).objs.size=s.heap.objs.size+3:=by rw[V5,z2]
 have z4:(NT s.heap b1 b2 b3 l1 l2 l3).objs.size=s.heap.objs.size+4:=by rw[V5,z3]
 have z5:(NJ s.heap b1 b2 b3 l1 l2 l3).objs.size=s.heap.objs.size+5:=by rw[V5,z4]
 have g6:(Lb s.heap b1 b2 b3 l1 l2 l3).get? (NJ s.heap b1 b2 b3 l1 l2 l3).objs.size=some _:=U_ _ rfl;have g5:(Lb s.heap b1 b2 b3 l1 l2 l3).get? (NT s.heap b1 b2 b3 l1 l2 l3).objs.size=some _:=U3 _ (U_ _ rfl);have g4:(Lb s.heap b1 b2 b3 l1 l2 l3).get? (NP s.heap b1 b2 b3 l1 l2 l3).objs.size=some _:=U3 _ (U3 _ (U_ _ rfl));have g3:(Lb s.heap b1 b2 b3 l1 l2 l3).get? (Hg s.heap b1 b2 l1 l2).objs.size=some _:=U3 _ (U3 _ (U3 _ (U_ _ rfl)));have g2:(Lb s.heap b1 b2 b3 l1 l2 l3).get? (IX s.heap b1 l1).objs.size=some _:=U3 _ (U3 _ (U3 _ (U3 _ (U_ _ rfl))));have g1:(Lb s.heap b1 b2 b3 l1 l2 l3).get? s.heap.objs.size=some _:=U3 _ (U3 _ (U3 _ (U3 _ (U3 _ (U_ _ rfl)))));show _/\_;rw[z3,z4,z5] at g6;rw[z1,z2,z3] at g4;rw[z4] at g5;rw[z2] at g3;rw[z1] at g2;rw[z5];exact⟨⟨_,g6,rfl⟩,h _ g6 g4 g5 (eO.new _ b1 _ _ g1) (eO.new _ b2 _ _ g2) (eO.new _ b3 _ _ g3) λc o x =>
  U3 _ (U3 _ (U3 _ (U3 _ (U3 _ (U3 _ x)))))⟩
end
def OT (K : U5)(b1 b2 b3 : Bool)(a1 a2 a3 : Addr) : It :=
  ⟨λi H => ∃xs ys zs x y v,kn K H b1 a1 xs /\ kn K H b2 a2 ys /\ kn K H b3 a3 zs /\ xs[i]? = some x /\ ys[i]? = some y /\ zs[i]? = some v,
   λi H r H' => ∃p x y v,H p=none /\ r=.ref p /\ H'=upd H p (.tup [x,y,v]) /\ (∀xs,kn K H b1 a1 xs -> xs[i]? = some x) /\ (∀ys,kn K H b2 a2 ys -> ys[i]? = some y) /\ (∀zs,kn K H b3 a3 zs -> zs[i]? = some v),
   λi H => ∃xs ys zs,kn K H b1 a1 xs /\ kn K H b2 a2 ys /\ kn K H b3 a3 zs /\ (xs.length <= i \/ ys.length <= i \/ zs.length <= i)⟩
def sC{z TI TO i1 i2 i3 a:Addr}{xs:List V}(I:Inv X PZ σ H s)(h:kn X.K H b a xs)(hf:∀b∈[z,TO,i1,i2,i3,TI],lh X PZ H b):L3 z TO i1 i2 i3 a :=
 ⟨cD I h (hf z ↑13),cD I h (hf TO ↑13),cD I h (hf i1 ↑13),cD I h (hf i2 ↑13),cD I h (hf i3 ↑13)⟩
theorem AV{K:U5}{tp:Pos}(b1 b2 b3:Bool)(a1 a2 a3 z TI TO i1 i2 i3:Addr)(D:Z3 z TI TO i1 i2 i3):Turn P w K (.Tuple elts x1 tp) (OT K b1 b2 b3 a1 a2 a3) [z,TO,i1,i2,i3,TI] z (λi h=>IsZip h z TI TO .none/\bM h TI (.ref i1) (.ref i2) (.ref i3)/\(∃a b c,bM h TO a b c)/\eO h b1 i1 a1 i/\eO h b2 i2 a2 i/\eO h b3 i3 a3 i) where
 mem:=by simp
 obj:=λi h st b hb=>by
  obtain⟨hz,QR,⟨a,c,d,QT⟩,h1,h2,h3⟩:=st;simp only[Vn,Wo,or_false] at hb;rcases hb with q|q|q|q|q|q<;>subst q
  .exact⟨_,hz,λv z=>by cases z⟩
  .exact⟨_,QT,λv z=>by cases z⟩
  .obtain⟨o,vs,e,d⟩:=h1.obj;exact⟨o,e,λv z=>by rw[d] at z;cases z⟩
  .obtain⟨o,vs,e,d⟩:=h2.obj;exact⟨o,e,λv z=>by rw[d] at z;cases z⟩
  .obtain⟨o,vs,e,d⟩:=h3.obj;exact⟨o,e,λv z=>by rw[d] at z;cases z⟩
  .exact⟨_,QR,λv z=>by cases z⟩
 keep:=λi h h' st k=>by
  obtain⟨hz,QR,⟨a,c,d,QT⟩,h1,h2,h3⟩:=st;exact⟨k z ↑13 _ hz,k TI ↑13 _ QR,⟨a,c,d,k TO ↑13 _ QT⟩,h1.at λo e=>k i1 ↑13 o e,h2.at λo e=>k i2 ↑13 o e,h3.at λo e=>k i3 ↑13 o e⟩
 item:=by
  intro X hP hw hK hc i PZ s σ H E I hf st hg;subst hP hw hK;obtain⟨xs,ys,zs,x,y,v,QS,QJ,R6,hx,hy,hv⟩:=hg;obtain⟨SO,Tt,p1,UO⟩:=I.row QS;obtain⟨QU,Tu,p2,S8⟩:=I.row QJ;obtain⟨US,rv3,p3,hz3'⟩:=I.row R6;obtain⟨u1,hu1,ru1⟩:=Tt.get hx;obtain⟨u2,hu2,ru2⟩:=Tu.get hy;obtain⟨u3,hu3,ru3⟩:=rv3.get hv;obtain⟨hz,QR,⟨a,c,d,QT⟩,h1,h2,h3⟩:=st;obtain⟨oi1,vs1,Um,di1⟩:=h1.obj;obtain⟨oi2,vs2,Uo,di2⟩:=h2.obj;obtain⟨oi3,vs3,ei3,di3⟩:=h3.obj;refine mH D (sC I QS hf) (sC I QJ hf) (sC I R6 hf) hz QR QT h1 h2 h3 p1 p2 p3 (x:=u1) (y:=u2) (v:=u3) (by simpa using hu1) (by simpa using hu2) (by simpa using hu3) λh' g1 g2 g3 g4 g4' g5 g6 g7=>⟨_,rfl,?_⟩
  refine aax (s:={ s with heap:=h' }) g1 λhN UP Sg=>?_;have Ru:H s.heap.objs.size=none:=I.bJ.fresh (U9 _);have lt:∀{c:Addr}{o:Obj},s.heap.get? c=some o->c≠s.heap.objs.size:=λe=>Vm (Vb e);have SU:∀b o,b ∉ [z,TO,i1,i2,i3,TI]->s.heap.get? b=some o->hN.get? b=some o:=λb o hb q=>by
   simp only[Vn,Wo,or_false,not_or] at hb;exact(Sg.2 b hb.1).trans (g7 b o hb.1 hb.2.1 hb.2.2.1 hb.2.2.2.1 hb.2.2.2.2.1 q)
  have hT3:hN.get? s.heap.objs.size=some { cls:=.type "tuple",data:=.seq #[u1,u2,u3] }:=(Sg.2 _ (lt hz).symm).trans g5;have I3:Inv X PZ σ (upd H s.heap.objs.size (.tup [x,y,v])) { s with heap:=hN,toks:=s.toks } :=
   I.kc (ch:=[z,TO,i1,i2,i3,TI]) SU hf (U9 _) (λb hb=>by
    simp only[Vn,Wo,or_false] at hb;rcases hb with q|q|q|q|q|q<;>subst q
    .exact⟨_,hz⟩
    .exact⟨_,QT⟩
    .exact⟨_,Um⟩
    .exact⟨_,Uo⟩
    .exact⟨_,ei3⟩
    .exact⟨_,QR⟩)
    ⟨by show 3<=sizeLine;decide,[u1,u2,u3],.cons ru1 (.cons ru2 (.cons ru3 .nil)),⟨_,hT3,rfl,_,rfl⟩⟩
  refine⟨.ref s.heap.objs.size,_,I3,rfl,⟨_,x,y,v,Ru,rfl,rfl,λzs' Tq=>by rwa[I.lZ Tq QS],λzs' Tq=>by rwa[I.lZ Tq QJ],λzs' Tq=>by rwa[I.lZ Tq R6]⟩,
   ⟨UP,(Sg.2 TI D.TIz).trans (g7 TI _ D.TIz D.TITO D.TIi1 D.TIi2 D.Oj QR),⟨_,_,_,(Sg.2 TO D.TOz).trans g2⟩,g3.at λo e=>(Sg.2 i1 D.i1z).trans e,g4.at λo e=>(Sg.2 i2 D.i2z).trans e,g4'.at λo e=>(Sg.2 i3 D.LM).trans e⟩,λb hb=>?_⟩
  have nb:b≠s.heap.objs.size:=by
   simp only[Vn,Wo,or_false] at hb;rcases hb with q|q|q|q|q|q<;>subst q
   .exact lt hz
   .exact lt QT
   .exact lt Um
   .exact lt Uo
   .exact lt ei3
   .exact lt QR
  rw[aB nb];exact(hf b hb).1
 done:=by
  intro X hP hw hK hc i PZ s σ H E I hf st hg;subst hP hw hK;obtain⟨xs,ys,zs,QS,QJ,R6,Ro⟩:=hg;obtain⟨SO,Tt,p1,UO⟩:=I.row QS;obtain⟨QU,Tu,p2,S8⟩:=I.row QJ;obtain⟨US,rv3,p3,hz3'⟩:=I.row R6;obtain⟨hz,QR,⟨a,c,d,QT⟩,h1,h2,h3⟩:=st;have l1:=Tt.length;have l2:=Tu.length;have l3:=rv3.length;refine n6 (I.ok.hd hc) D (sC I QS hf) (sC I QJ hf) (sC I R6 hf) hz QR QT h1 h2 h3 p1 p2 p3 ?_ λh' k=>⟨rfl,?_⟩
  .rcases Ro with q|q|q
   .exact .inl (by simp;lia)
   .exact .inr (.inl (by simp;lia))
   .exact .inr (.inr (by simp;lia))
  .exact I.yP (t':=s.toks) (ch:=[z,TO,i1,i2,i3,TI]) (λb u hb e=>by
    simp only[Vn,Wo,or_false,not_or] at hb;exact k b u hb.1 hb.2.1 hb.2.2.1 hb.2.2.2.1 hb.2.2.2.2.1 e) hf
 self:=λ_ _ _ _ _ st h=>by
  obtain⟨hz,_⟩:=st;exact ZH hz h
theorem GL(n:Nat):Z3 (n+5) (n+3) (n+4) n (n+1) (n+2):=by
 refine⟨?_,?_,?_,?_,?_,?_,?_,?_,?_,?_,?_,?_,?_,?_,?_⟩<;>(show @Ne Nat _ _;lia)
def HQ(K:U5)(tl:TA):TI:=fun σ H R=>tl σ H λvs H1=>∃b1 b2 b3 a1 a2 a3,vs=[.ref a1,.ref a2,.ref a3]/\(∃xs,kn K H1 b1 a1 xs)/\(∃ys,kn K H1 b2 a2 ys)/\(∃zs,kn K H1 b3 a3 zs)/\R (OT K b1 b2 b3 a1 a2 a3) H1
def t7{tp:Pos}{l1 l2 l3:Expr}{p pos:Pos}(hg:Gl X "zip")(hm:X.mg "zip"=none)(hl:PA X [l1,l2,l3] tl)(hs:autoParam (starEach [l1,l2,l3] X.env=[(false,eval l1 X.env),(false,eval l2 X.env),(false,eval l3 X.env)]) aR._auto_1)(Rx:autoParam (starEach [l2,l3] X.env=[(false,eval l2 X.env),(false,eval l3 X.env)]) aR._auto_1):PI X (.Tuple elts x1 tp) (.Call (.Name "zip" p) [l1,l2,l3] [] pos) (HQ X.K tl):=by
 intro PZ s σ H R I h;refine Call_ (iW I hg hm abB (Wj (cF (hl pos PZ s σ H _ I h) λus s1 ⟨vs,H1,I1,r1,q1⟩=>?_) (by rw[hs,Rx]) (by rw[Rx];rfl)));obtain⟨b1,b2,b3,a1,a2,a3,e,⟨xs,QS⟩,⟨ys,QJ⟩,⟨zs,R6⟩,q⟩:=q1;subst e;cases r1 with
 | cons r rr =>
  cases rr with
  | cons r' rr =>
   cases rr with
   | cons UX rr =>
    cases rr;cases (show _=Vf a1 from r);cases (show _=Vf a2 from r');cases (show _=Vf a3 from UX);obtain⟨SO,Tt,p1,UO⟩:=I1.row QS;obtain⟨QU,Tu,p2,S8⟩:=I1.row QJ;obtain⟨US,rv3,p3,UP⟩:=I1.row R6;refine A5 p1 p2 p3 λh' g1 g2 g3 g4 g5 g6 g7=>?_;have I2:Inv X PZ σ H1 { s1 with heap:=h' }:=I1.kept (t':=s1.toks) g7;refine ZH (s:={ s1 with heap:=h' }) g1 ?_;refine⟨s1.heap.objs.size+5,[s1.heap.objs.size+5,s1.heap.objs.size+4,s1.heap.objs.size,s1.heap.objs.size+1,s1.heap.objs.size+2,s1.heap.objs.size+3],_,_,H1,rfl,I2,
     AV b1 b2 b3 a1 a2 a3 _ _ _ _ _ _ (GL s1.heap.objs.size),⟨g1,g2,⟨_,_,_,g3⟩,g4,g5,g6⟩,λb hb=>?_,q⟩
    have hle:s1.heap.objs.size<=b:=by
     simp only[Vn,Wo,or_false] at hb;rcases hb with q|q|q|q|q|q
     .rw[q];exact WN _ 5
     .rw[q];exact WN _ 4
     .rw[q];exact U9 _
     .rw[q];exact WN _ 1
     .rw[q];exact WN _ 2
     .rw[q];exact WN _ 3
    exact I1.qS hle (I1.bJ.fresh hle)
variable{oe:Obj}{outer:List Env}
variable{to:Option Addr}
section
variable{M:Model}{E:Value->Shared->Prop}
def sM{env:Env}{L e:Addr}{vs:Array Value}{head:Value}{Tb:Bool}{Q:Unit->Shared->Prop}
  (Th:A.frames=some (env::outer)) (hl:s.heap.FunFrames base (env::outer)) (hf:env.frame=some L)
  (he:s.heap.get? e=some oe) (hd:oe.data=.fields vs) (hsz:1<vs.size)
  (h:∀h' T oT ts,h'.get? e=some (W_ (·.setIfInBounds 1 (.ref T)) oe)->s.heap.objs.size<=T->T≠e->h'.get? T=some oT->oT.data=.fields ts->ts[3]?=some (rawInt L) ->
   (∀b o,b≠e->b ∉ xc (env::outer)->s.heap.get? b=some o->h'.get? b=some o)->(∀b o,b≠e->s.heap.get? b=some o->∃sl,h'.get? b=some { o with slots:=sl })->Q () { s with heap:=h' }) :
  wpAny M A (do let a <- frameOf env;let pl <- entryPlaceOf L Tb;let b <- ab3 head a .none (rawInt L) .none pl;setField (.ref e) 1 b) Q E s:=by
 have hene:e ∉ (env::outer).filterMap (·.frame):=λhm=>by
  obtain⟨_,o,ho,UG⟩:=hl.mem hm;rw[he] at ho;injection ho with ho;subst ho;exact UG vs hd
 refine TZ (wpAny_frameOf_fun Th hl hf λh₁ hs₁=>?_);refine TZ (wpAny_entryPlaceOf λpl QF=>?_);unfold ab3 newFields;refine TZ (Wd ?_ (QF.sizeOk5 _ _ _ _ _));have he1:h₁.get? e=some oe:=(hs₁.2.1 e hene).trans he;have he₂:=U3 (h:=h₁) { cls:=.type "traceback",dict:=none,data:=.fields ([head,.ref L,.none,rawInt L,.none]++(if pl.isEmpty then U6 6 VU else pl)).toArray } he1;have hTe:h₁.objs.size≠e:=WX (Vb he1);have hd3:=W5 hd (·.setIfInBounds 1 (Vf h₁.objs.size));have he3:=V1 (W_ (·.setIfInBounds 1 (Vf h₁.objs.size))) he₂ (XX hd3);have hT₃:=(Vv (h₁.push { cls:=.type "traceback",dict:=none,data:=.fields ([head,.ref L,.none,rawInt L,.none]++(if pl.isEmpty then U6 6 VU else pl)).toArray })
  (W_ (·.setIfInBounds 1 (Vf h₁.objs.size))) (WW hTe)).trans (U_ h₁ rfl)
 have keep:∀b o,b≠e->h₁.get? b=some o ->
   ((h₁.push { cls:=.type "traceback",dict:=none,data:=.fields ([head,.ref L,.none,rawInt L,.none]++(if pl.isEmpty then U6 6 VU else pl)).toArray }).update e (W_ (·.setIfInBounds 1 (Vf h₁.objs.size)))).get? b=some o:=λb o Sl hb=>by
  rw[Vv _ _ (WW Sl)];exact U3 _ hb
 refine Yq he₂ hd hsz (h _ h₁.objs.size _ _ he3 ?_ hTe hT₃ rfl (by first|(simp;done)|(rcases QF with rfl|⟨_,_,_,_,_,_,_,rfl⟩<;>simp)) ?_ ?_)
 .exact aa8 hs₁.1.symm
 .intro b o Sl hbf hb;exact keep b o Sl ((hs₁.2.1 b hbf).trans hb)
 .intro b o Sl hb;obtain⟨sl,hs⟩:=hs₁.2.2 b o hb;exact⟨sl,keep b _ Sl hs⟩
def Lies(h:Heap)(e:Addr)(vs:Array Value)(to:Option Addr):Prop:=match to with
 | none=>vs[1]?=some .none
 |some T=>vs[1]?=some (.ref T)/\T≠e/\∃oT ts,h.get? T=some oT/\oT.data=.fields ts/\ts[3]?=some .none
def zW{env:Env}{L e:Addr}{vs:Array Value}{Q:Unit->Shared->Prop}(Th:A.frames=some (env::outer))(hl:s.heap.FunFrames base (env::outer))(hf:env.frame=some L)(he:s.heap.get? e=some oe)(hd:oe.data=.fields vs)(hto:Lies s.heap e vs to)(h:∀h' T oT ts,h'.get? e=some (W_ (·.setIfInBounds 1 (.ref T)) oe)->s.heap.objs.size<=T->T≠e->h'.get? T=some oT->oT.data=.fields ts->ts[3]?=some (rawInt L) ->(∀b o,b≠e->(∀T,to=some T->b≠T)->b ∉ xc (env::outer)->s.heap.get? b=some o->h'.get? b=some o) ->(∀b o,b≠e->(∀T,to=some T->b≠T)->s.heap.get? b=some o->∃sl,h'.get? b=some { o with slots:=sl })->(∀b o,s.heap.get? b=some o->∃o',h'.get? b=some o')->Q () { s with heap:=h' }):wpAny M A (noteFrame (.ref e) env) Q E s:=by
 unfold noteFrame;simp only[hf];cases to with
 | none =>
  have h1:vs[1]?=some .none:=hto;refine TZ (VO he hd h1 ?_);rw[if_neg ↑12];refine sM Th hl hf he hd (WI.mp h1).1 λh' T oT ts a1 a2 a3 a4 a5 a6 a7 a8=>?_;refine h h' T oT ts a1 a2 a3 a4 a5 a6 (λb o n1 _ n2 q=>a7 b o n1 n2 q) (λb o n1 _ q=>a8 b o n1 q) λb o q=>?_
  by_cases z:b=e
  .subst z;exact⟨_,a1⟩
  .obtain⟨sl,r⟩:=a8 b o z q;exact⟨_,r⟩
 | some T0 =>
  obtain⟨h1,hTe,oT,ts,hT,hdT,h3⟩:=hto;refine TZ (VO he hd h1 ?_);rw[if_pos (show (Vf T0 != VU)=true from by simp)];refine TZ (VO hT hdT h3 ?_);rw[if_neg (show ¬ ((VU==rawInt L)=true) from by simp[rawInt])];refine TZ (Yq hT hdT (WI.mp h3).1 ?_);have other:∀b,b≠T0->(s.heap.update T0 (W_ (·.setIfInBounds 3 VU))).get? b=s.heap.get? b:=λb hb=>Vv _ _ (WW hb);have SY:∀b o,s.heap.get? b=some o->(∀vs,o.data≠.fields vs)->b≠T0:=λb o hb UG q=>by
   rw[q,hT] at hb;injection hb with hb;subst hb;exact UG ts hdT
  have Ta:=V1 (W_ (·.setIfInBounds 3 VU)) hT (XX (W5 hdT _));refine sM Th (hl.of_keeps λb o hb UG=>⟨o,(other b (SY b o hb UG)).trans hb,rfl⟩) hf ((other e (WW hTe)).trans he) hd (WI.mp h1).1 λh' T oT' ts' a1 a2 a3 a4 a5 a6 a7 a8=>?_;refine h h' T oT' ts' a1 (by simpa [Heap.update] using a2) a3 a4 a5 a6 (λb o n1 n2 n3 q=>a7 b o n1 n3 ((other b (n2 T0 rfl)).trans q)) (λb o n1 n2 q=>a8 b o n1 ((other b (n2 T0 rfl)).trans q)) λb o q=>?_
  by_cases z:b=e
  .subst z;exact⟨_,a1⟩
  .by_cases z2:b=T0
   .subst z2;obtain⟨sl,r⟩:=a8 b _ z Ta;exact⟨_,r⟩
   .obtain⟨sl,r⟩:=a8 b o z ((other b z2).trans q);exact⟨_,r⟩
end
def JP(C:Addr)(dd:Option Addr)(e:Addr):HO:=.ext λh=>∃t,h.get? e=some ⟨.ref C,dd,.fields #[.ref t,.none,.none,.none,.bool false,.none],#[]⟩
def Nq(C:Addr)(dd:Option Addr)(e T:Addr):HO:=.ext λh=>∃vs,h.get? e=some ⟨.ref C,dd,.fields vs,#[]⟩/\vs[1]?=some (.ref T)
def O9(fl:Value)(T:Addr):HO:=.ext λh=>∃oT ts,h.get? T=some oT/\oT.data=.fields ts/\ts[3]?=some fl
def p_(Hc:Hp)(e T C:Addr)(dd:Option Addr)(fl:Value):Hp:=upd (upd Hc T (O9 fl T)) e (Nq C dd e T)
variable{fl:Value}{Hc:Hp}
def wu{e:Addr}:p_ Hc e T C dd fl e=some (Nq C dd e T):=aH
def sT{e:Addr}(n:T≠e):p_ Hc e T C dd fl T=some (O9 fl T):=by unfold p_;rw[aB n,aH]
def mS{e b:Addr}(n:b≠e)(n2:b≠T):p_ Hc e T C dd fl b=Hc b:=by unfold p_;rw[aB n,aB n2]
def Inv.note{e:Addr}{vs:Array Value}{φ:Heap->Prop}{Q:Unit->Shared->Prop}{E:Value->Shared->Prop}(I:Inv X PZ σ H s)(QQ:X.stack=X.env::X.outer)(hf:X.env.frame=some X.env.locals)(he:H e=some (.ext φ))(hx:s.heap.get? e=some ⟨.ref C,dd,.fields vs,#[]⟩)(lies:Lies s.heap e vs to)(hT:∀T,to=some T->(∃ψ,H T=some (.ext ψ))/\Hc T=none)(hc:∀b,b≠e->(∀T,to=some T->b≠T)->Hc b=H b)(h:∀h' T,Hc T=none->T≠e->Inv X PZ σ (p_ Hc e T C dd (rawInt X.env.locals)) { s with heap:=h' }->Q () { s with heap:=h' }):wpAny ↑8 X.A (noteFrame (.ref e) X.env) Q E s:=by
 have hl:=I.stack;have Th:=I.ok.frames;have sf:=I.tP;rw[QQ] at hl Th sf;refine zW (base:=X.base) Th hl hf hx rfl lies λh' T oT ts a1 a2 a3 a4 a5 a6 a7 a8 a9=>?_;have hTn:H T=none:=I.bJ.fresh a2;have nT:∀b u,H b=some u->b≠T:=λb u q z=>by rw[z,hTn] at q;cases q
 have Sy:∀b u,H b=some u->(∀ψ,u≠.ext ψ)->b≠e/\∀T0,to=some T0->b≠T0:=by
  intro b u q hu;refine⟨λz=>?_,λT0 z w=>?_⟩
  .rw[z,he] at q;exact hu _ (Vk q).symm
  .obtain⟨⟨ψ,q2⟩,_⟩:=hT T0 z;rw[w,q2] at q;exact hu _ (Vk q).symm
 have old:∀b u,H b=some u->(∀ψ,u≠.ext ψ)->p_ Hc e T C dd (rawInt X.env.locals) b=some u:=λb u q hu=>by
  obtain⟨n1,n2⟩:=Sy b u q hu;rwa[mS n1 (nT b u q),hc b n1 n2]
 have hcT:Hc T=none:=by
  by_cases z:∃T0,to=some T0/\T=T0
  .obtain⟨T0,z1,z2⟩:=z;rw[z2];exact(hT T0 z1).2
  .rw[hc T a3 λT0 z1 z2=>z ⟨T0,z1,z2⟩];exact hTn
 have un:∀b o,s.heap.get? b=some o->H b=none->b≠e/\(∀T0,to=some T0->b≠T0)/\b≠T:=by
  intro b o q n;refine⟨λz=>?_,λT0 z w=>?_,Vm (Vo (Vb q) a2)⟩
  .rw[z,he] at n;cases n
  .obtain⟨⟨ψ,q2⟩,_⟩:=hT T0 z;rw[w,q2] at n;cases n
 refine h h' T hcT a3 ?_;have U:Un (xc X.stack) [] H (p_ Hc e T C dd (rawInt X.env.locals)) s.heap h':=by
  rw[QQ];refine⟨λb o q n nf _=>?_,λb o q n _ _=>?_,λb o q n _=>?_,λb o q _=>a9 b o q,λb xs q=>old b _ q (λ_ z=>nomatch z),λb ob u q=>old b _ q (λ_ z=>nomatch z),λb ps q=>⟨#[],?_⟩⟩
  .obtain⟨n1,n2,_⟩:=un b o q n;exact a7 b o n1 n2 nf q
  .obtain⟨n1,n2,_⟩:=un b o q n;exact a8 b o n1 n2 q
  .obtain⟨n1,n2,n3⟩:=un b o q n;rwa[mS n1 n3,hc b n1 n2]
  .rw[old b _ q (λ_ z=>nomatch z)];simp
 have ok:kH X.prog X.w (p_ Hc e T C dd (rawInt X.env.locals)) h':=λb u q=>by
  by_cases z:b=e
  .subst z;rw[wu] at q;cases q;refine⟨⟨_,a1,?_⟩,⟨_,a1⟩,λh1 h2 ⟨ws,q1,q2⟩ k=>⟨ws,k _ q1,q2⟩⟩;have hsz:1<vs.size:=by
    cases to with
    | none=>exact(WI.mp (show vs[1]?=some .none from lies)).1
    | some T0=>exact(WI.mp lies.1).1
   simp[hsz]
  .by_cases z2:b=T
   .subst z2;rw[sT a3] at q;cases q;exact⟨⟨oT,ts,a4,a5,a6⟩,⟨_,a4⟩,λh1 h2 ⟨o1,t1,q1,q2,q3⟩ k=>⟨o1,t1,k _ q1,q2,q3⟩⟩
   .rw[mS z z2] at q;have z3:∀T0,to=some T0->b≠T0:=λT0 w w2=>by rw[w2,(hT T0 w).2] at q;cases q
    rw[hc b z z3] at q;have nf:∀c u',H c=some u'->c ∉ xc (X.env::X.outer):=λc u' q' hm=>by have:=sf c hm;rw[q'] at this;cases this
    refine(I.bJ b u q).rj (λc v Tc q'=>?_) (λc q'=>old c _ q' (λ_ z=>nomatch z)) λc xs q'=>old c _ q' (λ_ z=>nomatch z);rcases Tc with rfl|Tc
    .exact a7 c v z z3 (nf c u q) q'
    .obtain⟨n1,n2⟩:=Sy c _ Tc (λ_ z=>nomatch z);exact a7 c v n1 n2 (nf c _ Tc) q'
 exact I.call (ch:=[]) U ok I.bare (λb z=>absurd z ↑13)
def Inv.IE{e:Addr}(I:Inv X PZ σ (p_ Hc e T C dd fl) s)(n:T≠e):∃vs oT ts,s.heap.get? e=some ⟨.ref C,dd,.fields vs,#[]⟩/\vs[1]?=some (.ref T)/\s.heap.get? T=some oT/\oT.data=.fields ts/\ts[3]?=some fl:=by
 obtain⟨vs,h1,h2⟩:=(I.bJ e _ wu).1;obtain⟨oT,ts,q⟩:=(I.bJ T _ (sT n)).1;exact⟨vs,oT,ts,h1,h2,q⟩
def Inv.Mz{e:Addr}{Q:Unit->Shared->Prop}{E:Value->Shared->Prop}(I:Inv X PZ σ (p_ Hc e T C dd fl) s)(hfl:fl=.none\/fl=rawInt X.env.locals)(n:T≠e)(hcT:Hc T=none)(QQ:X.stack=X.env::X.outer)(hf:X.env.frame=some X.env.locals)(h:∀h' T,Hc T=none->T≠e->Inv X PZ σ (p_ Hc e T C dd (rawInt X.env.locals)) { s with heap:=h' }->Q () { s with heap:=h' }):wpAny ↑8 X.A (noteFrame (.ref e) X.env) Q E s:=by
 obtain⟨vs,oT,ts,hx,h1,hT,hd,h3⟩:=I.IE n;rcases hfl with rfl|rfl
 .refine I.note (Hc:=Hc) (to:=some T) QQ hf wu hx ⟨h1,n,oT,ts,hT,hd,h3⟩ (λT0 z=>?_) (λb n1 n2=>(mS n1 (n2 T rfl)).symm) h;cases z;exact⟨⟨_,sT n⟩,hcT⟩
 .unfold noteFrame;simp only[hf];refine TZ (VO hx rfl h1 ?_);rw[if_pos (show (Vf T != VU)=true from by simp)];refine TZ (VO hT hd h3 ?_);rw[if_pos (show (rawInt X.env.locals==rawInt X.env.locals)=true from by simp)];exact U7 (h s.heap T hcT n I)
def Inv.LW{e:Addr}{Q:Unit->Shared->Prop}{E:Value->Shared->Prop}(I:Inv X PZ σ H s)(he:H e=some (JP C dd e))(QQ:X.stack=X.env::X.outer)(hf:X.env.frame=some X.env.locals)(h:∀h' T,upd H e (mW C dd e) T=none->T≠e->Inv X PZ σ (p_ (upd H e (mW C dd e)) e T C dd (rawInt X.env.locals)) { s with heap:=h' }->Q () { s with heap:=h' }):wpAny ↑8 X.A (noteFrame (.ref e) X.env) Q E s:=by
 obtain⟨t,hx⟩:=(I.bJ e _ he).1;exact I.note (Hc:=upd H e (mW C dd e)) (to:=none) QQ hf he hx rfl (λ_ z=>by cases z) (λb n1 _=>aB n1) h
def Inv.De{e:Addr}{fr:Option Addr}{Q:Unit->Shared->Prop}{E:Value->Shared->Prop}(I:Inv X PZ σ (p_ Hc e T C dd fl) s)(n:T≠e)(h:∀h',Inv X PZ σ (p_ Hc e T C dd (fr.elim .none λf=>rawInt f)) { s with heap:=h' }->Q () { s with heap:=h' }):wpAny ↑8 X.A (setFlight (.ref e) fr) Q E s:=by
 obtain⟨vs,oT,ts,hx,h1,hT,hd,h3⟩:=I.IE n;unfold setFlight;refine TZ (VO hx rfl h1 ?_);rw[if_pos (show (Vf T != VU)=true from by simp)];have hsz:3<ts.size:=(WI.mp h3).1;refine Yq hT hd hsz (h _ ?_);have other:∀b,b≠T->(s.heap.update T (W_ (·.setIfInBounds 3 (fr.elim VU λf=>rawInt f)))).get? b=s.heap.get? b:=λb hb=>Vv _ _ (WW hb);have Ta:=V1 (W_ (·.setIfInBounds 3 (fr.elim VU λf=>rawInt f))) hT (XX (W5 hd _));have nT:∀b,p_ Hc e T C dd fl b=none->b≠T:=λb q z=>by rw[z,sT n] at q;cases q
 have same:∀b,b≠T->p_ Hc e T C dd (fr.elim .none λf=>rawInt f) b=p_ Hc e T C dd fl b:=λb z=>by
  by_cases w:b=e
  .subst w;rw[wu,wu]
  .rw[mS w z,mS w z]
 have ne:∀b u,p_ Hc e T C dd fl b=some u->(∀ψ,u≠.ext ψ)->b≠T:=λb u q hu z=>by rw[z,sT n] at q;exact hu _ (Vk q).symm
 refine I.un (t':=s.toks) ⟨λb o q z _ _=>(other b (nT b z)).trans q,λb o q z _ _=>⟨o.slots,(other b (nT b z)).trans q⟩,λb o q z _=>by rwa[same b (nT b z)],λb o q _=>?_,λb xs q=>?_,λb ob u q=>?_,λb ps q=>⟨#[],?_⟩⟩ λb u q=>?_
 .by_cases z:b=T
  .subst z;exact⟨_,Ta⟩
  .exact⟨o,(other b z).trans q⟩
 .rw[same b (ne b _ q λ_ z=>nomatch z)];exact q
 .rw[same b (ne b _ q λ_ z=>nomatch z)];exact q
 .rw[same b (ne b _ q λ_ z=>nomatch z),q];simp
 .by_cases z:b=T
  .subst z;rw[sT n] at q;cases q;refine⟨⟨_,_,Ta,W5 hd _,?_⟩,⟨_,Ta⟩,λh1 h2 ⟨o1,t1,q1,q2,q3⟩ k=>⟨o1,t1,k _ q1,q2,q3⟩⟩;simp[hsz]
  .rw[same b z] at q;refine(I.bJ b u q).rj (λc v hc q'=>(other c ?_).trans q') (λc q'=>?_) λc xs q'=>?_
   .rcases hc with rfl|hc
    .exact z
    .exact ne c _ hc λ_ z=>nomatch z
   .rw[same c (ne c _ q' λ_ z=>nomatch z)];exact q'
   .rw[same c (ne c _ q' λ_ z=>nomatch z)];exact q'
def bW(P:Program)(w:World):LO:=λouter H s E e s'=>∃(ea T C:Addr)(dd:Option Addr)(Hc:Hp),e=.ref ea/\s'.os=s.os/\AllBare s'.gens/\Un (xc outer) [] H (p_ Hc ea T C dd .none) s.heap s'.heap/\kH P w (p_ Hc ea T C dd .none) s'.heap ∧
 Hc ea=some (mW C dd ea)/\Hc T=none/\T≠ea/\E (.ref ea) none Hc
def Zx (X : Cx)(E : St -> XK)(e : Value)(s : Shared) : Prop := ∃(ea C : Addr)(dd : Option Addr)(PZ : List (Addr × Obj))(σ : St),e=.ref ea ∧
  ((∃H,Inv X PZ σ H s /\ H ea=some (JP C dd ea) /\ E σ (.ref ea) none (upd H ea (mW C dd ea))) ∨
   (∃Hc T fl,Inv X PZ σ (p_ Hc ea T C dd fl) s /\ (fl=.none \/ fl=rawInt X.env.locals) /\ Hc ea=some (mW C dd ea) /\ Hc T=none /\ T ≠ ea /\ E σ (.ref ea) none Hc))
variable{E:St->XK}
def Zx.note{e:Value}{Q:Unit->Shared->Prop}{F:Value->Shared->Prop}(z:Zx X E e s)(QQ:X.stack=X.env::X.outer)(hf:X.env.frame=some X.env.locals)(h:∀s' ea C dd PZ σ Hc T,e=.ref ea->Inv X PZ σ (p_ Hc ea T C dd (rawInt X.env.locals)) s'->Hc ea=some (mW C dd ea)->Hc T=none->T≠ea->E σ (.ref ea) none Hc->Q () s'):wpAny ↑8 X.A (noteFrame e X.env) Q F s:=by
 obtain⟨ea,C,dd,PZ,σ,rfl,⟨H,I,h1,h2⟩|⟨Hc,T,fl,I,h1,h2,h3,h4,h5⟩⟩:=z
 .exact I.LW h1 QQ hf λh' T q1 q2 I2=>h _ ea C dd PZ σ _ T rfl I2 aH q1 q2 h2
 .exact I.Mz h1 h4 h3 QQ hf λh' T q1 q2 I2=>h _ ea C dd PZ σ _ T rfl I2 h2 q1 q2 h5
def Zx.K5{E:XK}{e:Value}{F:Value->Shared->Prop}(z:Zx X (λ_=>E) e s)(QQ:X.stack=X.env::X.outer)(hf:X.env.frame=some X.env.locals)(hex:X.ex=[]):wpAny ↑8 X.A (leaving X.env e) (λ_ s'=>bW X.prog X.w X.outer X.H₀ X.s₀ E e s') F s:=by
 unfold leaving;refine TZ (z.note QQ hf λs' ea C dd PZ σ Hc T he I h1 h2 h3 h4=>?_);subst he;refine I.De h3 λh' I2=>⟨ea,T,C,dd,Hc,rfl,I2.os,I2.bare,?_,I2.bJ,h1,h2,h3,h4⟩
 have:=I2.base;rwa[hex] at this
def Zx.own(QQ:X.stack=X.env::X.outer)(hf:X.env.frame=some X.env.locals):PassesOwn ↑8 X.A X.env (Zx X E):=by
 intro e s z;refine z.note QQ hf λs' ea C dd PZ σ Hc T he I h1 h2 h3 h4=>?_;subst he;obtain⟨vs,oT,ts,hx,q1,_⟩:=I.IE h3;show wpAny _ _ _ _ _ _;refine TZ (VO hx rfl q1 ?_);rw[if_neg (show ¬ ((Vf T==VU)=true) from by simp)];rw[hf];refine I.De h3 λh' I2=>⟨ea,C,dd,PZ,σ,rfl,.inr ⟨Hc,T,_,I2,.inr rfl,h1,h2,h3,h4⟩⟩
structure gD (X:Cx) (E:St->XK):Prop where
 pass:∀(PZ:List (Addr×Obj))(σ:St)(H:Hp)(s:Shared)(e:Value)(s':Shared),Inv X PZ σ H s->bW X.prog X.w X.stack H s (E σ) e s'->X.xe e s'
 new:∀(PZ:List (Addr×Obj))(σ:St)(H:Hp)(s:Shared)(e C:Addr)(dd:Option Addr),Inv X PZ σ H s->H e=some (JP C dd e)->E σ (.ref e) none (upd H e (mW C dd e))->X.xe (.ref e) s
 own:PassesOwn ↑8 X.A X.env X.xe
abbrev Cx.out(X:Cx)(E:St->XK):Cx:=X.rE (Zx X E)
def DS(QQ:X.stack=X.env::X.outer)(hf:X.env.frame=some X.env.locals):gD (X.out E) E where
 pass:=by
  intro PZ σ H s e s' I h;obtain⟨ea,T,C,dd,Hc,rfl,os,bare,un,bJ,h1,h2,h3,hE⟩:=h;have I':=I.iy.Dq (ch:=[]) os un bJ bare (λb z=>absurd z ↑13);exact⟨ea,C,dd,PZ,σ,rfl,.inr ⟨Hc,T,.none,I',.inl rfl,h1,h2,h3,hE⟩⟩
 new:=λPZ σ H s e C dd I he hE=>⟨e,C,dd,PZ,σ,rfl,.inl ⟨H,I.iy,he,hE⟩⟩
 own:=Zx.own QQ hf
variable{N:List Str}{Sm:Array (Option Value)}{body:List Stmt}{params:Arguments}
def xi{K:U5}{dV kV doc pm Qf ct oc:Value}{an od:Option Addr}(lk:K.lookup f=some ⟨oc,od,.func (WA name qual params body scope dV kV doc pm an Qf ct),Sm⟩)(QI:Xy K Qf qual=true)(S:cH N ps scope)(len:∀vs H Q E,sp vs H Q E->vs.length=ps.length)(SD:∀(A:Around)(outer:List Env)(s:Shared)(H:Hp)(vs:List V)(Q:VK)(E:XK),cj k (A.deeper (envOfC qual scope s.heap.objs.size f Qf))->sp vs H Q E ->∃t,kr ((jO (bW P w) P w K mg base N qual scope f Qf A outer s H E).out λ_=>E) body t/\t { nx:=λ_ H'=>Q .c_ H',rt:=Q } (start N vs) H):aW P w K mg base (bW P w) (k+1) f (WA name qual params body scope dV kV doc pm an Qf ct) ps sp:=by
 refine M0 lk QI S len λA outer s H vs Q E hr hs=>?_;obtain⟨t,h1,h2⟩:=SD A outer s H vs Q E hr hs;refine⟨t,λPZ s1 σ H1 D I q=>?_,h2⟩;refine Xi (h1 PZ s1 σ H1 D (I.rE _) q) (λf s' z=>z.iy) λe s' z=>?_;exact z.K5 rfl rfl rfl
section
open PySem.Builtin.ObjectAttr (storeInOwnDict storeTaker? setByDescriptor)
section
variable{p pos:Pos}{t:TA}
end
end
section
variable{M:Model}{E:Value->Shared->Prop}
end
inductive PV where
 | c_|bl (b:Bool)|int (i:Int)|str (x:Str)
 | tup (xs:List PV)|lst (xs:List PV)
 | jX (xs:List PV)
 | obj (C:Addr) (fs:List (Str×PV))
 | exc (C:Addr) (fo:Option (List (Str×PV)))
 | emp
 | nB (P5:List (List Int×PV))
 | fn (a:Addr)
 deriving Inhabited
mutual
inductive Rep (H:Hp):PV->V->Prop where
 | c_:Rep H .c_ .c_
 | bl (b:Bool):Rep H (.bl b) (.bl b)
 | int (i:Int):Rep H (.int i) (.int i)
 | str (x:Str):Rep H (.str x) (.str x)
 | tup {a:Addr} {xs:List PV} {vs:List V}:H a=some (.tup vs)->aL H xs vs->Rep H (.tup xs) (.ref a)
 | lst {a:Addr} {xs:List PV} {vs:List V}:H a=some (.lst vs)->aL H xs vs->Rep H (.lst xs) (.ref a)
 | jX {a:Addr} {o:Obj} {xs:List PV} {vs:List V}:H a=some (.j4 o (.lst vs))->aL H xs vs->Rep H (.jX xs) (.ref a)
 | obj {a C dx:Addr} {fs:List (Str×PV)} {vs:List (Str×V)}:H a=some (.ins C dx vs)->gO H fs vs->Rep H (.obj C fs) (.ref a)
 | xn {a C:Addr}:H a=some (mW C none a)->Rep H (.exc C none) (.ref a)
 | ya {a C d:Addr} {fs:List (Str×PV)} {vs:List (Str×V)}:H a=some (mW C (some d) a)->H d=some (.xd vs)->gO H fs vs->Rep H (.exc C (some fs)) (.ref a)
 | emp {a:Addr}:H a=some (.dK [])->Rep H .emp (.ref a)
 | nB {a:Addr} {o:Obj} {P5:List (List Int×PV)} {us:List (List Key×V)}:H a=some (.j4 o (.dT us))->eB H P5 us->Rep H (.nB P5) (.ref a)
 |fn (a:Addr):Rep H (.fn a) (.ref a)
inductive aL (H:Hp):List PV->List V->Prop where
 | nil:aL H [] []
 |cons {p:PV} {v:V} {ps:List PV} {vs:List V}:Rep H p v->aL H ps vs->aL H (p::ps) (v::vs)
inductive gO (H:Hp):List (Str×PV)->List (Str×V)->Prop where
 | nil:gO H [] []
 |cons {n:Str} {p:PV} {v:V} {ps:List (Str×PV)} {vs:List (Str×V)}:Rep H p v->gO H ps vs->gO H ((n,p)::ps) ((n,v)::vs)
inductive eB (H:Hp):List (List Int×PV)->List (List Key×V)->Prop where
 | nil:eB H [] []
 |cons {k:List Int} {p:PV} {v:V} {ps:List (List Int×PV)} {vs:List (List Key×V)}:Rep H p v->eB H ps vs->eB H ((k,p)::ps) ((k.map Zh,v)::vs)
end
mutual
theorem Rep.mono{H H':Hp}(s:bb H H'):∀{p:PV}{v:V},Rep H p v->Rep H' p v
 | _,_,.c_=>.c_
 | _,_,.bl b=>.bl b
 | _,_,.int i=>.int i
 | _,_,.str x=>.str x
 | _,_,.tup h r=>.tup (s _ _ h) (r.mono s)
 | _,_,.lst h r=>.lst (s _ _ h) (r.mono s)
 | _,_,.jX h r=>.jX (s _ _ h) (r.mono s)
 | _,_,.obj h r=>.obj (s _ _ h) (r.mono s)
 | _,_,.xn h=>.xn (s _ _ h)
 | _,_,.ya h h2 r=>.ya (s _ _ h) (s _ _ h2) (r.mono s)
 | _,_,.emp h=>.emp (s _ _ h)
 | _,_,.nB h r=>.nB (s _ _ h) (r.mono s)
 |_,_,.fn a=>.fn a
theorem aL.mono{H H':Hp}(s:bb H H'):∀{p:List PV}{v:List V},aL H p v->aL H' p v
 | _,_,.nil=>.nil
 |_,_,.cons h r=>.cons (h.mono s) (r.mono s)
theorem gO.mono{H H':Hp}(s:bb H H'):∀{p:List (Str×PV)}{v:List (Str×V)},gO H p v->gO H' p v
 | _,_,.nil=>.nil
 |_,_,.cons h r=>.cons (h.mono s) (r.mono s)
theorem eB.mono{H H':Hp}(s:bb H H'):∀{p:List (List Int×PV)}{v:List (List Key×V)},eB H p v->eB H' p v
 | _,_,.nil=>.nil
 |_,_,.cons h r=>.cons (h.mono s) (r.mono s)
end
theorem aL.length{H:Hp}:∀{p:List PV}{v:List V},aL H p v->p.length=v.length
 | _,_,.nil=>rfl
 |_,_,.cons _ r=>by simp[r.length]
theorem aL.get{H:Hp}:∀{p:List PV}{v:List V}{i:Nat}{x:PV},aL H p v->p[i]?=some x->∃u,v[i]?=some u/\Rep H x u
 | _,_,_,_,.nil,e=>by simp at e
 | _,_,0,_,.cons h _,e=>by simp at e;subst e;exact⟨_,rfl,h⟩
 | _,_,i+1,x,.cons _ r,e=>by
  obtain⟨u,h1,h2⟩:=aL.get (i:=i) (x:=x) r (by simpa using e);exact⟨u,by simpa using h1,h2⟩
theorem aL.append{H:Hp}:∀{p q:List PV}{v u:List V},aL H p v->aL H q u->aL H (p++q) (v++u)
 | _,_,_,_,.nil,s=>s
 |_,_,_,_,.cons h r,s=>.cons h (r.append s)
theorem aL.take{H:Hp}:∀{p:List PV}{v:List V}(n:Nat),aL H p v->aL H (p.take n) (v.take n)
 | _,_,0,_=>.nil
 | _,_,_+1,.nil=>.nil
 |_,_,n+1,.cons h r=>.cons h (r.take n)
theorem aL.drop{H:Hp}:∀{p:List PV}{v:List V}(n:Nat),aL H p v->aL H (p.drop n) (v.drop n)
 | _,_,0,r=>r
 | _,_,_+1,.nil=>.nil
 |_,_,n+1,.cons _ r=>r.drop n
theorem aL.set{H:Hp}{x:PV}{u:V}(h:Rep H x u):∀{p:List PV}{v:List V}(i:Nat),aL H p v->aL H (p.set i x) (v.set i u)
 | _,_,_,.nil=>.nil
 | _,_,0,.cons _ r=>.cons h r
 |_,_,i+1,.cons q r=>.cons q (r.set h i)
def aL.snoc{p:List PV}{v:List V}{x:PV}{u:V}(r:aL H p v)(h:Rep H x u):aL H (p++[x]) (v++[u]):=r.append (.cons h .nil)
theorem gO.look{H:Hp}{f:Str}:∀{p:List (Str×PV)}{v:List (Str×V)}{x:PV},gO H p v->p.lookup f=some x->∃u,v.lookup f=some u/\Rep H x u
 | _,_,_,.nil,e=>by simp at e
 | (n,_)::_,_,x,.cons h r,e=>by
  rw[W7] at e ⊢;cases q:f==n with
  | true=>rw[q] at e;cases e;exact⟨_,rfl,h⟩
  |false=>rw[q] at e;exact r.look e
theorem gO.none{H:Hp}{f:Str}:∀{p:List (Str×PV)}{v:List (Str×V)},gO H p v->p.lookup f=none->v.lookup f=none
 | _,_,.nil,_=>rfl
 | (n,_)::_,_,.cons h r,e=>by
  rw[W7] at e ⊢;cases q:f==n with
  | true=>rw[q] at e;cases e
  |false=>rw[q] at e;exact r.none e
theorem aL.ints{H:Hp}:∀{ns:List Int}{v:List V},aL H (ns.map PV.int) v->v=ns.map V.int
 | [],_,.nil=>rfl
 |_::_,_,.cons (.int i) r=>by rw[r.ints];rfl
theorem aL.Pc{H:Hp}:∀{ns:List Bool}{v:List V},aL H (ns.map PV.bl) v->v=ns.map V.bl
 | [],_,.nil=>rfl
 |_::_,_,.cons (.bl i) r=>by rw[r.Pc];rfl
structure bj (Hs H P9 H':Hp):Prop where
 st:bb Hs P9
 al:bb H H'
 sub:bb P9 H'
 nw:∀a o,Hs a=none->H a=some o->(∀ws,o≠.tup ws)->P9 a=none
variable{Hs:Hp}
def bj.refl(s:bb Hs H):bj Hs H Hs H:=⟨λ_ _ e=>e,λ_ _ e=>e,s,λ_ _ e _ _=>e⟩
variable{Qc:Hp}
def bj.trans{H1 Qb H2:Hp}(a:bj Hs H Qc H1)(b:bj Qc H1 Qb H2):bj Hs H Qb H2 :=
 ⟨λc o e=>b.st c o (a.st c o e),λc o e=>b.al c o (a.al c o e),b.sub,λc o e q t=>b.nw c o (a.nw c o e q t) (a.al c o q) t⟩
def bj.new{p:Addr}{o:HO}(s:bb Hs H)(n:H p=none):bj Hs H (upd Hs p o) (upd H p o):=by
 have ne:∀c u,H c=some u->c≠p:=λc u e z=>by rw[z,n] at e;cases e
 refine⟨λc u e=>?_,λc u e=>?_,λc u e=>?_,λc u e q _=>?_⟩
 .rw[aB (ne c u (s c u e))];exact e
 .rw[aB (ne c u e)];exact e
 .by_cases z:c=p
  .subst z;rw[aH] at e ⊢;exact e
  .rw[aB z] at e ⊢;exact s c u e
 .rw[aB (ne c u q)];exact e
inductive SV where
 | sh (p:PV)
 | ow (xs:List PV)
 | bd (a C:Addr) (fs:List (Str×PV))
 |dw (P5:List (List Int×PV))
abbrev af:=List (Option SV)
def g_:SV->Bool
 | .sh _=>false
 |_=>true
def Ho(H₀ Hs H:Hp):SV->V->Prop
 | .sh p,v=>Rep Hs p v
 | .ow xs,v=>∃a vs,v=.ref a/\H a=some (.lst vs)/\Hs a=none/\H₀ a=none/\aL Hs xs vs
 | .bd a C fs,v=>∃dx vs,v=.ref a/\H a=some (.ins C dx vs)/\Hs a=none/\H₀ a=none/\gO Hs fs vs
 |.dw P5,v=>∃a us,v=.ref a/\H a=some (.dT us)/\Hs a=none/\H₀ a=none/\eB Hs P5 us
structure SR (B H₀ Hs H:Hp) (σ:St) (env:af):Prop where
 gr:bj B H₀ Hs H
 len:σ.length=env.length
 at_:∀(i:Nat)(x:SV),env[i]?=some (some x)->∃v,σ[i]?=some (some v)/\Ho H₀ Hs H x v
 ap:∀(i j:Nat)(x y:SV)(a:Addr),i≠j->env[i]?=some (some x)->env[j]?=some (some y)->g_ x=true->g_ y=true->σ[i]?=some (some (.ref a))->σ[j]?≠some (some (.ref a))
variable{H₀:Hp}
variable{j:Nat}
section
variable{B B' H₀' P9 H':Hp}{σ':St}{env P6:af}{x:Option SV}{v:Option V}
theorem SR.sh(r:SR B H₀ Hs H σ env)(i:Nat)(p:PV)(e:env[i]?=some (some (.sh p))):∃v,σ[i]?=some (some v)/\Rep Hs p v:=r.at_ i _ e
theorem SR.ow(r:SR B H₀ Hs H σ env)(i:Nat)(xs:List PV)(e:env[i]?=some (some (.ow xs))):∃a vs,σ[i]?=some (some (.ref a))/\H a=some (.lst vs)/\Hs a=none/\H₀ a=none/\aL Hs xs vs :=
 let ⟨_,h1,a,vs,z,h⟩:=r.at_ i _ e;⟨a,vs,z▸h1,h⟩
theorem SR.bd(r:SR B H₀ Hs H σ env)(i:Nat)(a C:Addr)(fs:List (Str×PV))(e:env[i]?=some (some (.bd a C fs))):∃dx vs,σ[i]?=some (some (.ref a))/\H a=some (.ins C dx vs)/\Hs a=none/\H₀ a=none/\gO Hs fs vs :=
 let ⟨_,h1,dx,vs,z,h⟩:=r.at_ i _ e;⟨dx,vs,z▸h1,h⟩
theorem SR.dw(r:SR B H₀ Hs H σ env)(i:Nat)(P5:List (List Int×PV))(e:env[i]?=some (some (.dw P5))):∃a us,σ[i]?=some (some (.ref a))/\H a=some (.dT us)/\Hs a=none/\H₀ a=none/\eB Hs P5 us :=
 let ⟨_,h1,a,vs,z,h⟩:=r.at_ i _ e;⟨a,vs,z▸h1,h⟩
def Ho.jK{x:SV}{v:V}(h:Ho H₀ Hs H x v)(o:g_ x=true):∃a u,v=.ref a/\H a=some u/\Hs a=none/\H₀ a=none/\∀ws,u≠.tup ws:=by
 cases x with
 | sh p=>cases o
 | ow xs=>obtain⟨a,vs,z,h1,h2,h3,_⟩:=h;exact⟨a,_,z,h1,h2,h3,λ_=>nofun⟩
 | bd a C fs=>obtain⟨dx,vs,z,h1,h2,h3,_⟩:=h;exact⟨a,_,z,h1,h2,h3,λ_=>nofun⟩
 |dw P5=>obtain⟨a,vs,z,h1,h2,h3,_⟩:=h;exact⟨a,_,z,h1,h2,h3,λ_=>nofun⟩
theorem Ho.mono{x:SV}{v:V}(h:Ho H₀ Hs H x v)(s:bb Hs P9)(k:∀a u,g_ x=true->v=.ref a->H a=some u->Hs a=none->H₀ a=none->(∀ws,u≠.tup ws)->H' a=some u/\P9 a=none/\H₀' a=none):Ho H₀' P9 H' x v:=by
 cases x with
 | sh p=>exact Rep.mono s h
 | ow xs=>obtain⟨a,vs,z,h1,h2,h3,h4⟩:=h;obtain⟨q1,q2,q3⟩:=k a _ rfl z h1 h2 h3 (λ_=>nofun);exact⟨a,vs,z,q1,q2,q3,h4.mono s⟩
 | bd a C fs=>obtain⟨dx,vs,z,h1,h2,h3,h4⟩:=h;obtain⟨q1,q2,q3⟩:=k a _ rfl z h1 h2 h3 (λ_=>nofun);exact⟨dx,vs,z,q1,q2,q3,h4.mono s⟩
 |dw P5=>obtain⟨a,vs,z,h1,h2,h3,h4⟩:=h;obtain⟨q1,q2,q3⟩:=k a _ rfl z h1 h2 h3 (λ_=>nofun);exact⟨a,vs,z,q1,q2,q3,h4.mono s⟩
def SR.mv(r:SR B H₀ Hs H σ env)(gr:bj B' H₀' P9 H')(hl:σ'.length=P6.length)(s:bb Hs P9)(c:∀(j:Nat)(x:SV),P6[j]?=some (some x)->env[j]?=some (some x)/\σ'[j]?=σ[j]?/\∀a u,g_ x=true->σ[j]?=some (some (.ref a))->H a=some u->Hs a=none->H₀ a=none->(∀ws,u≠.tup ws)->H' a=some u/\P9 a=none/\H₀' a=none):SR B' H₀' P9 H' σ' P6 where
 gr:=gr
 len:=hl
 at_:=λj x e=>by
  obtain⟨e1,e2,k⟩:=c j x e;obtain⟨v,h1,h2⟩:=r.at_ j x e1;exact⟨v,e2.trans h1,h2.mono s λa u o z=>k a u o (z▸h1)⟩
 ap:=λj k x y a n e1 e2 o1 o2=>by
  rw[(c j x e1).2.1,(c k y e2).2.1];exact r.ap j k x y a n (c j x e1).1 (c k y e2).1 o1 o2
def uS{y:SV}(e:(env.set i x)[j]?=some (some y)):(i≠j/\env[j]?=some (some y))\/(i=j/\x=some y/\i<env.length):=by
 rw[Yd] at e
 by_cases z:i=j
 .rw[if_pos z] at e
  split at e
  .exact .inr ⟨z,Vk e,by assumption⟩
  .cases e
 .rw[if_neg z] at e;exact .inl ⟨z,e⟩
def SR.chg(r:SR B H₀ Hs H σ env)(gr:bj B H₀ P9 H')(s:bb Hs P9)(new:∀y,x=some y->∃w,v=some w/\Ho H₀ P9 H' y w)(kp:∀(j:Nat)(y:SV)(a:Addr)(u:HO),i≠j->env[j]?=some (some y)->g_ y=true->σ[j]?=some (some (.ref a))->H a=some u->Hs a=none->(∀ws,u≠.tup ws)->H' a=some u/\P9 a=none)(sp:∀y,x=some y->g_ y=true->∀(k:Nat)(z:SV),i≠k->env[k]?=some (some z)->g_ z=true->σ[k]?≠some v):SR B H₀ P9 H' (σ.set i v) (env.set i x) where
 gr:=gr
 len:=by rw[ZX,ZX];exact r.len
 at_:=λj y e=>by
  rcases uS e with ⟨n,e⟩|⟨rfl,e,l⟩
  .obtain⟨w,h1,h2⟩:=r.at_ j y e;refine⟨w,by rwa[Yd,if_neg n],h2.mono s λa u o z q1 q2 q3 t=>?_⟩;obtain⟨p1,p2⟩:=kp j y a u n e o (z▸h1) q1 q2 t;exact⟨p1,p2,q3⟩
  .obtain⟨w,rfl,h⟩:=new y e;exact⟨w,by rw[Yd,if_pos rfl,if_pos (by rwa[r.len])],h⟩
 ap:=λj k y z a n e1 e2 o1 o2 q1 q2=>by
  rw[Yd] at q1 q2;rcases uS e1 with ⟨n1,e1⟩|⟨rfl,e1,l⟩
  .rw[if_neg n1] at q1;rcases uS e2 with ⟨n2,e2⟩|⟨rfl,e2,l⟩
   .rw[if_neg n2] at q2;exact r.ap j k y z a n e1 e2 o1 o2 q1 q2
   .rw[if_pos rfl,if_pos (by rwa[r.len])] at q2;exact sp z e2 o2 j y n1 e1 o1 (q1.trans q2.symm)
  .rw[if_pos rfl,if_pos (by rwa[r.len])] at q1;rcases uS e2 with ⟨n2,e2⟩|⟨z2,_,_⟩
   .rw[if_neg n2] at q2;exact sp y e1 o1 k z n2 e2 o2 (q2.trans q1.symm)
   .exact n z2
def SR.Bn(r:SR B H₀ Hs H σ env)(hv:σ[i]?=some v)(gr:bj B H₀ P9 H')(s:bb Hs P9)(new:∀y,x=some y->∃w,v=some w/\Ho H₀ P9 H' y w)(kp:∀(j:Nat)(y:SV)(a:Addr)(u:HO),i≠j->env[j]?=some (some y)->g_ y=true->σ[j]?=some (some (.ref a))->H a=some u->Hs a=none->(∀ws,u≠.tup ws)->H' a=some u/\P9 a=none)(sp:∀y,x=some y->g_ y=true->∀(k:Nat)(z:SV),i≠k->env[k]?=some (some z)->g_ z=true->σ[k]?≠some v):SR B H₀ P9 H' σ (env.set i x):=by
 have e:σ.set i v=σ:=aaE λj=>by
  rw[Yd]
  by_cases z:i=j
  .subst z;rw[if_pos rfl,if_pos (VI.mp hv).1,hv]
  .rw[if_neg z]
 have:=r.chg gr s new kp sp
 rwa [e] at this
def SR.held{p:Addr}(r:SR B H₀ Hs H σ env)(n:H p=none):∀(j:Nat)(y:SV),env[j]?=some (some y)->g_ y=true->σ[j]?≠some (some (.ref p)):=λj y e o z=>by
 obtain⟨v,h1,h2⟩:=r.at_ j y e;obtain⟨a,u,rfl,q,_⟩:=h2.jK o;rw[h1] at z;cases z;rw[n] at q;cases q
def SR.free{p:Addr}(r:SR B H₀ Hs H σ env)(n:H p=none):Hs p=none/\H₀ p=none:=by
 refine⟨?_,?_⟩
 .cases q:Hs p with
  | none=>rfl
  | some o=>have:=r.gr.sub _ _ q;rw[n] at this;cases this
 .cases q:H₀ p with
  | none=>rfl
  |some o=>have:=r.gr.al _ _ q;rw[n] at this;cases this
def bj.jK{p:Addr}{o:HO}(g:bj B H₀ Hs H)(h1:Hs p=none)(h2:H₀ p=none):bj B H₀ Hs (upd H p o) :=
 ⟨g.st,λc u q=>by rw[aB (λz=>by rw[z,h2] at q;cases q)];exact g.al c u q,λc u q=>by rw[aB (λz=>by rw[z,h1] at q;cases q)];exact g.sub c u q,g.nw⟩
def bj.into{p:Addr}{o:HO}(g:bj B H₀ Hs H)(h:H p=some o)(h1:Hs p=none)(h2:H₀ p=none):bj B H₀ (upd Hs p o) H/\bb Hs (upd Hs p o):=by
 have st:bb Hs (upd Hs p o):=λc u q=>by rwa[aB (λz=>by rw[z,h1] at q;cases q)]
 refine⟨⟨λc u q=>st c u (g.st c u q),g.al,λc u q=>?_,λc u q1 q2 q3=>?_⟩,st⟩
 .by_cases z:c=p
  .subst z;rw[aH] at q;rw[h,q]
  .rw[aB z] at q;exact g.sub c u q
 .rw[aB (λz=>by rw[z,h2] at q2;cases q2)];exact g.nw c u q1 q2 q3
def SR.grow(r:SR B H₀ Hs H σ env)(g:bj Hs H P9 H'):SR B H₀ P9 H' σ env :=
 r.mv (r.gr.trans g) r.len g.st λ_ _ e=>⟨e,rfl,λa u _ _ h1 h2 h3 t=>⟨g.al _ _ h1,g.nw _ _ h2 h1 t,h3⟩⟩
end
abbrev EX:=Addr×Option (List (Str×PV))
abbrev M(α:Type):=Option (Except EX α)
def M.ok{α:Type}(a:α):M α:=some (.ok a)
variable{α:Type}
noncomputable def M.bind{β:Type}(x:M α)(f:α->M β):M β:=match x with
 | some (.ok a)=>f a
 | some (.error e)=>some (.error e)
 |none=>none
instance:Monad M where
 pure:=M.ok
 bind:=M.bind
def aw(r:M α)(Q:α->Prop)(E:EX->Prop):Prop:=match r with
 | some (.ok a)=>Q a
 | some (.error e)=>E e
 |none=>False
def aw.imp{r:M α}{Q Q':α->Prop}{E E':EX->Prop}(h:aw r Q E)(hq:∀a,Q a->Q' a)(he:∀e,E e->E' e):aw r Q' E':=by
 cases r with
 | none=>exact h
 | some x=>cases x with
  | ok a=>exact hq a h
  |error e=>exact he e h
theorem aw.bind{α β:Type}{x:M α}{f:α->M β}{Q:β->Prop}{E:EX->Prop}(h:aw (x.bind f) Q E):aw x (λa=>aw (f a) Q E) E:=by
 cases x with
 | none=>exact h
 | some x=>cases x with
  | ok a=>exact h
  |error e=>exact h
def XW(E:XK)(Hs H:Hp)(x:EX):Prop:=∀ea P9 H',bj Hs H P9 H'->Rep P9 (.exc x.1 x.2) (.ref ea)->E (.ref ea) none H'
def XW.grow{E:XK}{P9 H':Hp}{x:EX}(h:XW E Hs H x)(g:bj Hs H P9 H'):XW E P9 H' x:=λea Qb H2 g2 r=>h ea Qb H2 (g.trans g2) r
def tE(E:St->XK)(f:af->M PV):TE:=fun σ H Q=>∃B H₀ Hs env,SR B H₀ Hs H σ env/\aw (f env) (λp=>∀v P9 H',bj Hs H P9 H'->Rep P9 p v->Q v H') (XW (E σ) Hs H)
def PE.imp{t t':TE}(h:PE X e t)(i:∀σ H Q,t' σ H Q->t σ H Q):PE X e t':=λPZ s σ H Q I q=>h PZ s σ H Q I (i σ H Q q)
def um{f:af->M PV}{g:af->PV->M PV}{Q R:VK}(h:tE E (λenv=>(f env).bind (g env)) σ H Q)(k:∀B H₀ Hs H1 env p v,SR B H₀ Hs H1 σ env->Rep Hs p v->aw (g env p) (λq=>∀u P9 H',bj Hs H1 P9 H'->Rep P9 q u->Q u H') (XW (E σ) Hs H1)->R v H1):tE E f σ H R:=by
 obtain⟨B,H₀,Hs,env,sr,h⟩:=h;refine⟨B,H₀,Hs,env,sr,(aw.bind h).imp (λp hp v P9 H' g r=>?_) λe he=>he⟩;exact k B H₀ P9 H' env p v (sr.grow g) r (hp.imp (λq hq u Qb H2 g2 r2=>hq u Qb H2 (g.trans g2) r2) λe he=>he.grow g)
def zp{f g:af->M PV}{op:PV->PV->M PV}{r:R2}{Q:VK}(h:tE E (λenv=>(f env).bind λp=>(g env).bind λq=>op p q) σ H Q)(k:∀Hs H1 p q v u,bb Hs H1->Rep Hs p v->Rep Hs q u->aw (op p q) (λz=>∀w P9 H',bj Hs H1 P9 H'->Rep P9 z w->Q w H') (XW (E σ) Hs H1)->r v u H1 Q):LP r (tE E f) (tE E g) σ H Q:=by
 refine um h λB H₀ Hs H1 env p v sr rp hp=>?_;refine⟨B,H₀,Hs,env,sr,(aw.bind hp).imp (λq hq u P9 H' g ru=>?_) λe he=>he⟩;exact k P9 H' p q v u (sr.grow g).gr.sub (rp.mono g.st) ru (hq.imp (λz hz w Qb H2 g2 r2=>hz w Qb H2 (g.trans g2) r2) λe he=>he.grow g)
def Nv{f:af->M PV}{op:PV->M PV}{r:V->Hp->VK->Prop}{Q:VK}(h:tE E (λenv=>(f env).bind op) σ H Q)(k:∀Hs H1 p v,bb Hs H1->Rep Hs p v->aw (op p) (λz=>∀w P9 H',bj Hs H1 P9 H'->Rep P9 z w->Q w H') (XW (E σ) Hs H1)->r v H1 Q):OZ r (tE E f) σ H Q :=
 um h λB H₀ Hs H1 env p v sr rp hp=>k Hs H1 p v sr.gr.sub rp hp
def Lg(sp:Sp)(QW:List V)(E:St->XK)(t:TA):TE:=fun σ H Q=>t σ H λvs H1=>sp (vs++QW) H1 Q (E σ)
def Dy(C:Addr)(m:Str)(sp:Sp)(QW:List V)(E:St->XK)(ta:TE)(t:TA):TE:=fun σ H Q=>ta σ H λx H1=>∃a dx fs,x=.ref a/\H1 a=some (.ins C dx fs)/\fs.lookup m=none ∧
 t σ H1 λvs H2=>sp (x::(vs++QW)) H2 Q (E σ)
def IS(C:Addr)(sp:Sp)(QW:List V)(E:St->XK)(t:TA):TE:=fun σ H Q=>t σ H λvs H1=>∀x dx,H1 x=none->H1 dx=none->dx≠x ->
 sp (.ref x::(vs++QW)) (upd (upd H1 dx (.own x)) x (.ins C dx [])) (λv H2=>v=.c_/\Q (.ref x) H2) (E σ)
variable{QW:List V}
variable{vs:List V}{us:List Value}
variable{pl:Sem Bool}
section
variable{p pos:Pos}{t:TA}
def uZ{Q:VK}(F:aW X.prog X.w X.K X.mg X.base (bW X.prog X.w) k f fd ps sp)(hr:cj k X.A)(hb:Binds X.K fd ps ds)(hd:Vals QW ds)(hx:gD X E)(I:Inv X PZ σ H s)(r:Vals vs us)(h:sp (vs++QW) H Q (E σ)):wpAny ↑8 X.A (call (.ref f) us) (EP X PZ σ Q) X.xe s:=by
 have r2:Vals (vs++QW) (us++ds):=r.append hd;have hl:(us++ds).length=ps.length:=by rw[<- r2.length];exact F.len _ _ _ _ h
 refine aci (abd (F.run X.A X.stack s H ⟨us,[]⟩ (us++ds) (vs++QW) Q (E σ) hr I.hU (hb s us I.mh hl) r2 h) λr s' hq=>?_);cases r with
 | error e=>exact hx.pass PZ σ H s e s' I hq
 | ok fl =>
  cases fl with
  | ret u=>exact I.after hq
  | next=>exact XO hq
  | brk=>exact XO hq
  |cont=>exact XO hq
def vo(F:aW X.prog X.w X.K X.mg X.base (bW X.prog X.w) k f fd ps sp)(hr:cj k X.A)(hg:Gl X x)(hm:X.mg x=some (.ref f))(hk:Xc X.K (.ref f)=true)(hb:Binds X.K fd ps ds)(hd:Vals QW ds)(hx:gD X E)(ha:PA X (e::es) t)(RA:autoParam ↑7 aD._auto_1)(he:autoParam ↑0 aR._auto_1)(QF:autoParam ↑2 aR._auto_1):PE X (.Call (.Name x p) (e::es) [] pos) (Lg sp QW E t):=by
 intro PZ s σ H Q I h;refine Y_ (uk I hg hm ?_ RA);refine aap (h₀:=X.base) I.ok.mod.LH hk (cF (ha pos PZ s σ H _ I h) λus s1 ⟨vs,H1,I1,r,q⟩=>⟨I1.mh,?_⟩) he QF;exact uZ F hr hb hd hx I1 r q
def EI(he:PE X o ta)(c:mf X.K C)(hm:Meth X.K C m f)(F:aW X.prog X.w X.K X.mg X.base (bW X.prog X.w) k f fd ps sp)(hr:cj k X.A)(hb:Binds X.K fd ps ds)(hd:Vals QW ds)(hx:gD X E)(ha:PA X (e::es) t)
  (QQ:autoParam ↑0 aR._auto_1) (QF:autoParam ↑2 aR._auto_1)
  (ht:autoParam (eval (.Call (.Attribute o m apos) (e::es) [] pos) X.env=(do
   let ov <- eval o X.env
   standAt apos.atName
   let (f,first) <- holding [ov] (getMethod ov m pl)
   callWith pos f first (backTo pos (starEach (e::es) X.env)) (backToKw pos (keywordEach [] X.env)))) aR._auto_1) :
  PE X (.Call (.Attribute o m apos) (e::es) [] pos) (Dy C m sp QW E ta t):=by
 intro PZ s σ H Q I h;refine abD (pl:=pl) (cF (he PZ s σ H _ I h) λu s1 ⟨x,H1,I1,rx,a,dx,fs,ex,ea,l,q⟩=>?_) ht;subst ex;obtain rfl:u=Vf a:=rx;refine pP I1 ea c hm l ?_;refine aap (first:=[.ref a]) (h₀:=X.base) I.ok.mod.LH hm.kp (cF (ha pos PZ s1 σ H1 _ I1 q) λus s2 ⟨vs,H2,I2,r,q2⟩=>⟨I2.mh,?_⟩) QQ QF;exact uZ (us:=.ref a::us) (vs:=.ref a::vs) F hr hb hd hx I2 (.cons rfl r) q2
def AF(he:PE X o ta)(c:mf X.K C)(hm:Meth X.K C m f)(F:aW X.prog X.w X.K X.mg X.base (bW X.prog X.w) k f fd ps sp)(hr:cj k X.A)(hb:Binds X.K fd ps ds)(hd:Vals QW ds)(hx:gD X E)
  (ht:autoParam (eval (.Call (.Attribute o m apos) [] [] pos) X.env=(do
   let ov <- eval o X.env
   standAt apos.atName
   let (f,first) <- holding [ov] (getMethod ov m pl)
   callWith pos f first (backTo pos (starEach [] X.env)) (backToKw pos (keywordEach [] X.env)))) aR._auto_1) :
  PE X (.Call (.Attribute o m apos) [] [] pos) (Dy C m sp QW E ta MR):=by
 intro PZ s σ H Q I h;refine abD (pl:=pl) (cF (he PZ s σ H _ I h) λu s1 ⟨x,H1,I1,rx,a,dx,fs,ex,ea,l,q⟩=>?_) ht;subst ex;obtain rfl:u=Vf a:=rx;refine pP I1 ea c hm l ?_;exact PySem.W.callWith_K0 (first:=[.ref a]) I1.mh hm.kp (uZ (us:=[.ref a]) (vs:=[.ref a]) F hr hb hd hx I1 (.cons rfl .nil) q)
def Bg{Q:VK}(M:Mk X.K C f)(F:aW X.prog X.w X.K X.mg X.base (bW X.prog X.w) k f fd ps sp)(hr:cj (k+1) X.A)(hb:Binds X.K fd ps ds)(hd:Vals QW ds)(hx:gD X E)(I:Inv X PZ σ H s)(r:Vals vs us)(h:∀x dx,H x=none->H dx=none->dx≠x->sp (.ref x::(vs++QW)) (upd (upd H dx (.own x)) x (.ins C dx [])) (λv H2=>v=.c_/\Q (.ref x) H2) (E σ)):wpAny ↑8 X.A (call (.ref C) us) (EP X PZ σ Q) X.xe s:=by
 have hq:=h (s.heap.objs.size+1) s.heap.objs.size (I.bJ.fresh (ZQ _)) (I.bJ.fresh (U9 _)) (Vm (Xj _));have I2:=Inv.made (C:=C) I;have r2:Vals (V.ref (s.heap.objs.size+1)::(vs++QW)) (Vf (s.heap.objs.size+1)::(us++ds)):=.cons rfl (r.append hd);have hl:(Vf (s.heap.objs.size+1)::us++ds).length=ps.length:=by
  have e:=r2.length;rw[F.len _ _ _ _ hq] at e;exact e.symm
 refine aci (BJ (f:=f) I.mh M.makes M.init (beq_iff_eq.mp M.fn) (abd (F.run _ X.stack _ _ ⟨Vf (s.heap.objs.size+1)::us,[]⟩ (Vf (s.heap.objs.size+1)::(us++ds)) _ _ (E σ) (hr.make C us [])
  (I2.hU.make C us []) (hb _ (Vf (s.heap.objs.size+1)::us) I2.mh hl) r2 hq) λr s' Ti=>?_))
 cases r with
 | error e=>exact hx.pass PZ σ _ _ e s' I2 Ti
 | ok fl =>
  cases fl with
  | ret u =>
   obtain⟨v,H',I3,rv,ev,q3⟩:=I2.after Ti;subst ev;exact⟨rv,⟨V.ref (s.heap.objs.size+1),H',I3,rfl,q3⟩⟩
  | next=>exact XO Ti
  | brk=>exact XO Ti
  |cont=>exact XO Ti
def Bm(M:Mk X.K C f)(F:aW X.prog X.w X.K X.mg X.base (bW X.prog X.w) k f fd ps sp)(hr:cj (k+1) X.A)(hg:Gl X x)(hm:X.mg x=some (.ref C))(hb:Binds X.K fd ps ds)(hd:Vals QW ds)(hx:gD X E)(ha:PA X (e::es) t)(RA:autoParam ↑7 aD._auto_1)(he:autoParam ↑0 aR._auto_1)(QF:autoParam ↑2 aR._auto_1):PE X (.Call (.Name x p) (e::es) [] pos) (IS C sp QW E t):=by
 intro PZ s σ H Q I h;refine Y_ (uk I hg hm ?_ RA);refine aap (h₀:=X.base) I.ok.mod.LH M.kp (cF (ha pos PZ s σ H _ I h) λus s1 ⟨vs,H1,I1,r,q⟩=>⟨I1.mh,?_⟩) he QF;exact Bg M F hr hb hd hx I1 r q
end
abbrev eN(Hs H:Hp)(Q:VK):PV->Prop:=λz=>∀w P9 H',bj Hs H P9 H'->Rep P9 z w->Q w H'
variable{p:PV}
def eN.flat{Q:VK}(h:eN Hs H Q p)(s:bb Hs H)(r:Rep Hs p v):Q v H:=h v Hs H (.refl s) r
theorem eN.tup{Hs H:Hp}{Q:VK}{xs:List PV}{vs:List V}(h:eN Hs H Q (.tup xs))(s:bb Hs H)(r:aL Hs xs vs):∀p,H p=none->Q (.ref p) (upd H p (.tup vs)) :=
 λp n=>h _ (upd Hs p (.tup vs)) _ (bj.new s n) (.tup aH (r.mono (bj.new s n).st))
theorem eN.lst{Hs H:Hp}{Q:VK}{xs:List PV}{vs:List V}(h:eN Hs H Q (.lst xs))(s:bb Hs H)(r:aL Hs xs vs):∀p,H p=none->Q (.ref p) (upd H p (.lst vs)) :=
 λp n=>h _ (upd Hs p (.lst vs)) _ (bj.new s n) (.lst aH (r.mono (bj.new s n).st))
namespace HT
def EG{prog:Program}{w:World}{A:Around}{E:Value->Shared->Prop}{s:Shared}{t b:Addr}{ws:List Value}{Q:Value->Shared->Prop}(ht:IsTup s.heap t #[])(hb:IsTup s.heap b ws.toArray)(h1:Q (.ref b) s):wpAny ↑11 A (binaryOp .Add (.ref t) (.ref b)) Q E s:=by
 obtain⟨⟨cls,dd,data,sl⟩,ho,hc,n,hd⟩:=id ht;obtain⟨⟨Uk,S_,data2,TJ⟩,R3,Sr,n2,hd2⟩:=id hb;simp only at hc hd Sr hd2;subst hc hd Sr hd2;exact acy ⟨_,ho,rfl⟩ ⟨_,R3,rfl⟩ aaQ ab5 Zo Zd (Y5 _ _)
   (tuple_addW0 t b #[] ws.toArray n n2 dd S_ sl TJ rfl) ⟨ho,R3,h1⟩
end HT
def BF(K:U5):R2:=λx y H Q=>∃a b ys,x=.ref a/\y=.ref b/\gm K H a []/\gm K H b ys/\Q (.ref b) H
def Cf:hX X (binaryOp .Add) (BF X.K):=by
 intro PZ s σ H x y v u Q I rx ry h;obtain⟨a,b,ys,rfl,rfl,ha,hb,q1⟩:=h;cases rx;cases ry;obtain⟨P7,r1,p1,_⟩:=I.tuple ha;obtain⟨QU,r2,p2,_⟩:=I.tuple hb;have e:P7=[]:=r1.lx.mpr rfl;subst e;exact HT.EG p1 p2 ⟨.ref b,H,I,rfl,q1⟩
def cX(c:Prop)[Decidable c](x:M α):M α:=if c then x else none
theorem aw.cX{α:Type}{c:Prop}[Decidable c]{x:M α}{Q:α->Prop}{E:EX->Prop}(h:aw (L2.cX c x) Q E):c/\aw x Q E:=by
 unfold L2.cX at h
 by_cases hc:c
 .rw[if_pos hc] at h;exact⟨hc,h⟩
 .rw[if_neg hc] at h;exact h.elim
def fZ(o:Option PV):M PV:=match o with
 | some x=>M.ok x
 |none=>none
def aw.opt{o:Option PV}{Q:PV->Prop}{E:EX->Prop}(h:aw (fZ o) Q E):∃x,o=some x/\Q x:=by
 cases o with
 | none=>exact h.elim
 |some x=>exact⟨x,rfl,h⟩
variable{op:CmpOp}
section
variable{a b:Expr}{pos:Pos}{f g h:af->M PV}
def aa(i:Nat)(env:af):M PV:=match env[i]? with
 | some (some (.sh p))=>M.ok p
 |_=>none
def JA(hN:X.N[i]?=some x)(hv:AK X.env.scope x)(hd:autoParam ↑7 aD._auto_1)(QI:autoParam ↑6 aD._auto_1):PE X (.Name x pos) (tE E (aa i)):=by
 refine(ji hN hv hd QI).imp fun σ H Q q=>?_;obtain⟨B,H₀,Hs,env,sr,q⟩:=q;unfold aa at q
 split at q
 .rename_i p e;obtain⟨v,h1,h2⟩:=sr.sh i p e;exact⟨v,h1,eN.flat q sr.gr.sub h2⟩
 .exact q.elim
def oC(he:PE X e (tC v))(r:∀H,Rep H p v):PE X e (tE E λ_=>M.ok p):=by
 refine he.imp fun σ H Q q=>?_;obtain⟨B,H₀,Hs,env,sr,q⟩:=q;exact eN.flat q sr.gr.sub (r Hs)
def LB{i:Int}:PE X (.Constant (.int i) j pos) (tE E λ_=>M.ok (.int i)):=oC Ii λ_=>.int i
def Mb{i:Bool}:PE X (.Constant (.bool i) j pos) (tE E λ_=>M.ok (.bl i)):=oC Mm λ_=>.bl i
def Ig:PE X (.Constant .none j pos) (tE E λ_=>M.ok .c_):=oC JD λ_=>.c_
def aj(op:PV->PV->M PV)(f g:af->M PV):af->M PV:=λenv=>(f env).bind λp=>(g env).bind λq=>op p q
def nQ(E:St->XK)(r:R2)(op:PV->PV->M PV):Prop:=∀(σ:St)(Hs H:Hp)(p q:PV)(v u:V)(Q:VK),bb Hs H->Rep Hs p v->Rep Hs q u->aw (op p q) (eN Hs H Q) (XW (E σ) Hs H)->r v u H Q
def pO{op:Operator}{r:R2}{o:PV->PV->M PV}(ho:hX X (binaryOp op) r)(hv:nQ E r o)(ha:PE X a (tE E f))(hb:PE X b (tE E g)):PE X (.BinOp a op b pos) (tE E (aj o f g)) :=
 (HY ho ha hb).imp fun σ H Q q=>zp q λHs H1 p q v u s rp rq h=>hv σ Hs H1 p q v u Q s rp rq h
def k_{r:R2}{o:PV->PV->M PV}(ho:hX X (compareOp op) r)(hv:nQ E r o)(ha:PE X a (tE E f))(hb:PE X b (tE E g))(hm:behindInMarks op b=false):PE X (.Compare a [op] [b] pos) (tE E (aj o f g)) :=
 (FH ho ha hb hm).imp fun σ H Q q=>zp q λHs H1 p q v u s rp rq h=>hv σ Hs H1 p q v u Q s rp rq h
def eh:PV->PV->M PV
 | .int i,.int j=>M.ok (.int (i+j))
 | .str x,.str y=>cX (x.length+y.length<=sizeLine) (M.ok (.str (x++y)))
 | .tup xs,.tup ys=>cX (xs.length+ys.length<=sizeLine) (M.ok (.tup (xs++ys)))
 | .lst xs,.lst ys=>cX (xs.length+ys.length<=sizeLine) (M.ok (.lst (xs++ys)))
 |_,_=>none
def He(K:U5):R2:=λx y H Q=>(∃i j,x=.int i/\y=.int j/\Q (.int (i+j)) H)\/(∃i j,x=.str i/\y=.str j/\i.length+j.length<=sizeLine/\Q (.str (i++j)) H)\/HF K x y H Q\/Nr x y H Q\/BF K x y H Q
def E9:hX X (binaryOp .Add) (He X.K):=hX.or IQ (hX.or xI (hX.or GG (hX.or Jy Cf)))
def Jn{K:U5}:nQ E (He K) eh:=by
 intro σ Hs H p q v u Q s rp rq h;cases rp with
 | int i=>cases rq with
  | int j=>exact .inl ⟨i,j,rfl,rfl,eN.flat h s (.int _)⟩
  | _=>exact h.elim
 | str i=>cases rq with
  | str j =>
   obtain⟨hz,h⟩:=aw.cX h;exact .inr (.inl ⟨i,j,rfl,rfl,hz,eN.flat h s (.str _)⟩)
  | _=>exact h.elim
 | @tup a xs vs ha hx=>cases rq with
  | @tup b ys us hb hy =>
   obtain⟨hz,h⟩:=aw.cX h;cases hx with
   | nil=>exact .inr (.inr (.inr (.inr ⟨a,b,us,rfl,rfl,gm.of (s _ _ ha),gm.of (s _ _ hb),eN.flat h s (.tup hb hy)⟩)))
   | cons UN Uh =>
    have hx:=aL.cons UN Uh;refine .inr (.inr (.inl ⟨a,b,_,us,rfl,rfl,gm.of (s _ _ ha),gm.of (s _ _ hb),(λz=>nomatch z),by rwa[<- hx.length,<- hy.length],λz=>?_,λz=>eN.tup h s (hx.append hy)⟩));have e:ys=[]:=by cases hy with|nil=>rfl|cons _ _=>cases z
    subst e;rw[Ww] at h;exact eN.flat h s (.tup ha hx)
  | _=>exact h.elim
 | @lst a xs vs ha hx=>cases rq with
  | @lst b ys us hb hy =>
   obtain⟨hz,h⟩:=aw.cX h;exact .inr (.inr (.inr (.inl ⟨a,b,vs,us,rfl,rfl,s _ _ ha,s _ _ hb,by rwa[<- hx.length,<- hy.length],eN.lst h s (hx.append hy)⟩)))
  | _=>exact h.elim
 |_=>exact h.elim
def DU(c:Int->Int->Bool)(o:Int->Int->Int):PV->PV->M PV
 | .int i,.int j=>cX (c i j=true) (M.ok (.int (o i j)))
 |_,_=>none
def D8{C:Int->Int->Prop}{c:Int->Int->Bool}{o:Int->Int->Int}(hc:∀i j,c i j=true->C i j):nQ E (rI C λi j=>.int (o i j)) (DU c o):=by
 intro σ Hs H p q v u Q s rp rq h;cases rp with
 | int i=>cases rq with
  | int j =>
   obtain⟨hz,h⟩:=aw.cX h;exact⟨i,j,rfl,rfl,hc i j hz,eN.flat h s (.int _)⟩
  | _=>exact h.elim
 |_=>exact h.elim
def n_:PV->PV->M PV
 | .int i,.int j=>M.ok (.int (i-j))
 |_,_=>none
def K3:nQ E (yX λi j=>.int (i-j)) n_:=by
 intro σ Hs H p q v u Q s rp rq h;cases rp with
 | int i=>cases rq with
  | int j=>exact⟨i,j,rfl,rfl,eN.flat h s (.int _)⟩
  | _=>exact h.elim
 |_=>exact h.elim
def C5(o:Int->Int->Bool):PV->PV->M PV
 | .int i,.int j=>M.ok (.bl (o i j))
 |_,_=>none
def uo{o:Int->Int->Bool}:nQ E (yX λi j=>.bl (o i j)) (C5 o):=by
 intro σ Hs H p q v u Q s rp rq h;cases rp with
 | int i=>cases rq with
  | int j=>exact⟨i,j,rfl,rfl,eN.flat h s (.bl _)⟩
  | _=>exact h.elim
 |_=>exact h.elim
def a_:PV->PV->M PV
 | .tup xs,.int i=>fZ (vh xs i)
 | .lst xs,.int i=>fZ (vh xs i)
 | .jX xs,.int i=>fZ (vh xs i)
 | .str z,.int i=>cX (z.length<=sizeLine) (fZ ((vh z.cps.toList i).map λc=>.str ⟨#[c]⟩))
 |_,_=>none
theorem aL.vh{H:Hp}{xs:List PV}{vs:List V}{i:Int}{x:PV}(r:aL H xs vs)(e:L2.vh xs i=some x):∃v,L2.vh vs i=some v/\Rep H x v:=by
 unfold L2.vh at e ⊢;rw[<- r.length];obtain⟨j,h1,h2⟩:=aaU.mp e;obtain⟨v,h3,h4⟩:=r.get h2;exact⟨v,by rwa[h1],h4⟩
def IM{K:U5}:nQ E (O8 K) a_:=by
 intro σ Hs H p q v u Q s rp rq h;cases rp with
 | @tup a xs vs ha hx=>cases rq with
  | int i =>
   obtain⟨x,ex,h⟩:=aw.opt h;obtain⟨v,h1,h2⟩:=hx.vh ex;exact .inr (.inl ⟨a,vs,i,v,rfl,rfl,gm.of (s _ _ ha),h1,eN.flat h s h2⟩)
  | _=>exact h.elim
 | @lst a xs vs ha hx=>cases rq with
  | int i =>
   obtain⟨x,ex,h⟩:=aw.opt h;obtain⟨v,h1,h2⟩:=hx.vh ex;exact .inl ⟨a,vs,i,v,rfl,rfl,gR.of (s _ _ ha),h1,eN.flat h s h2⟩
  | _=>exact h.elim
 | @jX a o xs vs ha hx=>cases rq with
  | int i =>
   obtain⟨x,ex,h⟩:=aw.opt h;obtain⟨v,h1,h2⟩:=hx.vh ex;exact .inl ⟨a,vs,i,v,rfl,rfl,.inl (.inr ⟨o,s _ _ ha⟩),h1,eN.flat h s h2⟩
  | _=>exact h.elim
 | str z=>cases rq with
  | int i =>
   obtain⟨hz,h⟩:=aw.cX h;obtain⟨x,ex,h⟩:=aw.opt h;obtain⟨c,ec,rfl⟩:=VB.mp ex;exact .inr (.inr ⟨z,i,c,rfl,rfl,hz,ec,eN.flat h s (.str _)⟩)
  | _=>exact h.elim
 |_=>exact h.elim
def Lr(ha:PE X a (tE E f))(hb:PE X b (tE E g))(hs:tV b):PE X (.Subscript a b pos) (tE E (aj a_ f g)) :=
 (MA KC ha hb hs).imp fun σ H Q q=>zp q λHs H1 p q v u s rp rq h=>IM σ Hs H1 p q v u Q s rp rq h
end
def tG(E:St->XK)(f:af->M α)(K:Hp->Hp->α->Prop):St->Hp->Prop:=fun σ H=>∃B H₀ Hs env,SR B H₀ Hs H σ env/\aw (f env) (K Hs H) (XW (E σ) Hs H)
def KG(K:Hp->Hp->α->Prop):Prop:=∀Hs H P9 H' b,K Hs H b->bj Hs H P9 H'->K P9 H' b
abbrev KB(Q:Bool->Hp->Prop):Hp->Hp->Bool->Prop:=λHs H k=>∀P9 H',bj Hs H P9 H'->Q k H'
abbrev ku(Q:VK):Hp->Hp->PV->Prop:=λHs H p=>eN Hs H Q p
abbrev KL(Q:List V->Hp->Prop):Hp->Hp->List PV->Prop:=λHs H ps=>∀vs P9 H',bj Hs H P9 H'->aL P9 ps vs->Q vs H'
theorem KB.g{Q:Bool->Hp->Prop}:KG (KB Q):=λHs H P9 H' b k g Qb H2 g2=>k Qb H2 (g.trans g2)
theorem ku.g{Q:VK}:KG (ku Q):=λHs H P9 H' b k g w Qb H2 g2 r=>k w Qb H2 (g.trans g2) r
theorem KL.g{Q:List V->Hp->Prop}:KG (KL Q):=λHs H P9 H' b k g w Qb H2 g2 r=>k w Qb H2 (g.trans g2) r
def tT(E:St->XK)(f:af->M Bool):TT:=fun σ H Q=>tG E f (KB Q) σ H
def tL(E:St->XK)(f:af->M (List PV)):TA:=fun σ H Q=>tG E f (KL Q) σ H
def PT.imp{t t':TT}(h:PT X e t)(i:∀σ H Q,t' σ H Q->t σ H Q):PT X e t':=λPZ s σ H Q I q=>h PZ s σ H Q I (i σ H Q q)
def PW.imp{t t':TT}(h:PW X e t)(i:∀σ H Q,t' σ H Q->t σ H Q):PW X e t':=λw PZ s σ H Q I q=>h w PZ s σ H Q I (i σ H Q q)
def PA.imp{e:List Expr}{t t':TA}(h:PA X e t)(i:∀σ H Q,t' σ H Q->t σ H Q):PA X e t':=λw PZ s σ H Q I q=>h w PZ s σ H Q I (i σ H Q q)
section
variable{β:Type}{K:Hp->Hp->β->Prop}
def cn{f:af->M PV}{g:af->PV->M β}{R:VK}(kg:KG K)(h:tG E (λenv=>(f env).bind (g env)) K σ H)(k:∀B H₀ Hs H1 env p v,SR B H₀ Hs H1 σ env->Rep Hs p v->aw (g env p) (K Hs H1) (XW (E σ) Hs H1)->R v H1):tE E f σ H R:=by
 obtain⟨B,H₀,Hs,env,sr,h⟩:=h;refine⟨B,H₀,Hs,env,sr,(aw.bind h).imp (λp hp v P9 H' g r=>?_) λe he=>he⟩;exact k B H₀ P9 H' env p v (sr.grow g) r (hp.imp (λq hq=>kg _ _ _ _ q hq g) λe he=>he.grow g)
def lr{f:af->M Bool}{g:af->Bool->M β}{R:Bool->Hp->Prop}(kg:KG K)(h:tG E (λenv=>(f env).bind (g env)) K σ H)(k:∀B H₀ Hs H1 env p,SR B H₀ Hs H1 σ env->aw (g env p) (K Hs H1) (XW (E σ) Hs H1)->R p H1):tT E f σ H R:=by
 obtain⟨B,H₀,Hs,env,sr,h⟩:=h;refine⟨B,H₀,Hs,env,sr,(aw.bind h).imp (λp hp P9 H' g=>?_) λe he=>he⟩;exact k B H₀ P9 H' env p (sr.grow g) (hp.imp (λq hq=>kg _ _ _ _ q hq g) λe he=>he.grow g)
def cN{f:af->M (List PV)}{g:af->List PV->M β}{R:List V->Hp->Prop}(kg:KG K)(h:tG E (λenv=>(f env).bind (g env)) K σ H)(k:∀B H₀ Hs H1 env p v,SR B H₀ Hs H1 σ env->aL Hs p v->aw (g env p) (K Hs H1) (XW (E σ) Hs H1)->R v H1):tL E f σ H R:=by
 obtain⟨B,H₀,Hs,env,sr,h⟩:=h;refine⟨B,H₀,Hs,env,sr,(aw.bind h).imp (λp hp v P9 H' g r=>?_) λe he=>he⟩;exact k B H₀ P9 H' env p v (sr.grow g) r (hp.imp (λq hq=>kg _ _ _ _ q hq g) λe he=>he.grow g)
end
def xB:PV->M Bool
 | .bl b=>M.ok b
 |_=>none
def eM(f:af->M PV):af->M Bool:=λenv=>(f env).bind xB
def aw.NI{Q:Bool->Prop}{E:EX->Prop}(h:aw (xB p) Q E):∃b,p=.bl b/\Q b:=by
 cases p with
 | bl b=>exact⟨b,rfl,h⟩
 |_=>exact h.elim
variable{r:List V->Hp->VK->Prop}
section
variable{a b:Expr}{pos:Pos}{f g h:af->M PV}{u v:af->M Bool}{rest:List Expr}
def ql{Q:Bool->Hp->Prop}(q:tT E (eM f) σ H Q):tB (tE E f) σ H Q:=by
 refine cn KB.g q λB H₀ Hs H1 env p v sr rp hp=>?_;obtain⟨k,rfl,hp⟩:=aw.NI hp;cases rp;exact⟨k,rfl,hp Hs H1 (.refl sr.gr.sub)⟩
def tJ(he:PE X e (tE E f))(hw:autoParam (∀whole,isTrue e X.env whole=(do let v <- whole;standAt e.pos;holding [v] (truthy v))) aI._auto_1):PT X e (tT E (eM f)) :=
 (Ln he hw).imp fun σ H Q q=>ql q
def kY{r:R2}{o:PV->PV->M PV}(ho:hX X (compareOp op) r)(hv:nQ E r o)(ha:PE X a (tE E f))(hb:PE X b (tE E g))(hm:behindInMarks op b=false):PT X (.Compare a [op] [b] pos) (tT E (eM (aj o f g))):=by
 refine(yC ho ha hb hm).imp fun σ H Q q=>?_;have q':=ql q;exact zp q' λHs H1 p q v u s rp rq h=>hv σ Hs H1 p q v u _ s rp rq h
def lq(u:af->M Bool):af->M Bool:=λenv=>(u env).bind λb=>M.ok (!b)
def zP(u v:af->M Bool):af->M Bool:=λenv=>(u env).bind λb=>if b=true then v env else M.ok false
def Kf(u v:af->M Bool):af->M Bool:=λenv=>(u env).bind λb=>if b=true then M.ok true else v env
def Lp(ha:PT X a (tT E u)):PT X (.UnaryOp .Not a pos) (tT E (lq u)) :=
 (Jl ha).imp fun σ H Q q=>lr KB.g q λB H₀ Hs H1 env p sr hp=>hp Hs H1 (.refl sr.gr.sub)
def G0(ha:PT X a (tT E u)):PW X (.BoolOp .And [a] pos) (tT E u):=pw_and1 ha
def pj(ha:PT X a (tT E u)):PW X (.BoolOp .Or [a] pos) (tT E u):=pw_or1 ha
def KJ(ha:PT X a (tT E u))(hb:PW X (.BoolOp .And (b::rest) pos) (tT E v)):PW X (.BoolOp .And (a::b::rest) pos) (tT E (zP u v)):=by
 refine(pw_and ha hb).imp fun σ H Q q=>lr KB.g q λB H₀ Hs H1 env p sr hp=>?_;cases p with
 | true=>exact⟨B,H₀,Hs,env,sr,hp⟩
 |false=>exact hp Hs H1 (.refl sr.gr.sub)
def w5(ha:PT X a (tT E u))(hb:PW X (.BoolOp .Or (b::rest) pos) (tT E v)):PW X (.BoolOp .Or (a::b::rest) pos) (tT E (Kf u v)):=by
 refine(pw_or ha hb).imp fun σ H Q q=>lr KB.g q λB H₀ Hs H1 env p sr hp=>?_;cases p with
 | true=>exact hp Hs H1 (.refl sr.gr.sub)
 |false=>exact⟨B,H₀,Hs,env,sr,hp⟩
def Iq(f:af->M PV):af->M PV:=λenv=>(f env).bind λp=>(xB p).bind λb=>M.ok (.bl (!b))
def Bs(f g:af->M PV):af->M PV:=λenv=>(f env).bind λp=>(xB p).bind λb=>if b=true then g env else M.ok (.bl false)
def Pt(f g:af->M PV):af->M PV:=λenv=>(f env).bind λp=>(xB p).bind λb=>if b=true then M.ok (.bl true) else g env
def Ki(ha:PE X a (tE E f)):PE X (.UnaryOp .Not a pos) (tE E (Iq f)):=by
 refine(IF ha).imp fun σ H Q q=>cn (K:=ku Q) ku.g q λB H₀ Hs H1 env p v sr rp hp=>?_;obtain⟨k,rfl,hp⟩:=aw.NI (aw.bind hp);cases rp;exact⟨k,rfl,eN.flat hp sr.gr.sub (.bl _)⟩
def ye(ha:PE X a (tE E f))(hb:PE X (.BoolOp .And (b::rest) pos) (tE E g)):PE X (.BoolOp .And (a::b::rest) pos) (tE E (Bs f g)):=by
 refine(JE ha hb).imp fun σ H Q q=>cn (K:=ku Q) ku.g q λB H₀ Hs H1 env p v sr rp hp=>?_;obtain⟨k,rfl,hp⟩:=aw.NI (aw.bind hp);cases rp;refine⟨k,rfl,?_⟩;cases k with
 | true=>exact⟨B,H₀,Hs,env,sr,hp⟩
 |false=>exact eN.flat hp sr.gr.sub (.bl _)
def AZ(u:af->M Bool)(f g:af->M PV):af->M PV:=λenv=>(u env).bind λb=>if b=true then f env else g env
def K8(hc:PT X c (tT E u))(ha:PE X a (tE E f))(hb:PE X b (tE E g)):PE X (.IfExp c a b pos) (tE E (AZ u f g)):=by
 refine(Ek hc ha hb).imp fun σ H Q q=>lr (K:=ku Q) ku.g q λB H₀ Hs H1 env p sr hp=>?_;cases p with
 | true=>exact⟨B,H₀,Hs,env,sr,hp⟩
 |false=>exact⟨B,H₀,Hs,env,sr,hp⟩
def ao:af->M (List PV):=λ_=>M.ok []
def ae(f:af->M PV)(fs:af->M (List PV)):af->M (List PV):=λenv=>(f env).bind λp=>(fs env).bind λps=>M.ok (p::ps)
variable{fs:af->M (List PV)}
def Ld:PA X [] (tL E ao):=by
 refine kW.imp fun σ H Q q=>?_;obtain⟨B,H₀,Hs,env,sr,q⟩:=q;exact q [] Hs H (.refl sr.gr.sub) .nil
def Fx(ha:PE X e (tE E f))(hr:PA X es (tL E fs))(hs:autoParam ↑0 aR._auto_1):PA X (e::es) (tL E (ae f fs)):=by
 refine(fY ha hr hs).imp fun σ H Q q=>cn (K:=KL Q) KL.g q λB H₀ Hs H1 env p v sr rp hp=>?_;refine⟨B,H₀,Hs,env,sr,(aw.bind hp).imp (λps UI vs P9 H' g r=>?_) λe he=>he⟩;exact UI (v::vs) P9 H' g (.cons (rp.mono g.st) r)
def iP(fs:af->M (List PV)):af->M PV:=λenv=>(fs env).bind λps=>cX (ps.length<=sizeLine) (M.ok (.tup ps))
def qj(fs:af->M (List PV)):af->M PV:=λenv=>(fs env).bind λps=>cX (ps.length<=sizeLine) (M.ok (.lst ps))
def Kh(hr:PA X es (tL E fs)):PE X (.Tuple es x1 pos) (tE E (iP fs)):=by
 refine(D5 hr).imp fun σ H Q q=>cN (K:=ku Q) ku.g q λB H₀ Hs H1 env p v sr rp hp=>?_;obtain⟨hz,hp⟩:=aw.cX hp;exact⟨by rwa[<- rp.length],eN.tup hp sr.gr.sub rp⟩
def Kg(hr:PA X es (tL E fs)):PE X (.List es pos) (tE E (qj fs)):=by
 refine(Dk hr).imp fun σ H Q q=>cN (K:=ku Q) ku.g q λB H₀ Hs H1 env p v sr rp hp=>?_;obtain⟨hz,hp⟩:=aw.cX hp;exact⟨by rwa[<- rp.length],eN.lst hp sr.gr.sub rp⟩
def ai(o:List PV->M PV)(fs:af->M (List PV)):af->M PV:=λenv=>(fs env).bind o
def jP(E:St->XK)(r:List V->Hp->VK->Prop)(o:List PV->M PV):Prop:=∀(σ:St)(Hs H:Hp)(ps:List PV)(vs:List V)(Q:VK),bb Hs H->aL Hs ps vs->aw (o ps) (eN Hs H Q) (XW (E σ) Hs H)->r vs H Q
def EN{o:List PV->M PV}{Q:VK}(hv:jP E r o)(q:tE E (ai o fs) σ H Q):N2 r (tL E fs) σ H Q :=
 cN (K:=ku Q) ku.g q λB H₀ Hs H1 env p v sr rp hp=>hv σ Hs H1 p v Q sr.gr.sub rp hp
variable{p:Pos}{id T:String}
def iO{o:List PV->M PV}(hc:cQ X (.builtin id) r)(hv:jP E r o)(hg:Gl X x)(hm:X.mg x=none)(hx:bootBuiltins x=some (.builtin id))(ha:PA X (e::es) (tL E fs))(hn:autoParam (x ≠ "__name__") aD._auto_1)(RA:autoParam ↑7 aD._auto_1)(he:autoParam ↑0 aR._auto_1)(QF:autoParam ↑2 aR._auto_1):PE X (.Call (.Name x p) (e::es) [] pos) (tE E (ai o fs)) :=
 (lK hc hg hm hx ha hn RA he QF).imp fun σ H Q q=>EN hv q
def sY{o:List PV->M PV}(hc:cQ X (.type T) r)(hv:jP E r o)(hg:Gl X x)(hm:X.mg x=none)(hx:bootBuiltins x=some (.type T))(ha:PA X (e::es) (tL E fs))(hn:autoParam (x ≠ "__name__") aD._auto_1)(RA:autoParam ↑7 aD._auto_1)(he:autoParam ↑0 aR._auto_1)(QF:autoParam ↑2 aR._auto_1):PE X (.Call (.Name x p) (e::es) [] pos) (tE E (ai o fs)) :=
 (sS hc hg hm hx ha hn RA he QF).imp fun σ H Q q=>EN hv q
end
variable{xs:List PV}
def bL:PV->Option (List PV)
 | .tup xs=>some xs
 | .lst xs=>some xs
 | .jX xs=>some xs
 |_=>none
def Ep{K:U5}(s:bb Hs H)(r:Rep Hs p v)(e:bL p=some xs):∃a vs,v=.ref a/\(gR K H a vs\/gm K H a vs)/\aL Hs xs vs:=by
 cases r with
 | tup h r=>cases e;exact⟨_,_,rfl,.inr (gm.of (s _ _ h)),r⟩
 | lst h r=>cases e;exact⟨_,_,rfl,.inl (gR.of (s _ _ h)),r⟩
 | jX h r=>cases e;exact⟨_,_,rfl,.inl (.inl (.inr ⟨_,s _ _ h⟩)),r⟩
 |_=>cases e
def uP:PV->M PV
 | .str z=>cX (z.length<=sizeLine) (M.ok (.int z.length))
 |p=>fZ ((bL p).map λxs=>.int xs.length)
def dU:List PV->M PV
 | [p]=>uP p
 |_=>none
def aL.one(r:aL H [p] vs):∃v,vs=[v]/\Rep H p v:=by
 cases r with
 |cons h r=>cases r;exact⟨_,rfl,h⟩
def aL.two{q:PV}(r:aL H [p,q] vs):∃v u,vs=[v,u]/\Rep H p v/\Rep H q u:=by
 cases r with
 |cons h r=>obtain⟨u,rfl,h2⟩:=r.one;exact⟨_,_,rfl,h,h2⟩
def Hh(K:U5):List V->Hp->VK->Prop:=λxs H Q=>(∃p ys,xs=[.ref p]/\(gR K H p ys\/gm K H p ys)/\Q (.int ys.length) H)\/∃z,xs=[.str z]/\z.length<=sizeLine/\Q (.int z.length) H
def AB:cQ X (.builtin "len") (Hh X.K):=cQ.or tq uf
def IY{K:U5}:jP E (Hh K) dU:=by
 intro σ Hs H ps vs Q s r h
 match ps,r with
 | [],_=>exact h.elim
 | _::_::_,_=>exact h.elim
 | [p],r =>
  obtain⟨v,rfl,rp⟩:=r.one;cases hp:bL p with
  | none =>
   cases p with
   | str z =>
    cases rp;obtain⟨hz,h⟩:=aw.cX h;exact .inr ⟨z,rfl,hz,eN.flat h s (.int _)⟩
   | tup _=>cases hp
   | lst _=>cases hp
   | jX _=>cases hp
   | _=>exact h.elim
  | some xs =>
   obtain⟨a,us,rfl,hq,hx⟩:=Ep (K:=K) s rp hp;have h':aw (fZ ((bL p).map λxs=>PV.int xs.length)) (eN Hs H Q) (XW (E σ) Hs H):=by
    cases p with
    | str z=>cases hp
    | _=>exact h
   rw[hp] at h';refine .inl ⟨a,us,rfl,hq,?_⟩;rw[<- hx.length];exact eN.flat h' s (.int _)
def w4:List PV->M PV
 | [p]=>fZ ((bL p).map .lst)
 |_=>none
def Gh{K:U5}:jP E (λxs H Q=>∃p ys,xs=[.ref p]/\(gR K H p ys\/gm K H p ys)/\∀l,H l=none->Q (.ref l) (upd H l (.lst ys))) w4:=by
 intro σ Hs H ps vs Q s r h
 match ps,r with
 | [],_=>exact h.elim
 | _::_::_,_=>exact h.elim
 | [p],r =>
  obtain⟨v,rfl,rp⟩:=r.one;obtain⟨x,ex,h⟩:=aw.opt h;obtain⟨xs,hp,rfl⟩:=VB.mp ex;obtain⟨a,us,rfl,hq,hx⟩:=Ep (K:=K) s rp hp;exact⟨a,us,rfl,hq,eN.lst h s hx⟩
def cW:List PV->M PV
 | [p]=>fZ ((bL p).map .tup)
 |_=>none
def DP{K:U5}:jP E (λxs H Q=>∃p ys,xs=[.ref p]/\((gR K H p ys/\∀l,H l=none->Q (.ref l) (upd H l (.tup ys)))\/(gm K H p ys/\Q (.ref p) H))) cW:=by
 intro σ Hs H ps vs Q s r h
 match ps,r with
 | [],_=>exact h.elim
 | _::_::_,_=>exact h.elim
 | [p],r =>
  obtain⟨v,rfl,rp⟩:=r.one;obtain⟨x,ex,h⟩:=aw.opt h;obtain⟨xs,hp,rfl⟩:=VB.mp ex;cases rp with
  | tup ha hx=>cases hp;exact⟨_,_,rfl,.inr ⟨gm.of (s _ _ ha),eN.flat h s (.tup ha hx)⟩⟩
  | lst ha hx=>cases hp;exact⟨_,_,rfl,.inl ⟨gR.of (s _ _ ha),eN.tup h s hx⟩⟩
  | jX ha hx=>cases hp;exact⟨_,_,rfl,.inl ⟨.inl (.inr ⟨_,s _ _ ha⟩),eN.tup h s hx⟩⟩
  |_=>cases hp
def lW:List PV->Option (List Int)
 | []=>some []
 | .int i::r=>(lW r).map (i::·)
 |_=>none
def BD:List PV->Option (List Bool)
 | []=>some []
 | .bl i::r=>(BD r).map (i::·)
 |_=>none
theorem yT:∀{ps:List PV}{ns:List Int},lW ps=some ns->ps=ns.map PV.int
 | [],_,e=>by cases e;rfl
 | .int i::r,_,e=>by
  obtain⟨ms,h1,rfl⟩:=VB.mp e;rw[yT h1];rfl
theorem B8:∀{ps:List PV}{ns:List Bool},BD ps=some ns->ps=ns.map PV.bl
 | [],_,e=>by cases e;rfl
 | .bl i::r,_,e=>by
  obtain⟨ms,h1,rfl⟩:=VB.mp e;rw[B8 h1];rfl
theorem mw:∀(ns:List Int),lW (ns.map PV.int)=some ns
 | []=>rfl
 |n::r=>by show (lW (r.map PV.int)).map (n::·)=_;rw[mw r];rfl
theorem v9:∀(ns:List Bool),BD (ns.map PV.bl)=some ns
 | []=>rfl
 |n::r=>by show (BD (r.map PV.bl)).map (n::·)=_;rw[v9 r];rfl
def Nf:PV->M PV
 | .lst xs=>fZ ((lW xs).map λns=>.int ns.sum)
 |_=>none
def xx:List PV->M PV
 | [p]=>Nf p
 |_=>none
def JX{K:U5}:jP E (λxs H Q=>∃(a:Addr)(ns:List Int),xs=[.ref a]/\gR K H a (ns.map V.int)/\Q (.int ns.sum) H) xx:=by
 intro σ Hs H ps vs Q s r h
 match ps,r with
 | [],_=>exact h.elim
 | _::_::_,_=>exact h.elim
 | [p],r =>
  obtain⟨v,rfl,rp⟩:=r.one;cases rp with
  | lst ha hx =>
   obtain⟨x,ex,h⟩:=aw.opt h;obtain⟨ns,hn,rfl⟩:=VB.mp ex;rw[yT hn] at hx;exact⟨_,ns,rfl,hx.ints▸gR.of (s _ _ ha),eN.flat h s (.int _)⟩
  |_=>exact h.elim
def all1:PV->M PV
 | .lst xs=>fZ ((BD xs).map λns=>.bl (ns.all id))
 |_=>none
def wj:List PV->M PV
 | [p]=>all1 p
 |_=>none
def J2{K:U5}:jP E (λxs H Q=>∃(a:Addr)(bs:List Bool),xs=[.ref a]/\gR K H a (bs.map V.bl)/\Q (.bl (bs.all id)) H) wj:=by
 intro σ Hs H ps vs Q s r h
 match ps,r with
 | [],_=>exact h.elim
 | _::_::_,_=>exact h.elim
 | [p],r =>
  obtain⟨v,rfl,rp⟩:=r.one;cases rp with
  | lst ha hx =>
   obtain⟨x,ex,h⟩:=aw.opt h;obtain⟨ns,hn,rfl⟩:=VB.mp ex;rw[B8 hn] at hx;exact⟨_,ns,rfl,hx.Pc▸gR.of (s _ _ ha),eN.flat h s (.bl _)⟩
  |_=>exact h.elim
def OR(o:Int->Int->Int):PV->PV->M PV
 | .int i,.int j=>M.ok (.int (o i j))
 |_,_=>none
def BZ(o:Int->Int->Int):List PV->M PV
 | [p,q]=>OR o p q
 |_=>none
def Fz{o:Int->Int->Int}:jP E (λxs H Q=>∃i j,xs=[.int i,.int j]/\Q (.int (o i j)) H) (BZ o):=by
 intro σ Hs H ps vs Q s r h
 match ps,r with
 | [],_=>exact h.elim
 | [_],_=>exact h.elim
 | _::_::_::_,_=>exact h.elim
 | [p,q],r =>
  obtain⟨v,u,rfl,rp,rq⟩:=r.two;cases rp with
  | int i=>cases rq with
   | int j=>exact⟨i,j,rfl,eN.flat h s (.int _)⟩
   | _=>exact h.elim
  |_=>exact h.elim
def dR(n:Nat)(sem:List PV->M PV):Sp:=λvs H Q E=>vs.length=n/\∃Hs ps,bb Hs H/\aL Hs ps vs/\aw (sem ps) (eN Hs H Q) (XW E Hs H)
variable{RL:List PV}
section
variable{sem:List PV->M PV}{p pos:Pos}{fs:af->M (List PV)}{g:af->M PV}
def FQ(F:aW X.prog X.w X.K X.mg X.base (bW X.prog X.w) k f fd ps (dR n sem))(hr:cj k X.A)(hg:Gl X x)(hm:X.mg x=some (.ref f))(hk:Xc X.K (.ref f)=true)(hb:Binds X.K fd ps ds)(hd:Vals QW ds)(hdp:∀H,aL H RL QW)(O:gD X E)(hl:∀ps,sem (ps++RL)≠none->ps.length+RL.length=n)(ha:PA X (e::es) (tL E fs))(RA:autoParam ↑7 aD._auto_1)(he:autoParam ↑0 aR._auto_1)(QF:autoParam ↑2 aR._auto_1):PE X (.Call (.Name x p) (e::es) [] pos) (tE E (ai (λps=>sem (ps++RL)) fs)):=by
 refine(vo F hr hg hm hk hb hd O ha RA he QF).imp fun σ H Q q=>cN (K:=ku Q) ku.g q λB H₀ Hs H1 env RN v sr rp hp=>?_;have r2:aL Hs (RN++RL) (v++QW):=rp.append (hdp Hs);have hn:sem (RN++RL)≠none:=λz=>by rwa[z] at hp
 refine⟨?_,Hs,RN++RL,sr.gr.sub,r2,hp⟩;rw[<- r2.length,Vw];exact hl RN hn
def eW(ok:Addr->Bool)(f:Str)(g:af->M PV):af->M PV:=λenv=>(g env).bind λp=>match p with
 | .obj C fs=>cX (ok C=true) (fZ (fs.lookup f))
 |_=>none
def ID{ok:Addr->Bool}{fl:Str}(he:PE X e (tE E g))(bJ:∀C,ok C=true->mf X.K C/\cp X.K C fl)(hb:attributeBase e fl X.env (eval e X.env)=eval e X.env):PE X (.Attribute e fl pos) (tE E (eW ok fl g)):=by
 refine(JT he hb).imp fun σ H Q q=>cn (K:=ku Q) ku.g q λB H₀ Hs H1 env p v sr rp hp=>?_;cases rp with
 | obj ha hx =>
  obtain⟨hc,hp⟩:=aw.cX hp;obtain⟨x,ex,hp⟩:=aw.opt hp;obtain⟨u,h1,h2⟩:=hx.look ex;exact⟨_,_,_,_,u,rfl,sr.gr.sub _ _ ha,(bJ _ hc).1,(bJ _ hc).2,h1,eN.flat hp sr.gr.sub h2⟩
 |_=>exact hp.elim
def bF(C:Addr)(m:Str)(sem:List PV->M PV)(g:af->M PV)(fs:af->M (List PV)):af->M PV:=λenv=>(g env).bind λp=>match p with
 | .obj C' fl=>cX (C'=C/\fl.lookup m=none) ((fs env).bind λps=>sem (.obj C' fl::ps))
 |_=>none
def Ff(he:PE X o (tE E g))(c:mf X.K C)(hm:Meth X.K C m f)(F:aW X.prog X.w X.K X.mg X.base (bW X.prog X.w) k f fd ps (dR n sem))(hr:cj k X.A)(hb:Binds X.K fd ps [])(O:gD X E)(hl:∀ps,sem ps≠none->ps.length=n)(ha:PA X (e::es) (tL E fs))
  (QQ:autoParam ↑0 aR._auto_1) (QF:autoParam ↑2 aR._auto_1)
  (ht:autoParam (eval (.Call (.Attribute o m apos) (e::es) [] pos) X.env=(do
   let ov <- eval o X.env
   standAt apos.atName
   let (f,first) <- holding [ov] (getMethod ov m pl)
   callWith pos f first (backTo pos (starEach (e::es) X.env)) (backToKw pos (keywordEach [] X.env)))) aR._auto_1) :
  PE X (.Call (.Attribute o m apos) (e::es) [] pos) (tE E (bF C m sem g fs)):=by
 refine(EI he c hm F hr hb .nil O ha QQ QF ht).imp fun σ H Q q=>cn (K:=ku Q) ku.g q λB H₀ Hs H1 env p v sr rp hp=>?_;cases rp with
 | @obj a C' dx fl fvs ho hx =>
  obtain⟨⟨e1,hn⟩,Dw⟩:=aw.cX hp;subst e1;refine⟨a,dx,fvs,rfl,sr.gr.sub _ _ ho,hx.none hn,B,H₀,Hs,env,sr,(aw.bind Dw).imp (λRN UI vs P9 H' g' r=>?_) λe he=>he⟩;have r2:aL P9 (.obj C' fl::RN) (V.ref a::(vs++[])):=by rw[Ww];exact .cons ((Rep.obj ho hx).mono g'.st) r
  have hn:sem (.obj C' fl::RN)≠none:=λz=>by rwa[z] at UI
  refine⟨by rw[<- r2.length];exact hl _ hn,P9,_,g'.sub,r2,UI.imp (λz hz w Qb H2 g2 r2=>hz w Qb H2 (g'.trans g2) r2) λe he=>he.grow g'⟩
 |_=>exact hp.elim
def Cr(he:PE X o (tE E g))(c:mf X.K C)(hm:Meth X.K C m f)(F:aW X.prog X.w X.K X.mg X.base (bW X.prog X.w) k f fd ps (dR n sem))(hr:cj k X.A)(hb:Binds X.K fd ps [])(O:gD X E)(hl:∀ps,sem ps≠none->ps.length=n)
  (ht:autoParam (eval (.Call (.Attribute o m apos) [] [] pos) X.env=(do
   let ov <- eval o X.env
   standAt apos.atName
   let (f,first) <- holding [ov] (getMethod ov m pl)
   callWith pos f first (backTo pos (starEach [] X.env)) (backToKw pos (keywordEach [] X.env)))) aR._auto_1) :
  PE X (.Call (.Attribute o m apos) [] [] pos) (tE E (bF C m sem g ao)):=by
 refine(AF he c hm F hr hb .nil O ht).imp fun σ H Q q=>cn (K:=ku Q) ku.g q λB H₀ Hs H1 env p v sr rp hp=>?_;cases rp with
 | @obj a C' dx fl fvs ho hx =>
  obtain⟨⟨e1,hn⟩,Dw⟩:=aw.cX hp;subst e1;have r2:aL Hs [.obj C' fl] [V.ref a]:=.cons (Rep.obj ho hx) .nil;have hn':sem [.obj C' fl]≠none:=λz=>by
   have Su:aw (sem [.obj C' fl]) (eN Hs H1 Q) (XW (E σ) Hs H1):=Dw;rwa[z] at Su
  exact⟨a,dx,fvs,rfl,sr.gr.sub _ _ ho,hx.none hn,by rw[show ([]:List V)++[]=[] from rfl];exact r2.length▸hl _ hn',Hs,_,sr.gr.sub,r2,Dw⟩
 |_=>exact hp.elim
end
inductive Out where
 |nx (env:af)|rt (p:PV)|bk (env:af)|ct (env:af)
def KS(D:Ends)(B H₀:Hp):Out->Prop
 | .nx env=>∀σ Hs H,SR B H₀ Hs H σ env->D.nx σ H
 | .rt p=>∀v Hs H,bj B H₀ Hs H->Rep Hs p v->D.rt v H
 | .bk env=>∀σ Hs H,SR B H₀ Hs H σ env->D.bk σ H
 |.ct env=>∀σ Hs H,SR B H₀ Hs H σ env->D.ct σ H
def tS(E:XK)(f:af->M Out):TS:=λD σ H=>∃B H₀ Hs env,SR B H₀ Hs H σ env/\aw (f env) (KS D B H₀) (XW E B H₀)
def PS.imp{st:Stmt}{t t':TS}(h:PS X st t)(i:∀D σ H,t' D σ H->t D σ H):PS X st t':=λPZ s σ H D I q=>h PZ s σ H D I (i D σ H q)
def kr.imp{st:List Stmt}{t t':TS}(h:kr X st t)(i:∀D σ H,t' D σ H->t D σ H):kr X st t':=λPZ s σ H D I q=>h PZ s σ H D I (i D σ H q)
def av:af->M Out:=λenv=>M.ok (.nx env)
def CH(g:af->M Out):Out->M Out
 | .nx env=>g env
 |o=>M.ok o
noncomputable def aq(f g:af->M Out):af->M Out:=λenv=>(f env).bind (CH g)
def iU{E:XK}{f:af->M PV}{g:af->PV->M Out}{D:Ends}{R:VK}(h:tS E (λenv=>(f env).bind (g env)) D σ H)(k:∀B H₀ Hs H1 env p v,SR B H₀ Hs H1 σ env->Rep Hs p v->aw (g env p) (KS D B H₀) (XW E B H₀)->R v H1):tE (λ_=>E) f σ H R:=by
 obtain⟨B,H₀,Hs,env,sr,h⟩:=h;refine⟨B,H₀,Hs,env,sr,(aw.bind h).imp (λp hp v P9 H' g r=>?_) λe he=>he.grow sr.gr⟩;exact k B H₀ P9 H' env p v (sr.grow g) r hp
def D_{E:XK}{f:af->M Bool}{g:af->Bool->M Out}{D:Ends}{R:Bool->Hp->Prop}(h:tS E (λenv=>(f env).bind (g env)) D σ H)(k:∀B H₀ Hs H1 env p,SR B H₀ Hs H1 σ env->aw (g env p) (KS D B H₀) (XW E B H₀)->R p H1):tT (λ_=>E) f σ H R:=by
 obtain⟨B,H₀,Hs,env,sr,h⟩:=h;refine⟨B,H₀,Hs,env,sr,(aw.bind h).imp (λp hp P9 H' g=>?_) λe he=>he.grow sr.gr⟩;exact k B H₀ P9 H' env p (sr.grow g) hp
def Cj{E:XK}{f:af->M (List PV)}{g:af->List PV->M Out}{D:Ends}{R:List V->Hp->Prop}(h:tS E (λenv=>(f env).bind (g env)) D σ H)(k:∀B H₀ Hs H1 env p v,SR B H₀ Hs H1 σ env->aL Hs p v->aw (g env p) (KS D B H₀) (XW E B H₀)->R v H1):tL (λ_=>E) f σ H R:=by
 obtain⟨B,H₀,Hs,env,sr,h⟩:=h;refine⟨B,H₀,Hs,env,sr,(aw.bind h).imp (λp hp v P9 H' g r=>?_) λe he=>he.grow sr.gr⟩;exact k B H₀ P9 H' env p v (sr.grow g) r hp
theorem SR.set{B H₀ Hs H:Hp}{σ:St}{env:af}{p:PV}{v:V}{i:Nat}(r:SR B H₀ Hs H σ env)(h:Rep Hs p v):SR B H₀ Hs H (σ.set i (some v)) (env.set i (some (.sh p))) :=
 r.chg r.gr (λ_ _ q=>q) (λ_ e=>by cases e;exact⟨v,rfl,h⟩) (λ_ _ _ _ _ _ _ _ h1 h2 _=>⟨h1,h2⟩) λ_ e o=>by cases e;cases o
def SR.own{B:Hp}{env:af}{p:Addr}(r:SR B H₀ Hs H σ env)(h:aL Hs xs vs)(n:H p=none):SR B H₀ Hs (upd H p (.lst vs)) (σ.set i (some (.ref p))) (env.set i (some (.ow xs))) :=
 r.chg (r.gr.jK (r.free n).1 (r.free n).2) (λ_ _ q=>q) (λ_ e=>by cases e;exact⟨_,rfl,p,vs,rfl,aH,(r.free n).1,(r.free n).2,h⟩) (λ_ _ a u _ _ _ _ h1 h2 _=>⟨by rwa[aB (λz=>by rw[z,n] at h1;cases h1)],h2⟩) λ_ _ _ k z _=>r.held n k z
def ph(i:Nat)(env:af):af:=match env[i]? with
 | some (some (.ow xs))=>env.set i (some (.sh (.lst xs)))
 |_=>env
def SR.NB{B:Hp}{env:af}(r:SR B H₀ Hs H σ env)(e:env[i]?=some (some (.ow xs))):∃a vs,Hs a=none/\H a=some (.lst vs)/\SR B H₀ (upd Hs a (.lst vs)) H σ (env.set i (some (.sh (.lst xs))))/\bb Hs (upd Hs a (.lst vs)):=by
 obtain⟨a,vs,h1,h2,h3,h4,h5⟩:=r.ow i xs e;obtain⟨g,st⟩:=r.gr.into h2 h3 h4;refine⟨a,vs,h3,h2,r.Bn h1 g st (λ_ q=>by cases q;exact⟨_,rfl,.lst aH (h5.mono st)⟩) (λj y b u n ej o z q1 q2 _=>⟨q1,by rwa[aB (λw=>by subst w;exact r.ap i j _ y b n e ej rfl o h1 z)]⟩) λ_ q o=>(by cases q;cases o),st⟩
def SR.j4{B:Hp}{env:af}(i:Nat)(r:SR B H₀ Hs H σ env):∃P9,SR B H₀ P9 H σ (ph i env)/\bb Hs P9:=by
 unfold ph
 split
 .obtain⟨a,vs,_,_,h⟩:=r.NB (by assumption);exact⟨_,h⟩
 .exact⟨Hs,r,λ_ _ q=>q⟩
def rL(is:List Nat)(f:af->M Out):af->M Out:=λenv=>f (is.foldl (λe i=>ph i e) env)
theorem SR.mq{B H₀ H:Hp}{σ:St}:∀{is:List Nat}{Hs:Hp}{env:af},SR B H₀ Hs H σ env->∃P9,SR B H₀ P9 H σ (is.foldl (λe i=>ph i e) env)/\bb Hs P9
 | [],Hs,_,r=>⟨Hs,r,λ_ _ q=>q⟩
 | i::is,_,_,r=>by
  obtain⟨Qc,r1,s1⟩:=r.j4 i;obtain⟨Qb,r2,s2⟩:=SR.mq (is:=is) r1;exact⟨Qb,r2,λc u q=>s2 c u (s1 c u q)⟩
variable{pos':Pos}
section
variable{E:XK}{pos:Pos}{f:af->M PV}{st:Stmt}{sts rest:List Stmt}{u:af->M Bool}{g h:af->M Out}
def J_(is:List Nat)(hs:PS X st (tS E g)):PS X st (tS E (rL is g)):=hs.imp λD σ H q=>by
 obtain⟨B,H₀,Hs,env,sr,q⟩:=q;obtain⟨P9,r,_⟩:=sr.mq (is:=is);exact⟨B,H₀,P9,_,r,q⟩
def G3:kr X [] (tS E av):=Fy.imp λD σ H q=>by
 obtain⟨B,H₀,Hs,env,sr,q⟩:=q;exact q σ Hs H sr
def DB(h1:PS X st (tS E g))(h2:kr X rest (tS E h)):kr X (st::rest) (tS E (aq g h)):=by
 refine(vt h1 h2).imp λD σ H q=>?_;obtain⟨B,H₀,Hs,env,sr,q⟩:=q;refine⟨B,H₀,Hs,env,sr,(aw.bind q).imp (λo ho=>?_) λe he=>he⟩;cases o with
 | nx P6=>exact fun σ' P9 H' RI=>⟨B,H₀,P9,P6,RI,ho⟩
 | rt p=>exact ho
 | bk P6=>exact ho
 |ct P6=>exact ho
def bo(i:Nat)(f:af->M PV):af->M Out:=λenv=>(f env).bind λp=>M.ok (.nx (env.set i (some (.sh p))))
def IH(hN:X.N.Nodup)(hi:X.N[i]?=some x)(hx:Loc X.env.scope x)(he:PE X e (tE (λ_=>E) f))(hs:autoParam (swapsWith e (some (.Name x pos')) pos.line X.env=pure false) aR._auto_1)(hf:autoParam ↑1 aF._auto_1):PS X (.Assign [.Name x pos'] e pos) (tS E (bo i f)) :=
 (xV hN hi hx he hs hf).imp λD σ H q=>iU q λB H₀ Hs H1 env p v sr rp hp=>hp _ Hs H1 (sr.set rp)
def retS(f:af->M PV):af->M Out:=λenv=>(f env).bind λp=>M.ok (.rt p)
def I_(he:PE X e (tE (λ_=>E) f)):PS X (.Return (some e) pos) (tS E (retS f)) :=
 (D6 he).imp λD σ H q=>iU q λB H₀ Hs H1 env p v sr rp hp=>hp v Hs H1 sr.gr rp
def l4(f:af->M PV):af->M Out:=λenv=>(f env).bind λ_=>M.ok (.nx env)
def GZ(he:PE X e (tE (λ_=>E) f))(hs:autoParam (swapsWith e none pos.line X.env=pure false) aR._auto_1):PS X (.Expr e pos) (tS E (l4 f)) :=
 (oG he hs).imp λD σ H q=>iU q λB H₀ Hs H1 env p v sr rp hp=>hp σ Hs H1 sr
def ng(u:af->M Bool)(g h:af->M Out):af->M Out:=λenv=>(u env).bind λb=>if b=true then g env else h env
def MG{a b:List Stmt}(hc:PT X c (tT (λ_=>E) u))(ha:kr X a (tS E g))(hb:kr X b (tS E h)):PS X (.If c a b pos) (tS E (ng u g h)):=by
 refine(Mt hc ha hb).imp λD σ H q=>D_ q λB H₀ Hs H1 env p sr hp=>?_;cases p with
 | true=>exact⟨B,H₀,Hs,env,sr,hp⟩
 |false=>exact⟨B,H₀,Hs,env,sr,hp⟩
end
def ov(Hs H₀:Hp):Hp:=λa=>match Hs a with
 | some o=>some o
 |none=>H₀ a
def tU{a:Addr}{o:HO}(h:Hs a=some o):ov Hs H₀ a=some o:=by unfold ov;rw[h]
def lA{a:Addr}(h:Hs a=none):ov Hs H₀ a=H₀ a:=by unfold ov;rw[h]
def E1(s:bb Hs H)(t:bb H₀ H):bb (ov Hs H₀) H:=λa o e=>by
 cases q:Hs a with
 | some o'=>rw[tU q] at e;cases e;exact s _ _ q
 |none=>rw[lA q] at e;exact t _ _ e
def SR.rebase{B:Hp}{env:af}(r:SR B H₀ Hs H σ env):SR Hs (ov Hs H₀) Hs H σ env :=
 r.mv ⟨λ_ _ e=>e,E1 r.gr.sub r.gr.al,r.gr.sub,λ_ _ e _ _=>e⟩ r.len (λ_ _ q=>q) λ_ _ e=>⟨e,rfl,λa u _ _ h1 h2 h3 _=>⟨h1,h2,by rwa[lA h2]⟩⟩
def bj.kS{B Qb H2:Hp}(g:bj B H₀ Hs H)(g2:bj Hs (ov Hs H₀) Qb H2):bj B H₀ Qb H2 where
 st:=λa o e=>g2.st a o (g.st a o e)
 al:=λa o e=>by
  cases q:Hs a with
  | some o' =>
   have h1:=g.sub a o' q;have h2:=g.al a o e;rw[h1] at h2;cases h2;exact g2.al a _ (tU q)
  | none=>exact g2.al a o (by rwa[lA q])
 sub:=g2.sub
 nw:=λa o e q t=>by
  have h1:=g.nw a o e q t;exact g2.nw a o h1 (by rwa[lA h1]) t
theorem SR.kS{B H₀ Hs H Qb H2:Hp}{σ:St}{env:af}(g:bj B H₀ Hs H)(r:SR Hs (ov Hs H₀) Qb H2 σ env):SR B H₀ Qb H2 σ env :=
 r.mv (g.kS r.gr) r.len (λ_ _ q=>q) λ_ _ e=>⟨e,rfl,λa u _ _ h1 h2 h4 _=>⟨h1,h2,by
  cases q:Hs a with
  | some o=>rw[tU q] at h4;cases h4
  |none=>rwa[lA q] at h4⟩⟩
def XW.rebase{E:XK}{B:Hp}(g:bj B H₀ Hs H){x:EX}(h:XW E B H₀ x):XW E Hs (ov Hs H₀) x:=λea Qb H2 r q=>h ea Qb H2 (g.kS r) q
def Me(k:af->M Out):Out->M Out
 | .nx env=>k env
 | .ct env=>k env
 | .bk env=>M.ok (.nx env)
 |.rt p=>M.ok (.rt p)
def jM(set:PV->af->M af)(body:af->M Out):List PV->af->M Out
 | [],env=>M.ok (.nx env)
 |x::xs,env=>(set x env).bind λP6=>(body P6).bind (Me (jM set body xs))
def Et(E:XK)(g:TG)(set:PV->af->M af):Prop:=∀(B H₀ Hs H:Hp)(σ:St)(env:af)(p:PV)(v:V)(Q:St->Hp->Prop)(Z:EX->Prop),SR B H₀ Hs H σ env->Rep Hs p v->aw (set p env) (λP6=>∀σ',SR B H₀ Hs H σ' P6->Q σ' H) Z->g v σ H Q
def bB(i:Nat)(p:PV)(env:af):M af:=M.ok (env.set i (some (.sh p)))
def ba{E:XK}:Et E (aJ i) (bB i):=λB H₀ Hs H σ env p v Q Z sr r h=>h _ (sr.set r)
def cL(i j:Nat):PV->af->M af
 | .tup [p,q],env=>M.ok ((env.set i (some (.sh p))).set j (some (.sh q)))
 |_,_=>none
def dD{E:XK}{K:U5}:Et E (i9 K 2 (bC (aJ i) (bC (aJ j) iY))) (cL i j):=by
 intro B H₀ Hs H σ env p v Q Z sr r h;cases r with
 | @tup a xs vs ha hx =>
  match xs,hx with
  | [p,q],hx =>
   obtain⟨v,u,rfl,rp,rq⟩:=hx.two;exact⟨a,[v,u],rfl,gm.of (sr.gr.sub _ _ ha),rfl,v,[u],rfl,u,[],rfl,rfl,h _ ((sr.set rp).set rq)⟩
  | [],_=>exact h.elim
  | [_],_=>exact h.elim
  | _::_::_::_,_=>exact h.elim
 |_=>exact h.elim
section
variable{E:XK}{g:TG}{set:PV->af->M af}{body:af->M Out}{D:Ends}{B:Hp}
def Jv(E:XK)(set:PV->af->M af)(body:af->M Out)(D:Ends)(B H₀ Qc:Hp)(xs:List PV)(i:Nat)(σ:St)(H:Hp):Prop:=∃Hs env,SR B H₀ Hs H σ env/\bb Qc Hs/\aw (jM set body (xs.drop i) env) (KS D B H₀) (XW E B H₀)
def Jv.done(j:Jv E set body D B H₀ Qc xs n σ H)(hn:xs.length<=n):D.nx σ H:=by
 obtain⟨Hs,env,sr,_,h⟩:=j;rw[Yv hn] at h;exact h σ Hs H sr
def Jv.turn{H1 Hx:Hp}{x:PV}(tg:Et E g set)(hx:xs[i]?=some x){env:af}(sr:SR B H₀ Hs H σ env)(s1:bb Qc Hs)(h:aw (jM set body (xs.drop i) env) (KS D B H₀) (XW E B H₀)){Qb H2:Hp}(gr:bj Hs H Qb H2)(rv:Rep Qb x v):g v σ H2 fun σ2 H3=>tS E body { D with nx:=Jv E set body D B H₀ Qc xs (i+1),ct:=Jv E set body D B H₀ Qc xs (i+1),bk:=D.nx } σ2 H3:=by
 have QP:i<xs.length:=(VI.mp hx).1;have hd:xs.drop i=x::xs.drop (i+1):=by
  rw[Xh QP];rw[U4 QP] at hx;rw[Vk hx]
 rw[hd] at h;have QA:=sr.grow gr;refine tg B H₀ Qb H2 σ env x v _ _ QA rv ((aw.bind h).imp (λP6 h' σ' RI=>?_) λ_ z=>z);refine⟨Qb,ov Qb H₀,Qb,P6,RI.rebase,(aw.bind h').imp (λo ho=>?_) λe he=>he.rebase RI.gr⟩;cases o with
 | nx e2=>exact fun σ3 RP H3 r=>⟨RP,e2,r.kS RI.gr,λa o z=>r.gr.st a o (gr.st a o (s1 a o z)),ho⟩
 | ct e2=>exact fun σ3 RP H3 r=>⟨RP,e2,r.kS RI.gr,λa o z=>r.gr.st a o (gr.st a o (s1 a o z)),ho⟩
 | bk e2=>exact fun σ3 RP H3 r=>ho σ3 RP H3 (r.kS RI.gr)
 |rt p=>exact λv3 RP H3 r q=>ho v3 RP H3 (RI.gr.kS r) q
end
def iE(it:af->M (List PV))(set:PV->af->M af)(body:af->M Out):af->M Out:=λenv=>(it env).bind λxs=>jM set body xs env
def itemsOf(f:af->M PV):af->M (List PV):=λenv=>(f env).bind λp=>match bL p with|some xs=>M.ok xs|none=>none
def jb{K:U5}(s:bb Hs H)(r:Rep Hs p v)(e:bL p=some xs):∃b a vs,v=.ref a/\(∀P9 H',bb Hs P9->bb P9 H'->kn K H' b a vs)/\aL Hs xs vs:=by
 cases r with
 | tup h r=>cases e;exact⟨false,_,_,rfl,λP9 H' s1 s2=>gm.of (s2 _ _ (s1 _ _ h)),r⟩
 | lst h r=>cases e;exact⟨true,_,_,rfl,λP9 H' s1 s2=>gR.of (s2 _ _ (s1 _ _ h)),r⟩
 | jX h r=>cases e;exact⟨true,_,_,rfl,λP9 H' s1 s2=>.inl (.inr ⟨_,s2 _ _ (s1 _ _ h)⟩),r⟩
 |_=>cases e
section
variable{E:XK}{pos p:Pos}{f f2:af->M PV}{g:TG}{set:PV->af->M af}{body:af->M Out}{bd:List Stmt}
end
def N_:PV->M (List PV)
 | .int n=>cX (-(2^62)<=n/\n<2^62) (M.ok ((Ve n.toNat).map λ(i:Nat)=>.int (0+(i:Int))))
 |_=>none
def OF:PV->PV->M (List PV)
 | .int a,.int b=>cX (-(2^62)<=a/\a<2^62/\-(2^62)<=b/\b<2^62) (M.ok ((Ve (b-a).toNat).map λ(i:Nat)=>.int (a+(i:Int))))
 |_,_=>none
def k8:List PV->M (List PV)
 | [p]=>N_ p
 |_=>none
def A7:List PV->M (List PV)
 | [p,q]=>OF p q
 |_=>none
variable{Z:EX->Prop}
def Ay{ps:List PV}{k:List PV->M α}{Q:α->Prop}(h:aw ((k8 ps).bind k) Q Z):∃n:Int,ps=[.int n]/\-(2^62)<=n/\n<2^62/\aw (k ((Ve n.toNat).map λ(i:Nat)=>.int (0+(i:Int)))) Q Z:=by
 match ps with
 | []=>exact h.elim
 | _::_::_=>exact h.elim
 | [p] =>
  cases p with
  | int n =>
   obtain⟨hc,h⟩:=aw.cX (aw.bind h);exact⟨n,rfl,hc.1,hc.2,h⟩
  |_=>exact h.elim
def Aq{ps:List PV}{k:List PV->M α}{Q:α->Prop}(h:aw ((A7 ps).bind k) Q Z):∃a b:Int,ps=[.int a,.int b]/\(-(2^62)<=a/\a<2^62/\-(2^62)<=b/\b<2^62)/\aw (k ((Ve (b-a).toNat).map λ(i:Nat)=>.int (a+(i:Int)))) Q Z:=by
 match ps with
 | []=>exact h.elim
 | [_]=>exact h.elim
 | _::_::_::_=>exact h.elim
 | [p,q] =>
  cases p with
  | int a=>cases q with
   | int b =>
    obtain⟨hc,h⟩:=aw.cX (aw.bind h);exact⟨a,b,rfl,hc,h⟩
   | _=>exact h.elim
  |_=>exact h.elim
def zip2:List PV->M (List PV)
 | [p,q]=>match bL p,bL q with
  | some xs,some ys=>M.ok (abe (λa b=>.tup [a,b]) xs ys)
  | _,_=>none
 |_=>none
def AW{ps:List PV}{k:List PV->M α}{Q:α->Prop}(h:aw ((zip2 ps).bind k) Q Z):∃p q xs ys,ps=[p,q]/\bL p=some xs/\bL q=some ys/\aw (k (abe (λa b=>.tup [a,b]) xs ys)) Q Z:=by
 match ps with
 | []=>exact h.elim
 | [_]=>exact h.elim
 | _::_::_::_=>exact h.elim
 | [p,q] =>
  unfold zip2 at h;dsimp only at h;cases e1:bL p with
  | none=>rw[e1] at h;exact h.elim
  | some xs =>
   cases e2:bL q with
   | none=>rw[e1,e2] at h;exact h.elim
   |some ys=>rw[e1,e2] at h;exact⟨p,q,xs,ys,rfl,e1,e2,h⟩
def AD{f:Nat->PV}(h:i<n):((Ve n).map f)[i]?=some (f i):=by
 rw[VD,WS h];rfl
section
variable{E:XK}{a b l l1 l2:Expr}{pos p tp:Pos}{fs:af->M (List PV)}{g:TG}{set:PV->af->M af}{body:af->M Out}{bd:List Stmt}
end
def KO(Q:VK):Hp->Hp->List PV->Prop:=λHs H ps=>∀vs p P9 H',bj Hs H P9 H'->aL P9 ps vs->H' p=none->Q (.ref p) (upd H' p (.lst vs))
def tO(E:St->XK)(f:af->M (List PV)):TE:=fun σ H Q=>tG E f (KO Q) σ H
variable{px:Pos}
section
variable{E:XK}{pos:Pos}{fs:af->M (List PV)}{f:af->M PV}
def nN(i:Nat)(f:af->M (List PV)):af->M Out:=λenv=>(f env).bind λps=>M.ok (.nx (env.set i (some (.ow ps))))
def GJ(hN:X.N.Nodup)(hi:X.N[i]?=some x)(hx:Loc X.env.scope x)(he:PE X e (tO (λ_=>E) fs))(hs:autoParam (swapsWith e (some (.Name x pos')) pos.line X.env=pure false) aR._auto_1)(hf:autoParam ↑1 aF._auto_1):PS X (.Assign [.Name x pos'] e pos) (tS E (nN i fs)):=by
 refine(xV hN hi hx he hs hf).imp λD σ H q=>?_;obtain⟨B,H₀,Hs,env,sr,q⟩:=q;refine⟨B,H₀,Hs,env,sr,(aw.bind q).imp (λps hp vs p P9 H' g r n=>?_) λe he=>he.grow sr.gr⟩;exact hp _ P9 _ ((sr.grow g).own r n)
def kE(fs:af->M (List PV)):af->M (List PV):=λenv=>(fs env).bind λps=>if ps.length<=sizeLine then M.ok ps else none
def Jz{E:St->XK}(hr:PA X es (tL E fs)):PE X (.List es pos) (tO E (kE fs)):=by
 refine(Dk hr).imp fun σ H Q q=>?_;obtain⟨B,H₀,Hs,env,sr,q⟩:=q;refine⟨B,H₀,Hs,env,sr,(aw.bind q).imp (λps hp vs P9 H' g r=>?_) λe he=>he⟩
 by_cases hz:ps.length<=sizeLine
 .rw[if_pos hz] at hp;exact⟨by rwa[<- r.length],λp n=>hp vs p P9 H' g r n⟩
 .rw[if_neg hz] at hp;exact hp.elim
def nR(i:Nat)(f:af->M PV):af->M Out:=λenv=>match env[i]? with
 | some (some (.ow xs))=>(f env).bind λp=>if xs.length<sizeLine then M.ok (.nx (env.set i (some (.ow (xs++[p]))))) else none
 |_=>none
def SR.put{B:Hp}{env:af}{a:Addr}{ys:List PV}{us:List V}(r:SR B H₀ Hs H σ env)(e:env[i]?=some (some (.ow xs)))(hi:σ[i]?=some (some (.ref a)))(h:aL Hs ys us):SR B H₀ Hs (upd H a (.lst us)) σ (env.set i (some (.ow ys))):=by
 obtain⟨a',vs,h1,h2,h3,h4,h5⟩:=r.ow i xs e;rw[hi] at h1;cases h1;exact r.Bn hi (r.gr.jK h3 h4) (λ_ _ q=>q) (λ_ q=>by cases q;exact⟨_,rfl,a,us,rfl,aH,h3,h4,h⟩) (λj y b u n ej o z q1 q2 _=>⟨by rwa[aB (λw=>by subst w;exact r.ap i j _ y b n e ej rfl o hi z)],q2⟩) λ_ _ _ k z n ek o=>r.ap i k _ z a n e ek rfl o hi
def AM(hi:X.N[i]?=some x)(hv:AK X.env.scope x)(he:PE X e (tE (λ_=>E) f))(hd:autoParam ↑7 aD._auto_1)(QI:autoParam ↑6 aD._auto_1)(Q5:autoParam (attributeBase (.Name x px) "append" X.env (eval (.Name x px) X.env)=eval (.Name x px) X.env) aR._auto_1)(SF:autoParam (((backTo Qj (starEach [e] X.env)).all (λx=>!x.1)&&(backToKw Qj (keywordEach [] X.env)).all (λx=>x.1.isSome) && decide (([e]:List Expr).length+([]:List Keyword).length+(if ([]:List Keyword).isEmpty then 0 else 1)<30))=true) aR._auto_1)(Q6:autoParam ((apos.endLine==Qj.line)=true) aR._auto_1)(QQ:autoParam (starEach [e] X.env=(false,eval e X.env)::starEach [] X.env) aR._auto_1)(RB:autoParam ((backTo Qj (starEach [] X.env)).any (·.1)=false) aR._auto_1)(hs:autoParam (swapsWith (.Call (.Attribute (.Name x px) "append" apos) [e] [] Qj) none pos.line X.env=pure false) aR._auto_1):PS X (.Expr (.Call (.Attribute (.Name x px) "append" apos) [e] [] Qj) pos) (tS E (nR i f)):=by
 refine(oG (HA Ze PySem.F.slot_list_append PySem.F.type_list_append rV (ji hi hv hd QI) (fY he kW QQ) Q5 SF Q6 QQ RB) hs).imp λD σ H q=>?_;obtain⟨B,H₀,Hs,env,sr,q⟩:=q;unfold nR at q
 split at q
 .rename_i xs ex;obtain⟨a,vs,h1,h2,h3,h4,h5⟩:=sr.ow i xs ex;refine⟨.ref a,h1,.inl ⟨rfl,vs,gR.of h2⟩,B,H₀,Hs,env,sr,(aw.bind q).imp (λp hp v P9 H' g r=>?_) λe he=>he.grow sr.gr⟩
  by_cases hz:xs.length<sizeLine
  .rw[if_pos hz] at hp;have RI:=sr.grow g;have r5:aL P9 (xs++[p]) (vs++[v]):=(h5.mono g.st).snoc r;exact⟨a,vs,v,rfl,rfl,g.al _ _ h2,by rwa[<- h5.length],hp σ P9 _ (RI.put ex h1 r5)⟩
  .rw[if_neg hz] at hp;exact hp.elim
 .exact q.elim
end
def Jd:Out->M PV
 | .rt p=>M.ok p
 | .nx _=>M.ok .c_
 |_=>none
def hU(m:Nat)(ps:List PV):af:=ps.map (λp=>some (.sh p))++U6 (m-ps.length) none
def aC(m:Nat)(g:af->M Out)(ps:List PV):M PV:=(g (hU m ps)).bind Jd
theorem SR.start{Hs H:Hp}{N:List Str}{ps:List PV}{vs:List V}(s:bb Hs H)(r:aL Hs ps vs):SR Hs H Hs H (start N vs) (hU N.length ps):=by
 have key:∀(i:Nat)(x:SV),(hU N.length ps)[i]?=some (some x)->∃p v,x=.sh p/\(L2.start N vs)[i]?=some (some v)/\Rep Hs p v:=λi x e=>by
  unfold hU at e;unfold L2.start
  by_cases hi:i<ps.length
  .rw[VZ (by simpa using hi),VD,U4 hi] at e;cases e;obtain⟨v,h1,h2⟩:=r.get (U4 hi);exact⟨_,v,rfl,by rw[VZ (by simpa using (r.length▸hi)),VD,h1];rfl,h2⟩
  .rw[VL (by simpa using hi),Zc] at e
   split at e<;>cases e
 exact⟨.refl s,by unfold L2.start hU;simp[r.length],λi x e=>by obtain⟨p,v,rfl,h⟩:=key i x e;exact⟨v,h⟩,λi j x y a _ e _ o=>by obtain⟨p,v,rfl,h⟩:=key i x e;cases o⟩
def Lh{K:U5}{dV kV doc pm Qf ct oc:Value}{an od:Option Addr}{g:af->M Out}(lk:K.lookup f=some ⟨oc,od,.func (WA name qual params body scope dV kV doc pm an Qf ct),Sm⟩)(QI:Xy K Qf qual=true)(S:cH N ps scope)(hb:∀(A:Around)(outer:List Env)(s:Shared)(H:Hp)(E:XK),cj k (A.deeper (envOfC qual scope s.heap.objs.size f Qf))->kr ((jO (bW P w) P w K mg base N qual scope f Qf A outer s H E).out λ_=>E) body (tS E g)):aW P w K mg base (bW P w) (k+1) f (WA name qual params body scope dV kV doc pm an Qf ct) ps (dR ps.length (aC N.length g)):=by
 refine xi lk QI S (λvs H Q E h=>h.1) λA outer s H vs Q E hr hs=>⟨_,hb A outer s H E hr,?_⟩
 obtain⟨_,Hs,RN,sm,r,h⟩:=hs;refine⟨Hs,H,Hs,_,SR.start sm r,(aw.bind h).imp (λo ho=>?_) λe he=>he⟩;cases o with
 | rt p=>exact λv P9 H' gr rv=>ho v P9 H' gr rv
 | nx env=>exact fun σ P9 H' sr=>ho .c_ P9 H' sr.gr .c_
 | bk env=>exact ho.elim
 |ct env=>exact ho.elim
section
variable{E:XK}{pos p:Pos}{fs:af->M (List PV)}
end
structure jn (J:It) (Qc:Hp) (xs:List PV):Prop where
 stop:∀(i:Nat)(Hs H:Hp),bb Qc Hs->bb Hs H->xs.length<=i->J.stop i H
 go:∀(i:Nat)(Hs H:Hp),bb Qc Hs->bb Hs H->i<xs.length->J.go i H
 vd:∀(i:Nat)(Hs H:Hp)(x:V)(H2:Hp),bb Qc Hs->bb Hs H->i<xs.length->J.vd i H x H2->∃p Qb,xs[i]?=some p/\bj Hs H Qb H2/\Rep Qb p x
def KI(R:It->Hp->Prop):Hp->Hp->List PV->Prop:=λHs H xs=>∀J P9 H',bj Hs H P9 H'->jn J P9 xs->R J H'
def xp(E:St->XK)(wi:TI)(it:af->M (List PV)):Prop:=∀(σ:St)(H:Hp)(R:It->Hp->Prop),tG E it (KI R) σ H->wi σ H R
theorem KI.g{R:It->Hp->Prop}:KG (KI R):=λHs H P9 H' b k g J Qb H2 g2 o=>k J Qb H2 (g.trans g2) o
section
variable{K:U5}{f:af->M PV}{fs:af->M (List PV)}
def wx{a:Addr}(hq:∀P9 H',bb Qc P9->bb P9 H'->kn K H' b a vs)(hr:aL Qc xs vs):jn (MZ K b a) Qc xs where
 stop:=λi Hs H s1 s2 hi=>by
  have q:=hq Hs H s1 s2;cases b with
  | true=>exact⟨vs,q,by rwa[<- hr.length]⟩
  | false=>exact⟨vs,q,by rwa[<- hr.length]⟩
 go:=λi Hs H s1 s2 hi=>by
  have q:=hq Hs H s1 s2;obtain⟨v,e,_⟩:=hr.get (U4 hi);cases b with
  | true=>exact⟨vs,v,q,e⟩
  | false=>exact⟨vs,v,q,e⟩
 vd:=λi Hs H x H2 s1 s2 hi y=>by
  have q:=hq Hs H s1 s2;obtain⟨v,e,r⟩:=hr.get (U4 hi);have z:H2=H/\vs[i]?=some x:=by
   cases b with
   | true=>exact⟨y.1,y.2 vs q⟩
   | false=>exact⟨y.1,y.2 vs q⟩
  obtain⟨rfl,z⟩:=z;rw[e] at z;cases z;exact⟨xs[i],Hs,U4 hi,.refl s2,r.mono s1⟩
def cy:xp E (M8 K (tE E f)) (itemsOf f):=by
 intro σ H R q;refine cn (K:=KI R) KI.g q λB H₀ Hs H1 env p v sr rp hp=>?_;cases e:bL p with
 | none=>rw[e] at hp;exact hp.elim
 | some xs =>
  rw[e] at hp;obtain⟨b,a,vs,rfl,hq,hr⟩:=jb (K:=K) sr.gr.sub rp e;exact⟨b,a,rfl,⟨vs,hq Hs H1 (λ_ _ z=>z) sr.gr.sub⟩,hp (MZ K b a) Hs H1 (.refl sr.gr.sub) (wx hq hr)⟩
def jE(o:List PV->M (List PV))(fs:af->M (List PV)):af->M (List PV):=λenv=>(fs env).bind o
def vz{lo:Int}:jn (MX lo n) Qc ((Ve n).map λ(i:Nat)=>PV.int (lo+(i:Int))) where
 stop:=λi Hs H s1 s2 hi=>show n<=i by simpa using hi
 go:=λi Hs H s1 s2 hi=>show i<n by simpa using hi
 vd:=λi Hs H x H2 s1 s2 hi y=>by
  obtain⟨rfl,rfl⟩:=y;exact⟨_,Hs,AD (by simpa using hi),.refl s2,.int _⟩
def aV(x:M α):x.bind M.ok=x:=by
 cases x with
 | none=>rfl
 |some x=>cases x<;>rfl
def dQ:xp E (HL (tL E fs)) (jE k8 fs):=by
 intro σ H R q;refine cN (K:=KI R) KI.g q λB H₀ Hs H1 env ps v sr rp hp=>?_;rw[<- aV (k8 ps)] at hp;obtain⟨n,rfl,h1,h2,hp⟩:=Ay hp;obtain⟨w,rfl,RO⟩:=rp.one;cases RO;exact⟨n,rfl,h1,h2,hp _ Hs H1 (.refl sr.gr.sub) vz⟩
def Dr:xp E (HS (tL E fs)) (jE A7 fs):=by
 intro σ H R q;refine cN (K:=KI R) KI.g q λB H₀ Hs H1 env ps v sr rp hp=>?_;rw[<- aV (A7 ps)] at hp;obtain⟨n,m,rfl,h1,hp⟩:=Aq hp;obtain⟨w,u,rfl,RO,ru⟩:=rp.two;cases RO;cases ru;exact⟨n,m,rfl,h1,hp _ Hs H1 (.refl sr.gr.sub) vz⟩
def Ds{ys:List PV}(h1:i<xs.length)(h2:i<ys.length):(abe (λa b=>PV.tup [a,b]) xs ys)[i]?=some (.tup [xs[i],ys[i]]):=by
 rw[List.getElem?_zipWith,U4 h1,U4 h2]
theorem C7{b1 b2:Bool}{a1 a2:Addr}{ys:List PV}{us:List V}(QS:∀P9 H',bb Qc P9->bb P9 H'->kn K H' b1 a1 vs)(SK:aL Qc xs vs)(QJ:∀P9 H',bb Qc P9->bb P9 H'->kn K H' b2 a2 us)(SM:aL Qc ys us):jn (N9 K b1 b2 a1 a2) Qc (abe (λa b=>PV.tup [a,b]) xs ys) where
 stop:=λi Hs H s1 s2 hi=>by
  rw[Z6,SK.length,SM.length] at hi;exact⟨vs,us,QS Hs H s1 s2,QJ Hs H s1 s2,by lia⟩
 go:=λi Hs H s1 s2 hi=>by
  rw[Z6] at hi;obtain⟨v,e,_⟩:=SK.get (U4 (show i<xs.length by lia));obtain⟨u,e',_⟩:=SM.get (U4 (show i<ys.length by lia));exact⟨vs,us,v,u,QS Hs H s1 s2,QJ Hs H s1 s2,e,e'⟩
 vd:=λi Hs H x H2 s1 s2 hi y=>by
  rw[Z6] at hi;have l1:i<xs.length:=by lia
  have l2:i<ys.length:=by lia
  obtain⟨v,e,r⟩:=SK.get (U4 l1);obtain⟨u,e',r'⟩:=SM.get (U4 l2);obtain⟨pa,v',u',hn,rfl,rfl,y1,y2⟩:=y;have z1:=y1 vs (QS Hs H s1 s2);have z2:=y2 us (QJ Hs H s1 s2);rw[e] at z1;cases z1;rw[e'] at z2;cases z2;have gr:=bj.new (o:=.tup [v,u]) s2 hn;exact⟨_,_,Ds l1 l2,gr,.tup aH (.cons ((r.mono s1).mono gr.st) (.cons ((r'.mono s1).mono gr.st) .nil))⟩
def i0:xp E (M5 K (tL E fs)) (jE zip2 fs):=by
 intro σ H R q;refine cN (K:=KI R) KI.g q λB H₀ Hs H1 env ps v sr rp hp=>?_;rw[<- aV (zip2 ps)] at hp;obtain⟨p,q,xs,ys,rfl,e1,e2,hp⟩:=AW hp;obtain⟨w,u,rfl,RO,ru⟩:=rp.two;obtain⟨b1,a1,vs,rfl,QS,SK⟩:=jb (K:=K) sr.gr.sub RO e1;obtain⟨b2,a2,us,rfl,QJ,SM⟩:=jb (K:=K) sr.gr.sub ru e2;exact⟨b1,b2,a1,a2,rfl,⟨vs,QS Hs H1 (λ_ _ z=>z) sr.gr.sub⟩,⟨us,QJ Hs H1 (λ_ _ z=>z) sr.gr.sub⟩,hp _ Hs H1 (.refl sr.gr.sub) (C7 QS SK QJ SM)⟩
end
theorem bX{E:XK}{pos:Pos}{g:TG}{set:PV->af->M af}{body:af->M Out}{bd:List Stmt}{wi:TI}{it:af->M (List PV)}(O:gD X λ_=>E)(hc:X.calm=true)(hi:PI X tg iter wi)(hv:xp (λ_=>E) wi it)(hg:PG X tg g)(Sn:Et E g set)(hb:kr X bd (tS E body))(hs:autoParam ↑5 aI._auto_1):PS X (.For tg iter bd [] pos) (tS E (iE it set body)):=by
 refine(Ih O.own hc hi hg hb hs).imp λD σ H q=>hv σ H _ ?_;obtain⟨B,H₀,Hs,env,sr,q⟩:=q;refine⟨B,H₀,Hs,env,sr,(aw.bind q).imp (λxs hp J P9 H' gr ok=>?_) λe he=>he.grow sr.gr⟩;have RI:=sr.grow gr;refine⟨λi m σ H=>m=xs.length-i/\i<=xs.length/\Jv E set body D B H₀ P9 xs i σ H,⟨xs.length,by simp,Vd _,P9,env,RI,λ_ _ z=>z,hp⟩,?_⟩;rintro i m σ' H2 ⟨rfl,hi,Qb,env2,QA,s2,h2⟩
 by_cases QP:i<xs.length
 .refine .inr ⟨ok.go i Qb H2 s2 QA.gr.sub QP,Jv E set body D B H₀ P9 xs (i+1),fun σ3 H3 j=>⟨xs.length-(i+1),by lia,rfl,QP,j⟩,λx H3 y=>?_⟩;obtain⟨p,RP,ep,g3,r3⟩:=ok.vd i Qb H2 x H3 s2 QA.gr.sub QP y;exact Jv.turn (Hx:=H2) (H1:=H2) Sn ep QA s2 h2 g3 r3
 .have e:i=xs.length:=by lia
  refine .inl ⟨ok.stop i Qb H2 s2 QA.gr.sub ⋯,?_⟩;exact Jv.done (E:=E) (set:=set) (body:=body) (xs:=xs) (B:=B) (H₀:=H₀) (Qc:=P9) (n:=i) ⟨Qb,env2,QA,s2,h2⟩ ⋯
abbrev EF:St->XK:=λ_ _ _ _=>False
def qV(env:af):Prop:=∀(i:Nat)(x:SV),env[i]?=some (some x)->∃p,x=.sh p
def qV.no{env:af}(n:qV env){x:SV}(e:env[i]?=some (some x))(o:g_ x=true):False:=by obtain⟨p,rfl⟩:=n i _ e;cases o
def LK:M α->M α
 | some (.ok a)=>some (.ok a)
 |_=>none
theorem aw.LK{α:Type}{x:M α}{Q:α->Prop}{E:EX->Prop}(h:aw (L2.LK x) Q E):aw x Q (λ_=>False):=by
 cases x with
 | none=>exact h
 | some x=>cases x with
  | ok a=>exact h
  |error e=>exact h
def lj(n:Nat)(js:List Nat)(env:af):af:=U6 n none++js.map λj=>match env[j]? with
 | some (some (.sh p))=>some (.sh p)
 |_=>none
theorem sV{env:af}{x:SV}(h:(lj n js env)[i]?=some (some x)):∃j p,n<=i/\js[i-n]?=some j/\env[j]?=some (some (.sh p))/\x=.sh p:=by
 unfold lj at h
 by_cases hi:i<n
 .rw[VZ (by simpa using hi),Zc] at h
  split at h<;>cases h
 .rw[VL (by simpa using hi),VD,ZA] at h;cases hj:js[i-n]? with
  | none=>rw[hj] at h;cases h
  | some j =>
   rw[hj] at h;have h':(match env[j]? with|some (some (.sh p))=>some (SV.sh p)|_=>none)=some x:=Vk h
   split at h'
   .rename_i p e;cases h';exact⟨j,p,by lia,rfl,e,rfl⟩
   .cases h'
def kX{env:af}:qV (lj n js env):=λi xs e=>by
 obtain⟨_,p,_,_,_,z⟩:=sV e;exact⟨p,z⟩
variable{D:Addr}
def SR.block{B:Hp}{env:af}(r:SR B H₀ Hs H σ env)(hD:H D=none):SR Hs H Hs (upd H D (.lst [])) (fG ts js σ) (lj ts.length js env) where
 gr:=(bj.refl r.gr.sub).jK (r.free hD).1 hD
 len:=by unfold fG lj;simp
 at_:=λi x e=>by
  obtain⟨j,q,hn,hj,he,rfl⟩:=sV e;obtain⟨v,h1,h2⟩:=r.sh j q he;refine⟨v,?_,h2⟩;unfold fG;rw[VL (by simpa using hn),VD,U8,hj];show some (σ[j]?).join=_;rw[h1];rfl
 ap:=λi j x y a _ e _ o=>(kX.no e o).elim
def SR.Ie{B:Hp}{env:af}{o:HO}(r:SR B H₀ Hs H σ env)(n:qV env)(h1:Hs D=none)(h2:H₀ D=none):SR B H₀ Hs (upd H D o) σ env :=
 r.mv (r.gr.jK h1 h2) r.len (λ_ _ q=>q) λ_ _ e=>⟨e,rfl,λ_ _ o=>(n.no e o).elim⟩
def bD(set:PV->af->M af)(t:Option (af->M Bool))(f:af->M PV):List PV->af->M (List PV)
 | [],_=>M.ok []
 | x::xs,env=>(set x env).bind λe=>match t with
  | none=>(f e).bind λy=>(bD set t f xs e).bind λys=>M.ok (y::ys)
  |some t'=>(t' e).bind λb=>if b=true then (f e).bind λy=>(bD set t f xs e).bind λys=>M.ok (y::ys) else bD set t f xs e
def bN(it:af->M (List PV))(set:PV->af->M af)(t:Option (af->M Bool))(f:af->M PV)(n:Nat)(js:List Nat):af->M (List PV):=λenv=>(it env).bind λxs=>cX (xs.length<=sizeLine) (LK (bD set t f xs (lj n js env)))
def l5(set:PV->af->M af):Prop:=∀p env e,set p env=some (.ok e)->qV env->qV e
def jZ{env:af}(n:qV env):qV (env.set i (some (.sh p))):=λj xs e=>by
 rw[Yd] at e
 by_cases z:i=j
 .rw[if_pos z] at e
  split at e
  .cases e;exact⟨p,rfl⟩
  .cases e
 .rw[if_neg z] at e;exact n j xs e
def bq:l5 (bB i):=λp env e h n=>by
 cases h;exact jZ n
def cB:l5 (cL i j):=λp env e h n=>by
 unfold cL at h
 split at h
 .cases h;exact jZ (jZ n)
 .cases h
section
variable{set:PV->af->M af}{t:Option (af->M Bool)}{f:af->M PV}{Q:VK}{H1:Hp}
def Jc(set:PV->af->M af)(t:Option (af->M Bool))(f:af->M PV)(Q:VK)(Qc H1:Hp)(D:Addr)(xs:List PV)(i:Nat)(σ:St)(H:Hp):Prop:=∃Hs env ys vs,SR Qc H1 Hs H σ env/\qV env/\H D=some (.lst vs)/\Hs D=none/\aL Hs ys vs/\ys.length<=i ∧
 aw (bD set t f (xs.drop i) env) (λzs=>KO Q Qc H1 (ys++zs)) (λ_=>False)
def rem(H:Hp)(D:Addr):Hp:=λa=>if a=D then none else H a
def BU:rem H D D=none:=by unfold rem;rw[if_pos rfl]
def iz{a:Addr}(n:a≠D):rem H D a=H a:=by unfold rem;rw[if_neg n]
def G1{o:HO}(h:H D=some o):upd (rem H D) D o=H:=by
 funext a
 by_cases z:a=D
 .subst z;rw[aH,h]
 .rw[aB z,iz z]
def Jc.done(hD:H1 D=none)(j:Jc set t f Q Qc H1 D xs i σ H)(hi:xs.length<=i):Q (.ref D) H:=by
 obtain⟨Hs,env,ys,vs,sr,n,h1,h2,r,_,h⟩:=j;rw[Yv hi] at h;have h':KO Q Qc H1 (ys++[]):=h;rw[Ww] at h';have gr:bj Qc H1 Hs (rem H D):=by
  refine⟨sr.gr.st,λc u q=>?_,λc u q=>?_,sr.gr.nw⟩
  .rw[iz (λz=>by rw[z,hD] at q;cases q)];exact sr.gr.al c u q
  .rw[iz (λz=>by rw[z,h2] at q;cases q)];exact sr.gr.sub c u q
 have:=h' vs D Hs (rem H D) gr r BU;rwa[G1 h1] at this
theorem Jc.put{env:af}{ys:List PV}{y:PV}(hD:H1 D=none)(sr:SR Qc H1 Hs H σ env)(n:qV env)(h1:H D=some (.lst vs))(h2:Hs D=none)(r:aL Hs ys vs)(hy:ys.length<=i)(hi:i<sizeLine)(rv:Rep Hs y v)(h:aw ((bD set t f (xs.drop (i+1)) env).bind λzs=>M.ok (y::zs)) (λzs=>KO Q Qc H1 (ys++zs)) (λ_=>False)):∃us,H D=some (.lst us)/\us.length<sizeLine/\Jc set t f Q Qc H1 D xs (i+1) σ (upd H D (.lst (us++[v]))):=by
 refine⟨vs,h1,by rw[<- r.length];lia,Hs,env,ys++[y],vs++[v],sr.Ie n h2 hD,n,aH,h2,r.snoc rv,by rw[Vw];show ys.length+1<=i+1;lia,(aw.bind h).imp (λzs hz=>?_) λ_ z=>z⟩;have S7:KO Q Qc H1 (ys++(y::zs)):=hz;rwa[WB]
end
section
variable{cl:List (Str×Addr)}{pos:Pos}{wi:TI}{it:af->M (List PV)}{g:TG}{set:PV->af->M af}{f:af->M PV}{u:af->M Bool}{fs:List Str}
def yF{s₀:Shared}{ex:List Addr}:gD (me X scope cl N C s₀ H₀ ex PZ) EF where
 pass:=λ_ _ _ _ _ _ _ h=>by
  obtain⟨_,_,_,_,_,_,_,_,_,_,_,_,_,z⟩:=h;exact z.elim
 new:=λ_ _ _ _ _ _ _ _ _ z=>z.elim
 own:=PassesOwn.never
theorem vZ{Q:VK}(hv:xp E wi it)(Sn:∀E,Et E g set)(so:l5 set)(q:tO E (bN it set none f ts.length js) σ H Q):xk wi g (tE EF f) ts js σ H Q:=by
 refine hv σ H _ ?_;obtain⟨B,H₀,Hs,env,sr,q⟩:=q;refine⟨B,H₀,Hs,env,sr,(aw.bind q).imp (λxs hp J Qc H1 gr ok D hD=>?_) λe he=>he⟩;obtain⟨hz,hp⟩:=aw.cX hp;have hp:=aw.LK hp;have S2:=sr.grow gr;refine⟨λi m σ H=>m=xs.length-i/\i<=xs.length/\Jc set none f Q Qc H1 D xs i σ H,⟨xs.length,by simp,Vd _,Qc,_,[],[],S2.block hD,kX,aH,?_,.nil,U9 _,hp.imp (λzs hz vs p Qb H2 g2 r n=>hz vs p Qb H2 (gr.trans g2) r n) λ_ z=>z⟩,?_⟩
 .cases z:Qc D with
  | none=>rfl
  | some o=>have:=gr.sub _ _ z;rw[hD] at this;cases this
 rintro i m σ' H2 ⟨rfl,hi,Qb,env2,ys,vs,QA,n2,d1,d2,r2,l2,h2⟩
 by_cases QP:i<xs.length
 .refine .inr ⟨ok.go i Qb H2 QA.gr.st QA.gr.sub QP,Jc set none f Q Qc H1 D xs (i+1),fun σ3 H3 j=>⟨xs.length-(i+1),by lia,rfl,QP,j⟩,λx H3 y=>?_⟩;obtain⟨p,RP,ep,g3,r3⟩:=ok.vd i Qb H2 x H3 QA.gr.st QA.gr.sub QP y;have hd:xs.drop i=p::xs.drop (i+1):=by
   rw[Xh QP];rw[U4 QP] at ep;rw[Vk ep]
  rw[hd] at h2;have h3:=aw.bind h2;have R7:=QA.grow g3;refine Sn (λ_ _ _=>False) Qc H1 RP H3 σ' env2 p x _ (λ_=>False) R7 r3 ?_;cases hset:set p env2 with
  | none=>rwa[hset] at h3
  | some z=>cases z with
   | error e=>rwa[hset] at h3
   | ok e3 =>
    rw[hset] at h3;intro σ4 sr4;have n4:=so p env2 e3 hset n2;refine⟨Qc,H1,RP,e3,sr4,(aw.bind h3).imp (λy hy v Uj H5 g5 r5=>?_) λ_ z=>z.elim⟩;exact Jc.put (set:=set) (t:=none) (f:=f) hD (sr4.grow g5) n4 (g5.al _ _ (g3.al _ _ d1)) (g5.nw _ _ (g3.nw _ _ d2 d1 (λ_=>nofun)) (g3.al _ _ d1) (λ_=>nofun)) ((r2.mono g3.st).mono g5.st) l2 ⋯ r5 hy
 .refine .inl ⟨ok.stop i Qb H2 QA.gr.st QA.gr.sub ⋯,?_⟩;exact Jc.done (set:=set) (t:=none) (f:=f) (xs:=xs) (Qc:=Qc) (H1:=H1) (i:=i) hD ⟨Qb,env2,ys,vs,QA,n2,d1,d2,r2,l2,h2⟩ ⋯
theorem vL{Q:VK}(hv:xp E wi it)(Sn:∀E,Et E g set)(so:l5 set)(q:tO E (bN it set (some u) f ts.length js) σ H Q):yj wi g (tT EF u) (tE EF f) ts js σ H Q:=by
 refine hv σ H _ ?_;obtain⟨B,H₀,Hs,env,sr,q⟩:=q;refine⟨B,H₀,Hs,env,sr,(aw.bind q).imp (λxs hp J Qc H1 gr ok D hD=>?_) λe he=>he⟩;obtain⟨hz,hp⟩:=aw.cX hp;have hp:=aw.LK hp;have S2:=sr.grow gr;refine⟨λi m σ H=>m=xs.length-i/\i<=xs.length/\Jc set (some u) f Q Qc H1 D xs i σ H,⟨xs.length,by simp,Vd _,Qc,_,[],[],S2.block hD,kX,aH,?_,.nil,U9 _,hp.imp (λzs hz vs p Qb H2 g2 r n=>hz vs p Qb H2 (gr.trans g2) r n) λ_ z=>z⟩,?_⟩
 .cases z:Qc D with
  | none=>rfl
  | some o=>have:=gr.sub _ _ z;rw[hD] at this;cases this
 rintro i m σ' H2 ⟨rfl,hi,Qb,env2,ys,vs,QA,n2,d1,d2,r2,l2,h2⟩
 by_cases QP:i<xs.length
 .refine .inr ⟨ok.go i Qb H2 QA.gr.st QA.gr.sub QP,Jc set (some u) f Q Qc H1 D xs (i+1),fun σ3 H3 j=>⟨xs.length-(i+1),by lia,rfl,QP,j⟩,λx H3 y=>?_⟩;obtain⟨p,RP,ep,g3,r3⟩:=ok.vd i Qb H2 x H3 QA.gr.st QA.gr.sub QP y;have hd:xs.drop i=p::xs.drop (i+1):=by
   rw[Xh QP];rw[U4 QP] at ep;rw[Vk ep]
  rw[hd] at h2;have h3:=aw.bind h2;have R7:=QA.grow g3;refine Sn (λ_ _ _=>False) Qc H1 RP H3 σ' env2 p x _ (λ_=>False) R7 r3 ?_;cases hset:set p env2 with
  | none=>rwa[hset] at h3
  | some z=>cases z with
   | error e=>rwa[hset] at h3
   | ok e3 =>
    rw[hset] at h3;intro σ4 sr4;have n4:=so p env2 e3 hset n2;refine⟨Qc,H1,RP,e3,sr4,(aw.bind h3).imp (λb hb Uj H5 g5=>?_) λ_ z=>z.elim⟩;have d5:=g5.al _ _ (g3.al _ _ d1);have e5:=g5.nw _ _ (g3.nw _ _ d2 d1 (λ_=>nofun)) (g3.al _ _ d1) (λ_=>nofun);cases b with
    | true =>
     refine⟨Qc,H1,Uj,e3,sr4.grow g5,(aw.bind hb).imp (λy hy v Hs6 H6 g6 r6=>?_) λ_ z=>z.elim⟩;exact Jc.put (set:=set) (t:=some u) (f:=f) hD ((sr4.grow g5).grow g6) n4 (g6.al _ _ d5) (g6.nw _ _ e5 d5 (λ_=>nofun)) (((r2.mono g3.st).mono g5.st).mono g6.st) l2 ⋯ r6 hy
    | false=>exact⟨Uj,e3,ys,vs,sr4.grow g5,n4,d5,e5,(r2.mono g3.st).mono g5.st,by lia,hb⟩
 .refine .inl ⟨ok.stop i Qb H2 QA.gr.st QA.gr.sub ⋯,?_⟩;exact Jc.done (set:=set) (t:=some u) (f:=f) (xs:=xs) (Qc:=Qc) (H1:=H1) (i:=i) hD ⟨Qb,env2,ys,vs,QA,n2,d1,d2,r2,l2,h2⟩ ⋯
def bp(Qg:X.calm=true)(Qk:closureFor scope X.env=pure cl)(hk:scope.kind=.function)(nc:e8 scope.names=true)(lo:fO scope.names=true)(fh:fX cl scope.names=true)(ag:dJ X cl)(fr:gW X scope cl fs js)(hi:PI X tg iter wi)(hv:xp E wi it)(hg:∀C s₀ H₀ ex PZ,PG (me X scope cl (ts++fs) C s₀ H₀ ex PZ) tg g)(Sn:∀E,Et E g set)(so:l5 set)(he:∀C s₀ H₀ ex PZ,PE (me X scope cl (ts++fs) C s₀ H₀ ex PZ) elt (tE EF f))(hs:autoParam ↑5 aI._auto_1):PE X (.ListComp elt [⟨tg,iter,[],0⟩] scope pos) (tO E (bN it set none f ts.length js)):=by
 exact(C6 Qg Qk hk nc lo fh ag fr hi hg he hs).imp fun σ H Q q=>vZ hv Sn so q
def Cd(Qg:X.calm=true)(Qk:closureFor scope X.env=pure cl)(hk:scope.kind=.function)(nc:e8 scope.names=true)(lo:fO scope.names=true)(fh:fX cl scope.names=true)(ag:dJ X cl)(fr:gW X scope cl fs js)(hi:PI X tg iter wi)(hv:xp E wi it)(hg:∀C s₀ H₀ ex PZ,PG (me X scope cl (ts++fs) C s₀ H₀ ex PZ) tg g)(Sn:∀E,Et E g set)(so:l5 set)(ht:∀C s₀ H₀ ex PZ,PT (me X scope cl (ts++fs) C s₀ H₀ ex PZ) c (tT EF u))(he:∀C s₀ H₀ ex PZ,PE (me X scope cl (ts++fs) C s₀ H₀ ex PZ) elt (tE EF f))(hs:autoParam ↑5 aI._auto_1):PE X (.ListComp elt [⟨tg,iter,[c],0⟩] scope pos) (tO E (bN it set (some u) f ts.length js)):=by
 exact(Dm Qg Qk hk nc lo fh ag fr hi hg ht he hs).imp fun σ H Q q=>vL hv Sn so q
def bQ(fo:af->M (List PV)):af->M PV:=λenv=>(fo env).bind λps=>M.ok (.lst ps)
def bY{fo:af->M (List PV)}(he:PE X e (tO E fo)):PE X e (tE E (bQ fo)):=he.imp fun σ H Q q=>by
 obtain⟨B,H₀,Hs,env,sr,q⟩:=q;refine⟨B,H₀,Hs,env,sr,(aw.bind q).imp (λps hp vs p P9 H' g r n=>?_) λe he=>he⟩;have gn:=bj.new (o:=.lst vs) g.sub n;exact hp _ _ _ (g.trans gn) (.lst aH (r.mono gn.st))
end
def u7(f:Str)(v:PV):List (Str×PV)->List (Str×PV)
 | []=>[(f,v)]
 |(g,x)::r=>if g=f then (g,v)::r else (g,x)::u7 f v r
theorem gO.put{H:Hp}{f:Str}{p:PV}{v:V}(h:Rep H p v):∀{fs:List (Str×PV)}{vs:List (Str×V)},gO H fs vs->gO H (u7 f p fs) (jF f v vs)
 | _,_,.nil=>.cons h .nil
 | (g,x)::r,_,.cons hx hr=>by
  unfold u7 jF
  by_cases z:g=f
  .rw[if_pos z,if_pos z];exact .cons h hr
  .rw[if_neg z,if_neg z];exact .cons hx (hr.put h)
theorem gO.length{H:Hp}:∀{fs:List (Str×PV)}{vs:List (Str×V)},gO H fs vs->fs.length=vs.length
 | _,_,.nil=>rfl
 |_,_,.cons _ r=>by simp[r.length]
def SR.Ob{B:Hp}{env:af}{a dx:Addr}{fs gs:List (Str×PV)}{us:List (Str×V)}(r:SR B H₀ Hs H σ env)(e:env[i]?=some (some (.bd a C fs)))(h:gO Hs gs us):SR B H₀ Hs (upd H a (.ins C dx us)) σ (env.set i (some (.bd a C gs))):=by
 obtain⟨dx0,vs,h1,h2,h3,h4,h5⟩:=r.bd i a C fs e;exact r.Bn h1 (r.gr.jK h3 h4) (λ_ _ q=>q) (λ_ q=>by cases q;exact⟨_,rfl,dx,us,rfl,aH,h3,h4,h⟩) (λj y b u n ej o z q1 q2 _=>⟨by rwa[aB (λw=>by subst w;exact r.ap i j _ y b n e ej rfl o h1 z)],q2⟩) λ_ _ _ k z n ek o=>r.ap i k _ z a n e ek rfl o h1
def Eh(i:Nat)(C:Addr)(f:Str)(p:PV)(env:af):M Out:=match env[i]? with
 | some (some (.bd a C' fs))=>cX (C'=C/\fs.length<1000) (M.ok (.nx (env.set i (some (.bd a C (u7 f p fs))))))
 |_=>none
def k4(i:Nat)(C:Addr)(fl:Str)(f:af->M PV):af->M Out:=λenv=>(f env).bind λp=>Eh i C fl p env
section
variable{E:XK}{pos:Pos}{f:af->M PV}{fl:Str}
def kQ(hi:X.N[i]?=some x)(hv:AK X.env.scope x)(c:mf X.K C)(na:cp X.K C fl)(he:PE X e (tE (λ_=>E) f))(hd:autoParam ↑7 aD._auto_1)(QI:autoParam ↑6 aD._auto_1)(hs:autoParam (swapsWith e (some (.Attribute (.Name x px) fl pos')) pos.line X.env=pure false) aR._auto_1):PS X (.Assign [.Attribute (.Name x px) fl pos'] e pos) (tS E (k4 i C fl f)):=by
 refine(J1 (ji hi hv hd QI) he hs).imp λD σ H q=>iU q λB H₀ Hs H1 env p v sr rp hp=>?_;unfold Eh at hp
 split at hp
 .rename_i a C' fs ex;obtain⟨⟨rfl,hz⟩,hp⟩:=aw.cX hp;obtain⟨dx,vs,h1,h2,h3,h4,h5⟩:=sr.bd i a _ fs ex;exact⟨.ref a,h1,a,_,dx,vs,rfl,h2,c,na,by rwa[<- h5.length],hp σ Hs _ (sr.Ob ex (h5.put rp))⟩
 .exact hp.elim
end
def z9(m:Nat)(a C:Addr)(ps:List PV):af:=some (.bd a C [])::hU (m-1) ps
def BA(a C:Addr)(env:af):M (List (Str×PV)):=match (env[0]?:Option (Option SV)) with
 | some (some (.bd b D fs))=>cX (b=a/\D=C) (M.ok fs)
 |_=>none
def outI(a C:Addr):Out->M (List (Str×PV))
 | .nx env=>BA a C env
 |_=>none
def zz(m:Nat)(g:af->M Out)(C a:Addr)(ps:List PV):M (List (Str×PV)):=(g (z9 m a C ps)).bind (outI a C)
def IK(s:Addr->M α):M α:=open Classical in if h:∃r,∀a,s a=r then h.choose else none
def xW{s:Addr->M α}{r:M α}(h:∀a,s a=r):IK s=r:=by
 have hx:∃r,∀a,s a=r:=⟨r,h⟩
 unfold IK;rw[dif_pos hx,<- hx.choose_spec 0,h 0]
theorem aw.IK{α:Type}{s:Addr->M α}{Q:α->Prop}{E:EX->Prop}(h:aw (L2.IK s) Q E)(a:Addr):aw (s a) Q E:=by
 unfold L2.IK at h
 split at h
 .rename_i hx;rwa[hx.choose_spec a]
 .exact h.elim
def HB(n:Nat)(C:Addr)(sem:Addr->List PV->M (List (Str×PV))):Sp:=λvs H Q E=>vs.length=n/\∃a dx us Hs H1 ps,vs=.ref a::us/\H1 a=none/\H1 dx=none/\dx≠a/\H=upd (upd H1 dx (.own a)) a (.ins C dx [])/\bb Hs H1/\aL Hs ps us ∧
 aw (sem a ps) (λfs=>∀Ub ws P9 H',bj Hs H1 P9 H'->H' a=some (.ins C Ub ws)->P9 a=none->gO P9 fs ws->Q .c_ H') (XW E Hs H1)
def SR.Ip{a dx:Addr}{ps:List PV}(s:bb Hs H₀)(hN:0<N.length)(ha:H₀ a=none)(r:aL Hs ps vs)(hH:H=upd H₀ a (.ins C dx [])):SR Hs H₀ Hs H (L2.start N (.ref a::vs)) (z9 N.length a C ps):=by
 have hs:Hs a=none:=by
  cases q:Hs a with
  | none=>rfl
  | some o=>have:=s _ _ q;rw[ha] at this;cases this
 have ne:∀c u,H₀ c=some u->c≠a:=λc u e z=>by rw[z,ha] at e;cases e
 have s0:=SR.start (N:=N.tail) s r;have e1:L2.start N (.ref a::vs)=some (.ref a)::L2.start N.tail vs:=by
  unfold L2.start;simp only[Vu,YQ,VF,acV];rw[Nat.sub_sub,abc]
 have e2:z9 N.length a C ps=some (.bd a C [])::hU N.tail.length ps:=by unfold z9;rw[acV]
 have al:bb H₀ H:=λc u q=>by rwa[hH,aB (ne c u q)]
 rw[e1,e2];have no:∀(j:Nat)(x:SV),(hU N.tail.length ps)[j]?=some (some x)->g_ x=true->False:=λj x e o=>by
  obtain⟨v,h1,h2⟩:=s0.at_ j x e;obtain⟨b,u,_,q1,_,q2,_⟩:=h2.jK o;rw[q2] at q1;cases q1
 refine⟨⟨λ_ _ e=>e,al,λc u q=>al c u (s c u q),λc u q _ _=>q⟩,by simp[s0.len],λj x ej=>?_,λj k x y b nj e1 e2 o1 o2=>?_⟩
 .cases j with
  | zero=>cases ej;exact⟨_,rfl,dx,[],rfl,by rw[hH];exact aH,hs,ha,.nil⟩
  | succ j =>
   have ej:(hU N.tail.length ps)[j]?=some (some x):=by simpa using ej
   obtain⟨v,h1,h2⟩:=s0.at_ j x ej;exact⟨v,by simpa using h1,h2.mono (λ_ _ q=>q) λ_ _ o=>(no j x ej o).elim⟩
 .cases j with
  | zero=>cases k with
   | zero=>exact absurd rfl nj
   | succ k=>exact(no k y (by simpa using e2) o2).elim
  |succ j=>exact(no j x (by simpa using e1) o1).elim
def GU{K:U5}{dV kV doc pm Qf ct oc:Value}{an od:Option Addr}{g:af->M Out}(lk:K.lookup f=some ⟨oc,od,.func (WA name qual params body scope dV kV doc pm an Qf ct),Sm⟩)(QI:Xy K Qf qual=true)(S:cH N ps scope)(hN:0<N.length)(hb:∀(A:Around)(outer:List Env)(s:Shared)(H:Hp)(E:XK),cj k (A.deeper (envOfC qual scope s.heap.objs.size f Qf))->kr ((jO (bW P w) P w K mg base N qual scope f Qf A outer s H E).out λ_=>E) body (tS E g)):aW P w K mg base (bW P w) (k+1) f (WA name qual params body scope dV kV doc pm an Qf ct) ps (HB ps.length C (zz N.length g C)):=by
 refine xi lk QI S (λvs H Q E h=>h.1) λA outer s H vs Q E hr hs=>⟨_,hb A outer s H E hr,?_⟩
 obtain⟨_,a,dx,us,Hs,H1,RN,rfl,ha,hdx,Se,hH,sm,r,h⟩:=hs;have ne:∀c u,H1 c=some u->c≠dx:=λc u e z=>by rw[z,hdx] at e;cases e
 have s0:bb H1 (upd H1 dx (.own a)):=λc u q=>by rwa[aB (ne c u q)]
 have g0:bj Hs H1 Hs (upd H1 dx (.own a)):=⟨λ_ _ e=>e,s0,λc u q=>s0 c u (sm c u q),λ_ _ e _ _=>e⟩
 refine⟨Hs,_,Hs,_,SR.Ip (dx:=dx) g0.sub hN (by rwa[aB (WW Se)]) r hH,(aw.bind h).imp (λo ho=>?_) λe he=>he.grow g0⟩;cases o with
 | rt p=>exact ho.elim
 | bk env=>exact ho.elim
 | ct env=>exact ho.elim
 | nx env =>
  intro σ P9 H' sr;have R1:aw (BA a C env) _ _:=ho;unfold BA at R1
  split at R1
  .rename_i b D fs ex;obtain⟨⟨rfl,rfl⟩,hp⟩:=aw.cX R1;obtain⟨Ub,ws,h1,h2,h3,h4,h5⟩:=sr.bd 0 _ _ fs ex;exact hp Ub ws P9 H' (g0.trans sr.gr) h2 h3 h5
  .exact R1.elim
def ff(C:Addr)(sem:Addr->List PV->M (List (Str×PV)))(RL:List PV)(ps:List PV):M PV:=(IK λa=>sem a (ps++RL)).bind λfs=>M.ok (.obj C fs)
section
variable{ns:List Str}{sem:Addr->List PV->M (List (Str×PV))}{p pos:Pos}{fs:af->M (List PV)}
def Gy(Mk:Mk X.K C f)(F:aW X.prog X.w X.K X.mg X.base (bW X.prog X.w) k f fd ns (HB n C sem))(hr:cj (k+1) X.A)(hg:Gl X x)(hm:X.mg x=some (.ref C))(hb:Binds X.K fd ns ds)(hd:Vals QW ds)(hdp:∀H,aL H RL QW)(O:gD X E)(hl:∀a ps,sem a (ps++RL)≠none->ps.length+RL.length+1=n)(ha:PA X (e::es) (tL E fs))(RA:autoParam ↑7 aD._auto_1)(he:autoParam ↑0 aR._auto_1)(QF:autoParam ↑2 aR._auto_1):PE X (.Call (.Name x p) (e::es) [] pos) (tE E (ai (ff C sem RL) fs)):=by
 refine(Bm Mk F hr hg hm hb hd O ha RA he QF).imp fun σ H Q q=>cN (K:=ku Q) ku.g q λB H₀ Hs H1 env RN v sr rp hp=>?_;intro a dx ha hdx Se;have r2:aL Hs (RN++RL) (v++QW):=rp.append (hdp Hs);have Su:=(aw.bind hp).IK a;have hn:sem a (RN++RL)≠none:=λz=>by
  rwa[z] at Su
 refine⟨?_,a,dx,v++QW,Hs,H1,RN++RL,rfl,ha,hdx,Se,rfl,sr.gr.sub,r2,Su.imp (λfl hfl Ub ws P9 H' g hw To RO=>⟨rfl,?_⟩) λe he=>he⟩
 .show (v++QW).length+1=n;rw[<- r2.length,Vw];exact hl a RN hn
 .have ne:∀c u,P9 c=some u->c≠a:=λc u q z=>by rw[z,To] at q;cases q
  have QQ:bb P9 (upd P9 a (.ins C Ub ws)):=λc u q=>by rwa[aB (ne c u q)]
  refine hfl (.ref a) (upd P9 a (.ins C Ub ws)) H' ⟨λc u q=>QQ c u (g.st c u q),g.al,λc u q=>?_,λc u q1 q2 q3=>?_⟩ (.obj aH (RO.mono QQ))
  .by_cases z:c=a
   .subst z;rw[aH] at q;cases q;exact hw
   .rw[aB z] at q;exact g.sub c u q
  .have z:c≠a:=λz=>by rw[z,ha] at q2;cases q2
   rw[aB z];exact g.nw c u q1 q2 q3
end
section
variable{a b:Expr}{pos:Pos}{f g h:af->M PV}
def fI{E:XK}{st:Stmt}:PS X st (tS E λ_=>none):=λPZ s σ H Q I q=>by obtain⟨_,_,_,_,_,q⟩:=q;exact q.elim
def ny{m:Nat}(h:n.log2<m):n<2^m:=by
 by_cases z:n=0
 .subst z;exact X9 m
 .exact(ac4 z).mp h
theorem aL.rep{H:Hp}{xs:List PV}{vs:List V}(r:aL H xs vs):∀k:Nat,aL H (U6 k xs).flatten (U6 k vs).flatten
 | 0=>.nil
 |k+1=>by rw[Wz,Wz,Xd,Xd];exact r.append (r.rep k)
def b_:PV->PV->M PV
 | .int i,.int j=>cX (i.natAbs.log2<67108864/\j.natAbs.log2<67108864) (M.ok (.int (i*j)))
 | .tup xs,.int k=>cX (xs.isEmpty=false/\-(2^63)<=k/\k<2^63/\xs.length*k.toNat<=sizeLine) (M.ok (.tup (U6 k.toNat xs).flatten))
 | .lst xs,.int k=>cX (-(2^63)<=k/\k<2^63/\xs.length*k.toNat<=sizeLine) (M.ok (.lst (U6 k.toNat xs).flatten))
 |_,_=>none
def HK(K:U5):R2:=λx y H Q=>(rI (λi j=>IntMulOk i j) λi j=>.int (i*j)) x y H Q\/Hq K x y H Q\/Ng x y H Q
def Ft:hX X (binaryOp .Mult) (HK X.K):=hX.or F5 (hX.or GI CN)
def Kc{K:U5}:nQ E (HK K) b_:=by
 intro σ Hs H p q v u Q s rp rq h;cases rp with
 | int i=>cases rq with
  | int j =>
   obtain⟨hz,h⟩:=aw.cX h;exact .inl ⟨i,j,rfl,rfl,C_ (ny hz.1) (ny hz.2) (U9 _),eN.flat h s (.int _)⟩
  | _=>exact h.elim
 | @tup a xs vs ha hx=>cases rq with
  | int k =>
   obtain⟨⟨h0,h1,h2,h3⟩,h⟩:=aw.cX h;have n1:vs≠[]:=λz=>by
    have:=hx.length;rw[z] at this;cases xs with
    | nil=>cases h0
    | cons _ _=>cases this
   refine .inr (.inl ⟨a,k,vs,rfl,rfl,gm.of (s _ _ ha),n1,h1,h2,by rwa[<- hx.length],λz=>?_,λz=>eN.tup h s (hx.rep _)⟩);subst z;rw[show (1:Int).toNat=1 from rfl,Wz,List.replicate_zero,Xd,List.flatten_nil,Ww] at h;exact eN.flat h s (.tup ha hx)
  | _=>exact h.elim
 | @lst a xs vs ha hx=>cases rq with
  | int k =>
   obtain⟨⟨h1,h2,h3⟩,h⟩:=aw.cX h;exact .inr (.inr ⟨a,k,vs,rfl,rfl,s _ _ ha,h1,h2,by rwa[<- hx.length],eN.lst h s (hx.rep _)⟩)
  | _=>exact h.elim
 |_=>exact h.elim
def EZ:nQ E (rI CK λi j=>.int (i.fdiv j)) (DU (λ_ j=>decide (j≠0/\j.natAbs.log2<9000)) λi j=>i.fdiv j):=D8 λi j z=>(of_decide_eq_true z:j≠0/\j.natAbs.log2<9000)
def Kn:nQ E (rI (λ_ j=>j≠0) λi j=>.int (i.fmod j)) (DU (λ_ j=>decide (j≠0)) λi j=>i.fmod j):=D8 λi j z=>of_decide_eq_true z
def MC:PV->M PV
 | .int i=>M.ok (.int (-i))
 |_=>none
def lT(f:af->M PV):af->M PV:=λenv=>(f env).bind MC
def JF(ha:PE X a (tE E f)):PE X (.UnaryOp .USub a pos) (tE E (lT f)) :=
 (Nx Ik ha).imp fun σ H Q q=>Nv q λHs H1 p v s rp h=>by
  cases rp with
  | int i=>exact⟨i,rfl,eN.flat h s (.int _)⟩
  |_=>exact h.elim
def yZ:PV->Bool
 | .c_=>true
 |_=>false
def BQ(r:Rep H p v):decide (v=.c_)=yZ p:=by
 cases r<;>rfl
def xu:PV->PV->M PV
 | p,.c_=>M.ok (.bl (yZ p))
 |_,_=>none
def EK:nQ E (λx y H Q=>y=.c_/\Q (.bl (decide (x=.c_))) H) xu:=by
 intro σ Hs H p q v u Q s rp rq h;cases rq with
 | c_ =>
  have h':aw (M.ok (PV.bl (yZ p))) (eN Hs H Q) (XW (E σ) Hs H):=by cases p<;>exact h
  exact⟨rfl,by rw[BQ rp];exact eN.flat h' s (.bl _)⟩
 |_=>cases p<;>exact h.elim
def kT(o o':PV->PV->M PV)(f g h:af->M PV):af->M PV:=λenv=>(f env).bind λp=>(g env).bind λq=>(o p q).bind λz=>(xB z).bind λk=>if k=true then (h env).bind λr=>o' q r else M.ok (.bl false)
def C9{r r':R2}{o o':PV->PV->M PV}(hv:nQ E r o)(Tp:nQ E r' o'){Q:VK}(q:tE E (kT o o' f g h) σ H Q):BH r r' (tE E f) (tE E g) (tE E h) σ H Q:=by
 refine cn (K:=ku Q) ku.g q λB H₀ Hs H1 env p v sr rp hp=>?_;refine⟨B,H₀,Hs,env,sr,(aw.bind hp).imp (λq hq u Qb H2 g2 ru=>?_) λe he=>he⟩;have QA:=sr.grow g2;refine hv σ Qb H2 p q v u _ QA.gr.sub (rp.mono g2.st) ru ((aw.bind hq).imp (λz hz w RP H3 g3 RO=>?_) λe he=>he.grow g2);obtain⟨k,ek,hk⟩:=aw.NI (aw.bind hz);subst ek;cases RO;refine⟨k,rfl,?_⟩;have R7:=QA.grow g3;cases k with
 | false=>exact hk _ _ _ (g2.trans g3) (.bl _)
 | true =>
  have Rw:aw ((h env).bind λr=>o' q r) (ku Q Hs H1) (XW (E σ) Hs H1):=hk;refine⟨B,H₀,RP,env,R7,(aw.bind Rw).imp (λr hr w Hs4 H4 g4 rw4=>?_) λe he=>he.grow (g2.trans g3)⟩;exact Tp σ Hs4 H4 q r u w Q (R7.grow g4).gr.sub ((ru.mono g3.st).mono g4.st) rw4 (hr.imp (λz hz w' Uj H5 g5 r5=>hz w' Uj H5 ((g2.trans g3).trans (g4.trans g5)) r5) λe he=>he.grow ((g2.trans g3).trans g4))
def w_{T9:CmpOp}{r r':R2}{o o':PV->PV->M PV}(ho:hX X (compareOp op) r)(hv:nQ E r o)(R1:hX X (compareOp T9) r')(Tp:nQ E r' o')(ha:PE X a (tE E f))(hb:PE X b (tE E g))(hc:PE X c (tE E h))(hm:autoParam (lastMarks [op,T9] [b,c]=false) aU._auto_1):PE X (.Compare a [op,T9] [b,c] pos) (tE E (kT o o' f g h)) :=
 (Cw ho R1 ha hb hc hm).imp fun σ H Q q=>C9 hv Tp q
def cJ(u:af->M Bool)(b:af->M Out):Nat->af->M Out
 | 0,_=>none
 | n+1,env=>(u env).bind λt=>if t=true then (b env).bind λo=>match o with
   | .nx P6=>cJ u b n P6
   | .ct P6=>cJ u b n P6
   | .bk P6=>M.ok (.nx P6)
   | .rt p=>M.ok (.rt p)
  else M.ok (.nx env)
def zy{E:XK}{u:af->M Bool}{g:af->M Out}(n:af->Nat)(O:gD X λ_=>E)(hc:PT X c (tT (λ_=>E) u))(hb:kr X body (tS E g)):PS X (.While c body [] pos) (tS E λenv=>cJ u g (n env) env):=by
 refine(Bx O.own hc hb).imp λD σ H q=>?_;obtain⟨B,H₀,Hs,env,sr,q⟩:=q;refine⟨λm σ H=>∃Hs env,SR B H₀ Hs H σ env/\aw (cJ u g m env) (KS D B H₀) (XW E B H₀),⟨n env,Hs,env,sr,q⟩,?_⟩;rintro m σ1 H1 ⟨Qc,env1,S2,q1⟩;cases m with
 | zero=>exact q1.elim
 | succ m =>
  refine⟨B,H₀,Qc,env1,S2,(aw.bind q1).imp (λt ht Qb H2 g2=>?_) λe he=>he.grow S2.gr⟩;have QA:=S2.grow g2;cases t with
  | false=>exact ht σ1 Qb H2 QA
  | true =>
   refine⟨fun σ' H'=>∃P9 P6,SR B H₀ P9 H' σ' P6/\aw (cJ u g m P6) (KS D B H₀) (XW E B H₀),fun σ' H' z=>⟨m,Xj m,z⟩,B,H₀,Qb,env1,QA,(aw.bind ht).imp (λo ho=>?_) λe he=>he⟩;cases o with
   | nx P6=>exact fun σ' P9 H' RI=>⟨P9,P6,RI,ho⟩
   | ct P6=>exact fun σ' P9 H' RI=>⟨P9,P6,RI,ho⟩
   | bk P6=>exact ho
   |rt p=>exact ho
theorem jh{u:af->M Bool}{g:af->M Out}:∀(n k:Nat)(env:af),cJ u g n env≠none->cJ u g (n+k) env=cJ u g n env
 | 0,_,_,h=>(h rfl).elim
 | n+1,k,env,h=>by
  rw[show n+1+k=(n+k)+1 by lia];unfold cJ at h ⊢;cases hu:u env with
  | none=>rfl
  | some z =>
   cases z with
   | error e=>rfl
   | ok t =>
    rw[hu] at h;cases t with
    | false=>rfl
    | true =>
     show M.bind (g env) _=M.bind (g env) _;have h':M.bind (g env) (λo=>match o with
      | .nx P6=>cJ u g n P6
      | .ct P6=>cJ u g n P6
      | .bk P6=>M.ok (.nx P6)
      | .rt p=>M.ok (.rt p))≠none:=h
     cases hg:g env with
     | none=>rfl
     | some z =>
      cases z with
      | error e=>rfl
      | ok o =>
       rw[hg] at h';cases o with
       | nx P6=>exact jh n k P6 h'
       | ct P6=>exact jh n k P6 h'
       | bk P6=>rfl
       |rt p=>rfl
def i7(u:af->M Bool)(b:af->M Out)(env:af):M Out:=open Classical in cJ u b (if h:∃n,cJ u b n env≠none then h.choose else 0) env
def Ba{u:af->M Bool}{b:af->M Out}{env:af}(h:cJ u b n env≠none):i7 u b env=cJ u b n env:=by
 have hx:∃n,cJ u b n env≠none:=⟨n,h⟩
 unfold i7;rw[dif_pos hx];have h1:=hx.choose_spec;rw[<- jh _ n env h1,<- jh n hx.choose env h,abc]
def qo{E:XK}{u:af->M Bool}{g:af->M Out}(O:gD X λ_=>E)(hc:PT X c (tT (λ_=>E) u))(hb:kr X body (tS E g)):PS X (.While c body [] pos) (tS E (i7 u g)) :=
 zy (λenv=>open Classical in if h:∃n,cJ u g n env≠none then h.choose else 0) O hc hb
end
def LV:PV->Option String
 | .c_=>some "NoneType"
 | .bl _=>some "bool"
 | .int _=>some "int"
 | .str _=>some "str"
 | .lst _=>some "list"
 | .jX _=>some "list"
 | .tup _=>some "tuple"
 | .emp=>some "dict"
 |_=>none
def oR(a t:String):Bool:=a==t||(a == "bool" && t == "int")
def nW(K:U5):Xx K (.type "NoneType") (.type "int")=some false:=by with_unfolding_all kernel_rfl
def vj(K:U5):Xx K (.type "bool") (.type "int")=some true:=by with_unfolding_all kernel_rfl
def tys:List String:=["int","bool","str","list","tuple"]
def MF(K:U5){a t:String}(ha:LV p=some a)(ht:t∈tys):Xx K (.type a) (.type t)=some (oR a t):=by
 have ht2:t="int" \/ t="bool" \/ t="str" \/ t="list" \/ t="tuple" := by simpa [tys] using ht
 cases p<;>cases ha<;>rcases ht2 with rfl|rfl|rfl|rfl|rfl<;>first
  | exact nW K
  | exact kt_NoneType_bool K
  | exact kt_NoneType_str K
  | exact kt_NoneType_list K
  | exact kt_NoneType_tuple K
  | exact vj K
  | exact kt_bool_bool K
  | exact kt_bool_str K
  | exact kt_bool_list K
  | exact kt_bool_tuple K
  | exact kt_int_int K
  | exact kt_int_bool K
  | exact kt_int_str K
  | exact kt_int_list K
  | exact kt_int_tuple K
  | exact kt_str_int K
  | exact kt_str_bool K
  | exact kt_str_str K
  | exact kt_str_list K
  | exact kt_str_tuple K
  | exact kt_list_int K
  | exact kt_list_bool K
  | exact kt_list_str K
  | exact kt_list_list K
  | exact kt_list_tuple K
  | exact kt_tuple_int K
  | exact kt_tuple_bool K
  | exact kt_tuple_str K
  | exact kt_tuple_list K
  | exact kt_tuple_tuple K
  | exact kt_dict_int K
  | exact kt_dict_bool K
  | exact kt_dict_str K
  | exact kt_dict_list K
  |exact kt_dict_tuple K
def CD{K:U5}{a:String}(s:bb Hs H)(r:Rep Hs p v)(ha:LV p=some a):jN K H v (.type a):=by
 cases r with
 | c_=>cases ha;exact .c_
 | bl b=>cases ha;exact .bl b
 | int i=>cases ha;exact .int i
 | str x=>cases ha;exact .str x
 | tup h _=>cases ha;exact .tup (s _ _ h)
 | lst h _=>cases ha;exact .lst (s _ _ h)
 | jX h _=>cases ha;exact .j4 (s _ _ h)
 | emp h=>cases ha;exact .dK (s _ _ h)
 |_=>cases ha
theorem yH(K:U5){p:PV}{a:String}(ha:LV p=some a):∀{Ts:List String},(∀t∈Ts,t∈tys)->aan K (.type a) (Ts.map WD)=some (Ts.any λt=>oR a t)
 | [],_=>rfl
 | t::r,h=>by
  have h1:=MF K ha (h t Vl);have h2:=yH K ha (Ts:=r) λt q=>h t (Vi _ q);simp only[Vu,aan,h1,ZL];cases oR a t with
  | true=>rfl
  |false=>exact h2
structure Jb (K:U5) (C:Addr):Prop where
 cls:mf K C
 ha:V_ K (.ref C) "__class__"=some (some (.builtin "object.__class__"))
 hn:Zl K (.builtin "object.__class__") "__get__"=some (some (.builtin "getset_descriptor.__get__"))
 LN:ZW K (.builtin "object.__class__")=some true
 hm:aaK K C (.type "object")=some true
def EL(b:String->Bool)(ob oe:Addr->Option Bool):PV->M PV
 | .obj C _=>fZ ((ob C).map .bl)
 | .exc C _=>fZ ((oe C).map .bl)
 |p=>fZ ((LV p).map λa=>.bl (b a))
section
variable{pos p pt:Pos}{f:af->M PV}{T:String}{ob oe:Addr->Option Bool}
def JK{fo:Option (List (Str×PV))}(s:bb Hs H)(r:Rep Hs (.exc C fo) v):∃a fo',v=.ref a/\ExcAt H a C fo':=by
 cases r with
 | @xn a _ h=>exact⟨a,none,rfl,s _ _ h⟩
 |@ya a _ d _ vs h h2 _=>exact⟨a,some vs,rfl,d,s _ _ h,s _ _ h2⟩
def FP(b:String->Bool)(ob oe:Addr->Option Bool)(f:af->M PV):af->M PV:=λenv=>(f env).bind (EL b ob oe)
def vE{b:String->Bool}{p:PV}{Q:PV->Prop}{F:EX->Prop}(h:aw (EL b ob oe p) Q F):(∃a,LV p=some a/\Q (.bl (b a)))\/(∃C fs k,p=.obj C fs/\ob C=some k/\Q (.bl k))\/∃C fo k,p=.exc C fo/\oe C=some k/\Q (.bl k):=by
 cases p with
 | obj C fs =>
  obtain⟨z,e,q⟩:=aw.opt h;obtain⟨k,e2,rfl⟩:=VB.mp e;exact .inr (.inl ⟨C,fs,k,rfl,e2,q⟩)
 | exc C fo =>
  obtain⟨z,e,q⟩:=aw.opt h;obtain⟨k,e2,rfl⟩:=VB.mp e;exact .inr (.inr ⟨C,fo,k,rfl,e2,q⟩)
 | c_=>exact .inl ⟨_,rfl,h⟩
 | bl _=>exact .inl ⟨_,rfl,h⟩
 | int _=>exact .inl ⟨_,rfl,h⟩
 | str _=>exact .inl ⟨_,rfl,h⟩
 | tup _=>exact .inl ⟨_,rfl,h⟩
 | lst _=>exact .inl ⟨_,rfl,h⟩
 | jX _=>exact .inl ⟨_,rfl,h⟩
 | emp=>exact .inl ⟨_,rfl,h⟩
 | nB _=>exact h.elim
 |fn _=>exact h.elim
def ED{K:U5}{fs:List (Str×PV)}(s:bb Hs H)(r:Rep Hs (.obj C fs) v)(c:Jb K C):jN K H v (.ref C):=by
 cases r with
 |obj h _=>exact .ins (s _ _ h) c.cls c.ha c.hn c.LN c.hm
def uI(hg:Gl X "isinstance")(hm:X.mg "isinstance"=none)(hT:PE X (.Name x pt) (tC (.ty T)))(ht:T∈tys)(UH:∀C b,ob C=some b->Jb X.K C/\Xx X.K (.ref C) (.type T)=some b)(RH:∀C b,oe C=some b->BK X.K C/\Xx X.K (.ref C) (.type T)=some b)(he:PE X e (tE E f))(h1:autoParam (starEach [e,.Name x pt] X.env=(false,eval e X.env)::starEach [.Name x pt] X.env) aR._auto_1)(h2:autoParam (starEach [.Name x pt] X.env=(false,eval (.Name x pt) X.env)::starEach [] X.env) aR._auto_1)(QF:autoParam ((backTo pos (starEach [.Name x pt] X.env)).any (·.1)=false) aR._auto_1):PE X (.Call (.Name "isinstance" p) [e,.Name x pt] [] pos) (tE E (FP (λa=>oR a T) ob oe f)):=by
 refine(lK (cQ.or BB D4) hg hm D9 (fY he (fY hT kW h2) h1) ↑12 ↑12 h1 QF).imp fun σ H Q q=>cn (K:=ku Q) ku.g q λB H₀ Hs H1 env p v sr rp hp=>?_;rcases vE hp with ⟨a,ha,q⟩|⟨C,fs,k,rfl,e,q⟩|⟨C,fo,k,rfl,e,q⟩
 .exact .inl ⟨v,T,_,_,rfl,CD sr.gr.sub rp ha,MF X.K ha ht,eN.flat q sr.gr.sub (.bl _)⟩
 .exact .inl ⟨v,T,_,_,rfl,ED sr.gr.sub rp (UH C k e).1,(UH C k e).2,eN.flat q sr.gr.sub (.bl _)⟩
 .obtain⟨a,fo',rfl,hx⟩:=JK sr.gr.sub rp;exact .inr ⟨a,C,fo',k,(RH C k e).1,hx,.inl ⟨T,rfl,(RH C k e).2⟩,eN.flat q sr.gr.sub (.bl _)⟩
def G5{e2:Expr}{t2:TE}{Ts:List String}(hg:Gl X "isinstance")(hm:X.mg "isinstance"=none)(hT:PE X e2 t2)(ht2:∀σ H R,(∀p,H p=none->R (.ref p) (upd H p (.tup (Ts.map V.ty))))->t2 σ H R)(ht:∀t∈Ts,t∈tys)(UH:∀C b,ob C=some b->Jb X.K C/\aan X.K (.ref C) (Ts.map WD)=some b)(he:PE X e (tE E f))(h1:autoParam (starEach [e,e2] X.env=(false,eval e X.env)::starEach [e2] X.env) aR._auto_1)(h2:autoParam (starEach [e2] X.env=(false,eval e2 X.env)::starEach [] X.env) aR._auto_1)(QF:autoParam ((backTo pos (starEach [e2] X.env)).any (·.1)=false) aR._auto_1):PE X (.Call (.Name "isinstance" p) [e,e2] [] pos) (tE E (FP (λa=>Ts.any λt=>oR a t) ob (λ_=>none) f)):=by
 refine(lK Ao hg hm D9 (fY he (fY hT kW h2) h1) ↑12 ↑12 h1 QF).imp fun σ H Q q=>cn (K:=ku Q) ku.g q λB H₀ Hs H1 env p v sr rp hp=>?_;refine ht2 σ H1 _ λtp hn=>?_;have g:=bj.new (o:=.tup (Ts.map V.ty)) sr.gr.sub hn;rcases vE hp with ⟨a,ha,q⟩|⟨C,fs,k,rfl,e,q⟩|⟨C,fo,k,rfl,e,q⟩
 .exact⟨v,tp,Ts,_,_,rfl,aH,CD g.sub (rp.mono g.st) ha,yH X.K ha ht,q _ _ _ g (.bl _)⟩
 .exact⟨v,tp,Ts,_,_,rfl,aH,ED g.sub (rp.mono g.st) (UH C k e).1,(UH C k e).2,q _ _ _ g (.bl _)⟩
 .cases e
end
section
open PySem.SeqAt (shaped noMix noMixAll)
mutual
def dat:PV->Option PyData
 | .c_=>some .none
 | .bl b=>some (.bool b)
 | .int i=>some (.int i)
 | .str x=>some (.str x)
 | .tup xs=>(mQ xs).map .tuple
 | .lst xs=>(mQ xs).map .list
 | .jX xs=>(mQ xs).map .list
 | .obj _ _=>none
 | .exc _ _=>none
 | .emp=>none
 | .nB _=>none
 |.fn _=>none
def mQ:List PV->Option (List PyData)
 | []=>some []
 |p::r=>(dat p).bind λd=>(mQ r).map (d::·)
end
mutual
theorem Rep.reads{Hs:Hp}(I:Inv X PZ σ H s)(sm:bb Hs H):∀{p:PV}{v:V}{u:Value}{d:PyData},Rep Hs p v->RelV v u->dat p=some d->∃as,Reads s.heap u d as
 | _,_,u,d,.c_,r,e=>by
  cases e;cases (show u=VU from r);exact⟨_,.none⟩
 | _,_,u,d,.bl b,r,e=>by
  cases e;cases (show u=XD b from r);exact⟨_,.bool b⟩
 | _,_,u,d,.int i,r,e=>by
  cases e;obtain⟨t,rfl⟩:=(show ∃t,u=ZE i t from r);exact⟨_,.int i t⟩
 | _,_,u,d,.str i,r,e=>by
  cases e;obtain⟨t,rfl⟩:=(show ∃t,u=aad i t from r);exact⟨_,.str i t⟩
 | _,_,u,d,.tup (a:=a) ha hx,r,e=>by
  obtain⟨ds,e2,rfl⟩:=VB.mp (show (mQ _).map PyData.tuple=some d from e);cases (show u=Vf a from r);obtain⟨P7,r1,⟨o,ho,hc,n,hd⟩,_⟩:=I.tuple (gm.of (sm _ _ ha));obtain⟨as,ra⟩:=aL.reads I sm hx r1 e2;exact⟨_,.tuple ho hc hd (by simpa using ra)⟩
 | _,_,u,d,.lst (a:=a) ha hx,r,e=>by
  obtain⟨ds,e2,rfl⟩:=VB.mp (show (mQ _).map PyData.list=some d from e);cases (show u=Vf a from r);obtain⟨P7,r1,⟨o,n,ho,hc,_,hd⟩,_⟩:=I.list (gR.of (sm _ _ ha));obtain⟨as,ra⟩:=aL.reads I sm hx r1 e2;exact⟨_,.list ho hc hd (by simpa using ra)⟩
 | _,_,u,d,.jX (a:=a) (o:=ob) ha hx,r,e=>by
  obtain⟨ds,e2,rfl⟩:=VB.mp (show (mQ _).map PyData.list=some d from e);cases (show u=Vf a from r);obtain⟨P7,r1,⟨o,n,ho,hc,_,hd⟩,_⟩:=I.list (.inl (.inr ⟨ob,sm _ _ ha⟩));obtain⟨as,ra⟩:=aL.reads I sm hx r1 e2;exact⟨_,.list ho hc hd (by simpa using ra)⟩
 | _,_,u,d,.obj _ _,r,e=>by cases e
 | _,_,u,d,.xn _,r,e=>by cases e
 | _,_,u,d,.ya _ _ _,r,e=>by cases e
 | _,_,u,d,.emp _,r,e=>by cases e
 | _,_,u,d,.nB _ _,r,e=>by cases e
 |_,_,u,d,.fn _,r,e=>by cases e
theorem aL.reads{Hs:Hp}(I:Inv X PZ σ H s)(sm:bb Hs H):∀{p:List PV}{v:List V}{u:List Value}{d:List PyData},aL Hs p v->Vals v u->mQ p=some d->∃as,ReadsAll s.heap u d as
 | _,_,_,_,.nil,.nil,e=>by cases e;exact⟨_,.nil⟩
 | _,_,_,d,.cons (p:=p) (ps:=ps) h hr,.cons r rr,e=>by
  obtain⟨d1,e1,e2⟩:=aaU.mp (show (dat p).bind (λd=>(mQ ps).map (d::·))=some d from e);obtain⟨ds,e3,rfl⟩:=VB.mp e2;obtain⟨as,ra⟩:=Rep.reads I sm h r e1;obtain⟨bs,rb⟩:=aL.reads I sm hr rr e3;exact⟨_,.cons ra rb⟩
end
def EV(d e:PyData):M Bool:=cX (shaped d=true/\shaped e=true/\noMix d e=true) (M.ok (same d e))
def mI(o:Bool->PV)(p q:PV):M PV:=match dat p,dat q with
 | some d,some e=>(EV d e).bind λb=>M.ok (o b)
 |_,_=>none
def oJ:PV->PV->M PV:=mI λb=>.bl b
def oo:PV->PV->M PV:=mI λb=>.bl (!b)
def Ef(o:Bool->Bool):R2:=λx y H Q=>∃Hs p q d e,bb Hs H/\Rep Hs p x/\Rep Hs q y/\dat p=some d/\dat q=some e/\shaped d=true/\shaped e=true/\noMix d e=true/\Q (.bl (o (same d e))) H
def Cb(hu:X.A.units+64<cLine):hX X (compareOp .Eq) (Ef id):=by
 intro PZ s σ H x y v u Q I rx ry h;obtain⟨Hs,p,q,d,e,sm,rp,rq,hd,he,h1,h2,h3,hq⟩:=h;obtain⟨as,ra⟩:=Rep.reads I sm rp rx hd;obtain⟨bs,rb⟩:=Rep.reads I sm rq ry he;exact eq_dataH_same ra rb h1 h2 hu h3 (xv I hq rfl)
def DI(hu:X.A.units+64<cLine):hX X (compareOp .NotEq) (Ef not):=by
 intro PZ s σ H x y v u Q I rx ry h;obtain⟨Hs,p,q,d,e,sm,rp,rq,hd,he,h1,h2,h3,hq⟩:=h;obtain⟨as,ra⟩:=Rep.reads I sm rp rx hd;obtain⟨bs,rb⟩:=Rep.reads I sm rq ry he;exact ne_dataH_same ra rb h1 h2 hu h3 (xv I hq rfl)
def CQ{o:Bool->Bool}:nQ E (Ef o) (mI λb=>.bl (o b)):=by
 intro σ Hs H p q v u Q s rp rq h;unfold mI at h
 split at h
 .rename_i d e hd he;have h':=aw.bind h;obtain⟨⟨h1,h2,h3⟩,h⟩:=aw.cX h';exact⟨Hs,p,q,d,e,s,rp,rq,hd,he,h1,h2,h3,eN.flat h s (.bl _)⟩
 .exact h.elim
def HM:nQ E (Ef id) oJ:=CQ
def HC:nQ E (Ef not) oo:=CQ
def nO(xs:List PV)(lo hi:Option Int):List PV:=(xs.drop (HT.da xs.length 0 lo)).take (HT.da xs.length xs.length hi-HT.da xs.length 0 lo)
def aL.cut(r:aL H xs vs)(lo hi:Option Int):aL H (nO xs lo hi) (vi vs lo hi):=by
 unfold nO vi;rw[r.length];exact(r.drop _).take _
abbrev L7(Q:Option Int->Hp->Prop):Hp->Hp->Option Int->Prop:=λHs H k=>∀P9 H',bj Hs H P9 H'->Q k H'
def NM(E:St->XK)(g:af->M (Option Int)):TO:=fun σ H Q=>tG E g (L7 Q) σ H
def PO.imp{e:Option Expr}{t t':TO}(h:PO X e t)(i:∀σ H Q,t' σ H Q->t σ H Q):PO X e t':=λPZ s σ H Q I q=>h PZ s σ H Q I (i σ H Q q)
def Jo:PV->M (Option Int)
 | .int i=>M.ok (some i)
 |_=>none
def G7:af->M (Option Int):=λ_=>M.ok none
def lp(f:af->M PV):af->M (Option Int):=λenv=>(f env).bind Jo
section
variable{lo hi:Option Expr}{pos p2:Pos}{f:af->M PV}{gl gh:af->M (Option Int)}
theorem L7.g{Q:Option Int->Hp->Prop}:KG (L7 Q):=λHs H P9 H' b k g Qb H2 g2=>k Qb H2 (g.trans g2)
def Fq:PO X none (NM E G7):=Fm.imp fun σ H Q q=>by
 obtain⟨B,H₀,Hs,env,sr,q⟩:=q;exact q Hs H (.refl sr.gr.sub)
def uC(he:PE X e (tE E f)):PO X (some e) (NM E (lp f)):=(Fl he).imp fun σ H Q q=>cn (K:=L7 Q) L7.g q λB H₀ Hs H1 env p v sr rp hp=>by
 cases rp with
 | int i=>exact⟨i,rfl,hp Hs H1 (.refl sr.gr.sub)⟩
 |_=>exact hp.elim
end
def h9(xs:List PV):List PV:=xs.mapIdx λi x=>.tup [.int (i:Nat),x]
section
variable{K:U5}{fs:af->M (List PV)}
def sP{a:Addr}(hq:∀P9 H',bb Qc P9->bb P9 H'->gR K H' a vs)(hr:aL Qc xs vs):jn (J7 K a) Qc (h9 xs) where
 stop:=λi Hs H s1 s2 hi=>by
  unfold h9 at hi;rw[XR,hr.length] at hi;exact⟨vs,hq Hs H s1 s2,hi⟩
 go:=λi Hs H s1 s2 hi=>by
  unfold h9 at hi;rw[XR] at hi;obtain⟨v,e,_⟩:=hr.get (U4 hi);exact⟨vs,v,hq Hs H s1 s2,e⟩
 vd:=λi Hs H x H2 s1 s2 hi y=>by
  unfold h9 at hi;rw[XR] at hi;obtain⟨v,e,r⟩:=hr.get (U4 hi);obtain⟨pa,v',hn,rfl,rfl,y1⟩:=y;have z1:=y1 vs (hq Hs H s1 s2);rw[e] at z1;cases z1;have gr:=bj.new (o:=.tup [.int (i:Nat),v]) s2 hn;refine⟨.tup [.int (i:Nat),xs[i]],_,?_,gr,.tup aH (.cons (.int _) (.cons ((r.mono s1).mono gr.st) .nil))⟩;unfold h9;rw[abS,U4 hi];rfl
end
end
def Fh(lo st:Int)(n:Nat):It:=⟨λi _=>i<n,λi H x H'=>H'=H/\x=.int (lo+(i:Nat)*st),λi _=>n<=i⟩
theorem wV{K:U5}(it:Addr)(lo st:Int)(n:Nat):Turn P w K tg (Fh lo st n) [it] it (λi h=>IsRangeIter h it (lo+(i:Nat)*st) ((n:Int)-(i:Nat)) st) where
 mem:=by simp
 obj:=λi h st b hb=>by
  have e:b=it:=by simpa using hb
  subst e;exact⟨_,st,λv z=>by
   have z':Data.fields _=Data.cell v:=z;cases z'⟩
 keep:=λi h h' st k=>k it ↑13 _ st
 item:=by
  intro X hP hw hK hc i PZ s σ H E I hf P8 hg;subst hP hw hK;obtain⟨f0,f1,f2,f3,f4,f5⟩:=hf it ↑13;have W:=Walks.range (prog:=X.prog) (w:=X.w) (I.ok.hd hc) it lo st n;refine W.item i s _ _ hg P8 λv h' tk hv RV kk=>?_;obtain⟨t,rfl⟩:=hv;have I1:Inv X PZ σ H { s with heap:=h',toks:=tk }:=I.turned (λb o hb e=>kk b o (by simpa using hb) e) f0 f1 f3 f4 f5;exact⟨_,rfl,wz (s:={ s with heap:=h',toks:=tk }) (n := "range_iterator") RV rfl rfl ↑12 ⟨.int (lo+(i:Nat)*st),H,I1,⟨t,rfl⟩,⟨rfl,rfl⟩,RV,λb hb=>(hf b hb).1⟩⟩
 done:=by
  intro X hP hw hK hc i PZ s σ H E I hf P8 hg;subst hP hw hK;obtain⟨f0,f1,f2,f3,f4,f5⟩:=hf it ↑13;exact aa5 (I.ok.hd hc) P8 (by have:n<=i:=hg;lia) λh' eb=>⟨rfl,I.turned (t':=s.toks) (λb o hb e=>eb b o hb e) f0 f1 f3 f4 f5⟩
 self:=λ_ _ _ _ _ st h=>aa6 st h
theorem tZ(a b c:Int):0<=VP a b c:=by
 unfold VP
 split
 .split
  .have:=Xg (a:=b-a-1) (b:=c) ⋯ ⋯;lia
  .lia
 .split
  .have:=Xg (a:=a-b-1) (b:=-c) ⋯ ⋯;lia
  .lia
theorem Aj{R:It->Hp->Prop}{E:Value->Shared->Prop}{lo hi st:Int}{t u v:Tok}{tk:Nat}(I:Inv X PZ σ H s)(hsm:Z7 lo hi st=true)(q:R (Fh lo st (VP lo hi st).toNat) H):wpAny ↑8 X.A (pyIter (.ref s.heap.objs.size)) (N5 X PZ σ tg R) E { s with heap:=s.heap.push { cls:=.type "range",data:=.fields #[.int lo t,.int hi u,.int st v] },toks:=tk }:=by
 refine wpAny_pyIter_range (IsRange.new ..) hsm ?_;have I1:Inv X PZ σ H { s with heap:=s.heap.push { cls:=.type "range",data:=.fields #[.int lo t,.int hi u,.int st v] },toks:=tk }:=I.kept λb o e=>U3 _ e;refine⟨(s.heap.push { cls:=.type "range",data:=.fields #[.int lo t,.int hi u,.int st v] }).objs.size,[(s.heap.push { cls:=.type "range",data:=.fields #[.int lo t,.int hi u,.int st v] }).objs.size],_,_,H,rfl,
  I1.kept (t':=tk) λb o e=>U3 _ e,wV _ lo st (VP lo hi st).toNat,?_,λb hb=>?_,q⟩
 .have e1:lo+((0:Nat):Int)*st=lo:=by simp
  have e2:(((VP lo hi st).toNat:Nat):Int)-((0:Nat):Int)=VP lo hi st:=by have:=tZ lo hi st;lia
  show IsRangeIter _ _ (lo+((0:Nat):Int)*st) ((((VP lo hi st).toNat:Nat):Int)-((0:Nat):Int)) st;rw[e1,e2];exact U_ _ rfl
 .have e:b=(s.heap.push { cls:=.type "range",data:=.fields #[.int lo t,.int hi u,.int st v] }).objs.size:=by simpa using hb
  subst e;exact I1.qS (U9 _) (I1.bJ.fresh (U9 _))
def C3(i j k:Int):Bool:=decide (k≠0)&&decide (k.natAbs<1073741824)&&Z7 i j k
def Hw(ta:TA):TI:=fun σ H R=>ta σ H λvs H1=>∃i j k:Int,vs=[.int i,.int j,.int k]/\C3 i j k=true/\R (Fh i k (VP i j k).toNat) H1
def r0{a b:Expr}{ta:TA}{p pos:Pos}(hg:Gl X "range")(hm:X.mg "range"=none)(ha:PA X [a,b,c] ta)(hs:autoParam (starEach [a,b,c] X.env=[(false,eval a X.env),(false,eval b X.env),(false,eval c X.env)]) aR._auto_1)(Rx:autoParam (starEach [b,c] X.env=[(false,eval b X.env),(false,eval c X.env)]) aR._auto_1):PI X tg (.Call (.Name "range" p) [a,b,c] [] pos) (Hw ta):=by
 intro PZ s σ H R I h;refine Call_ (iW I hg hm boot_range (Wj (cF (ha pos PZ s σ H _ I h) λus s1 ⟨vs,H1,I1,r1,q1⟩=>?_) (by rw[hs,Rx]) (by rw[Rx];rfl)));obtain⟨i,j,k,e,hc,q⟩:=q1;subst e;cases r1 with
 | cons r rr =>
  cases rr with
  | cons r' rr =>
   cases rr with
   | cons UX rr =>
    cases rr;obtain⟨t,rfl⟩:=r;obtain⟨t',rfl⟩:=r';obtain⟨t'',rfl⟩:=UX;unfold C3 at hc;rw[Wg,Wg] at hc;exact call_range_3 (of_decide_eq_true hc.1.1) (Aj I1 hc.2 q) (.inl (PyProof.noPylong_small (of_decide_eq_true hc.1.2)))
def Ar:List PV->M (List PV)
 | [.int i,.int j,.int k]=>cX (C3 i j k=true) (M.ok ((Ve (VP i j k).toNat).map λ(n:Nat)=>.int (i+n*k)))
 |_=>none
section
variable{K:U5}{fs:af->M (List PV)}
def A_{lo st:Int}:jn (Fh lo st n) Qc ((Ve n).map λ(i:Nat)=>PV.int (lo+(i:Int)*st)) where
 stop:=λi Hs H s1 s2 hi=>show n<=i by simpa using hi
 go:=λi Hs H s1 s2 hi=>show i<n by simpa using hi
 vd:=λi Hs H x H2 s1 s2 hi y=>by
  obtain⟨rfl,rfl⟩:=y;have Ss:i<n:=by simpa using hi
  exact⟨.int (lo+(i:Int)*st),Hs,by simp[Ss],.refl s2,.int _⟩
def zN{ps:List PV}{Q:List PV->Prop}{F:EX->Prop}(h:aw (Ar ps) Q F):∃i j k,ps=[.int i,.int j,.int k]/\C3 i j k=true/\Q ((Ve (VP i j k).toNat).map λ(n:Nat)=>.int (i+n*k)):=by
 unfold Ar at h
 split at h
 .obtain⟨hc,h⟩:=aw.cX h;exact⟨_,_,_,rfl,hc,h⟩
 .exact h.elim
def aL.three{q r:PV}(h:aL H [p,q,r] vs):∃v u w,vs=[v,u,w]/\Rep H p v/\Rep H q u/\Rep H r w:=by
 cases h with
 |cons h r=>obtain⟨u,w,rfl,h2,h3⟩:=r.two;exact⟨_,_,_,rfl,h,h2,h3⟩
def v8:xp E (Hw (tL E fs)) (jE Ar fs):=by
 intro σ H R q;refine cN (K:=KI R) KI.g q λB H₀ Hs H1 env ps v sr rp hp=>?_;obtain⟨i,j,k,rfl,hc,hp⟩:=zN hp;obtain⟨w,u,z,rfl,RO,ru,rz⟩:=rp.three;cases RO;cases ru;cases rz;exact⟨i,j,k,rfl,hc,hp _ Hs H1 (.refl sr.gr.sub) A_⟩
end
def jB:List PV->List PV->List PV->List PV
 | x::xs,y::ys,z::zs=>.tup [x,y,z]::jB xs ys zs
 |_,_,_=>[]
theorem sN:∀{xs ys zs:List PV}{i:Nat}(h1:i<xs.length)(h2:i<ys.length)(h3:i<zs.length),(jB xs ys zs)[i]?=some (.tup [xs[i],ys[i],zs[i]])
 | x::xs,y::ys,z::zs,0,_,_,_=>rfl
 | x::xs,y::ys,z::zs,i+1,h1,h2,h3=>by
  show (jB xs ys zs)[i]?=_;exact sN (xs:=xs) (ys:=ys) (zs:=zs) (i:=i) (by simpa using h1) (by simpa using h2) (by simpa using h3)
 | [],_,_,_,h1,_,_=>by simp at h1
 | _::_,[],_,_,_,h2,_=>by simp at h2
 |_::_,_::_,[],_,_,_,h3=>by simp at h3
theorem j0:∀{xs ys zs:List PV},(jB xs ys zs).length=min xs.length (min ys.length zs.length)
 | x::xs,y::ys,z::zs=>by
  show (jB xs ys zs).length+1=_;rw[j0];simp only[VF];lia
 | [],_,_=>by simp[jB]
 | _::_,[],_=>by simp[jB]
 |_::_,_::_,[]=>by simp[jB]
def vD:List PV->M (List PV)
 | [p,q,r]=>match bL p,bL q,bL r with
  | some xs,some ys,some zs=>M.ok (jB xs ys zs)
  | _,_,_=>none
 |_=>none
section
variable{K:U5}{fs:af->M (List PV)}
theorem As{b1 b2 b3:Bool}{a1 a2 a3:Addr}{ys zs:List PV}{us ws:List V}(QS:∀P9 H',bb Qc P9->bb P9 H'->kn K H' b1 a1 vs)(SK:aL Qc xs vs)(QJ:∀P9 H',bb Qc P9->bb P9 H'->kn K H' b2 a2 us)(SM:aL Qc ys us)(R6:∀P9 H',bb Qc P9->bb P9 H'->kn K H' b3 a3 ws)(UJ:aL Qc zs ws):jn (OT K b1 b2 b3 a1 a2 a3) Qc (jB xs ys zs) where
 stop:=λi Hs H s1 s2 hi=>by
  rw[j0,SK.length,SM.length,UJ.length] at hi;exact⟨vs,us,ws,QS Hs H s1 s2,QJ Hs H s1 s2,R6 Hs H s1 s2,by lia⟩
 go:=λi Hs H s1 s2 hi=>by
  rw[j0] at hi;obtain⟨v,e,_⟩:=SK.get (U4 (show i<xs.length by lia));obtain⟨u,e',_⟩:=SM.get (U4 (show i<ys.length by lia));obtain⟨w,e'',_⟩:=UJ.get (U4 (show i<zs.length by lia));exact⟨vs,us,ws,v,u,w,QS Hs H s1 s2,QJ Hs H s1 s2,R6 Hs H s1 s2,e,e',e''⟩
 vd:=λi Hs H x H2 s1 s2 hi y=>by
  rw[j0] at hi;have l1:i<xs.length:=by lia
  have l2:i<ys.length:=by lia
  have l3:i<zs.length:=by lia
  obtain⟨v,e,r⟩:=SK.get (U4 l1);obtain⟨u,e',r'⟩:=SM.get (U4 l2);obtain⟨w,e'',UX⟩:=UJ.get (U4 l3);obtain⟨pa,v',u',w',hn,rfl,rfl,y1,y2,y3⟩:=y;have z1:=y1 vs (QS Hs H s1 s2);have z2:=y2 us (QJ Hs H s1 s2);have z3:=y3 ws (R6 Hs H s1 s2);rw[e] at z1;cases z1;rw[e'] at z2;cases z2;rw[e''] at z3;cases z3;have gr:=bj.new (o:=.tup [v,u,w]) s2 hn;exact⟨_,_,sN l1 l2 l3,gr,.tup aH (.cons ((r.mono s1).mono gr.st) (.cons ((r'.mono s1).mono gr.st) (.cons ((UX.mono s1).mono gr.st) .nil)))⟩
def z6{ps:List PV}{Q:List PV->Prop}{F:EX->Prop}(h:aw (vD ps) Q F):∃p q r xs ys zs,ps=[p,q,r]/\bL p=some xs/\bL q=some ys/\bL r=some zs/\Q (jB xs ys zs):=by
 unfold vD at h
 split at h
 .split at h
  .exact⟨_,_,_,_,_,_,rfl,by assumption,by assumption,by assumption,h⟩
  .exact h.elim
 .exact h.elim
def qE:xp E (HQ K (tL E fs)) (jE vD fs):=by
 intro σ H R q;refine cN (K:=KI R) KI.g q λB H₀ Hs H1 env ps v sr rp hp=>?_;obtain⟨p,q,r,xs,ys,zs,rfl,e1,e2,e3,hp⟩:=z6 hp;obtain⟨w,u,z,rfl,RO,ru,rz⟩:=rp.three;obtain⟨b1,a1,vs,rfl,QS,SK⟩:=jb (K:=K) sr.gr.sub RO e1;obtain⟨b2,a2,us,rfl,QJ,SM⟩:=jb (K:=K) sr.gr.sub ru e2;obtain⟨b3,a3,ws,rfl,R6,UJ⟩:=jb (K:=K) sr.gr.sub rz e3;exact⟨b1,b2,b3,a1,a2,a3,rfl,⟨vs,QS Hs H1 (λ_ _ z=>z) sr.gr.sub⟩,⟨us,QJ Hs H1 (λ_ _ z=>z) sr.gr.sub⟩,⟨ws,R6 Hs H1 (λ_ _ z=>z) sr.gr.sub⟩,hp _ Hs H1 (.refl sr.gr.sub) (As QS SK QJ SM R6 UJ)⟩
end
def kG(i j k:Nat):PV->af->M af
 | .tup [p,q,r],env=>M.ok (((env.set i (some (.sh p))).set j (some (.sh q))).set k (some (.sh r)))
 |_,_=>none
def uq{E:XK}{K:U5}:Et E (i9 K 3 (bC (aJ i) (bC (aJ j) (bC (aJ k) iY)))) (kG i j k):=by
 intro B H₀ Hs H σ env p v Q Z sr r h;cases r with
 | @tup a xs vs ha hx =>
  match xs,hx with
  | [p,q,r],hx =>
   obtain⟨v,u,w,rfl,rp,rq,rr⟩:=hx.three;exact⟨a,[v,u,w],rfl,gm.of (sr.gr.sub _ _ ha),rfl,v,[u,w],rfl,u,[w],rfl,w,[],rfl,rfl,h _ (((sr.set rp).set rq).set rr)⟩
  | [],_=>exact h.elim
  | [_],_=>exact h.elim
  | [_,_],_=>exact h.elim
  | _::_::_::_::_,_=>exact h.elim
 |_=>exact h.elim
def qk:l5 (kG i j k):=λp env e h n=>by
 unfold kG at h
 split at h
 .cases h;exact jZ (jZ (jZ n))
 .cases h
section
variable{E:XK}{pos:Pos}{fs:af->M (List PV)}{f h:af->M PV}
def ownAt(i:Nat)(env:af):M (List PV):=match env[i]? with
 | some (some (.ow xs))=>M.ok xs
 |_=>none
def aw.own{env:af}{Q:List PV->Prop}{F:EX->Prop}(h:aw (ownAt i env) Q F):∃xs,env[i]?=some (some (.ow xs))/\Q xs:=by
 unfold ownAt at h
 split at h
 .exact⟨_,by assumption,h⟩
 .exact h.elim
def Hf(i:Nat)(xs:List PV)(p:PV)(env:af):PV->M Out
 | .int n=>match Bj xs.length n with
  | some j=>M.ok (.nx (env.set i (some (.ow (xs.set j p)))))
  | none=>none
 |_=>none
def Nd(i:Nat)(g f:af->M PV):af->M Out:=λenv=>(f env).bind λp=>(ownAt i env).bind λxs=>(g env).bind (Hf i xs p env)
def Hr{ie:Expr}(hi:X.N[i]?=some x)(hv:AK X.env.scope x)(hk:PE X ie (tE (λ_=>E) h))(he:PE X e (tE (λ_=>E) f))(hd:autoParam ↑7 aD._auto_1)(QI:autoParam ↑6 aD._auto_1)
  (ha:autoParam (∀v,assign (.Subscript (.Name x px) ie pos') X.env v=(do
   let ov <- holding [v] (eval (.Name x px) X.env)
   let iv <- holding [v,ov] (eval ie X.env)
   standAt pos'
   holding [v,ov,iv] (setItem ov iv v)
   release [v,ov,iv] [])) aI._auto_1)
  (hs:autoParam (swapsWithSole [.Subscript (.Name x px) ie pos'] e pos.line X.env=pure false) aR._auto_1) (hw:autoParam (swappedStores [.Subscript (.Name x px) ie pos'] e X.env=pure none) aR._auto_1)
  (h1:autoParam ((assignEach [.Subscript (.Name x px) ie pos'] X.env).map (·.2)=[assign (.Subscript (.Name x px) ie pos') X.env]) aR._auto_1):PS X (.Assign [.Subscript (.Name x px) ie pos'] e pos) (tS E (Nd i h f)):=by
 refine(Jh he (Ic (ji hi hv hd QI) hk set_list ha) hs hw h1).imp λD σ H q=>iU q λB H₀ Hs H1 env p v sr rp hp=>?_;obtain⟨xs,ex,hp⟩:=aw.own (aw.bind hp);obtain⟨a,vs,h1,h2,h3,h4,h5⟩:=sr.ow i xs ex;refine⟨.ref a,h1,B,H₀,Hs,env,sr,(aw.bind hp).imp (λk hk w Qb H2 g2 rk=>?_) λe he=>he.grow sr.gr⟩;have QA:=sr.grow g2;cases rk with
 | int n =>
  have Rw:aw (match Bj xs.length n with|some j=>M.ok (Out.nx (env.set i (some (.ow (xs.set j p)))))|none=>none) (KS D B H₀) (XW E B H₀):=hk
  split at Rw
  .rename_i j ej;exact⟨a,vs,n,j,rfl,rfl,g2.al _ _ h2,by rwa[<- h5.length],Rw σ Qb _ (QA.put ex h1 ((h5.mono g2.st).set (rp.mono g2.st) j))⟩
  .exact Rw.elim
 |_=>exact hk.elim
def ML(n:Nat)(sem:List PV->M (List PV)):Sp:=λvs H Q E=>vs.length=n/\∃Hs ps,bb Hs H/\aL Hs ps vs/\aw (sem ps) (KO Q Hs H) (XW E Hs H)
end
def KO.gr{Q:VK}:KG (KO Q):=λHs H P9 H' b k g vs p Qb H2 g2 r n=>k vs p Qb H2 (g.trans g2) r n
section
variable{sem:List PV->M (List PV)}{p pos:Pos}{fs:af->M (List PV)}{g:af->M PV}
end
mutual
def pK:PV->Bool
 | .c_=>true
 | .bl _=>true
 | .int _=>true
 | .str _=>true
 | .tup xs=>mV xs
 |_=>false
def mV:List PV->Bool
 | []=>true
 |p::r=>pK p&&mV r
end
mutual
theorem Rep.away{Hs:Hp}{a:Addr}{ws:List V}(ha:Hs a=some (.lst ws)):∀{p:PV}{v:V},Rep Hs p v->pK p=true->Rep (rem Hs a) p v
 | _,_,.c_,_=>.c_
 | _,_,.bl b,_=>.bl b
 | _,_,.int b,_=>.int b
 | _,_,.str b,_=>.str b
 | _,_,.tup (a:=c) h r,n=>by
  have nc:c≠a:=λz=>by subst z;rw[ha] at h;cases h
  exact .tup (by unfold rem;rwa[if_neg nc]) (r.away ha n)
 | _,_,.lst _ _,n=>by cases n
 | _,_,.jX _ _,n=>by cases n
 | _,_,.obj _ _,n=>by cases n
 | _,_,.xn _,n=>by cases n
 | _,_,.ya _ _ _,n=>by cases n
 | _,_,.emp _,n=>by cases n
 | _,_,.nB _ _,n=>by cases n
 |_,_,.fn _,n=>by cases n
theorem aL.away{Hs:Hp}{a:Addr}{ws:List V}(ha:Hs a=some (.lst ws)):∀{p:List PV}{v:List V},aL Hs p v->mV p=true->aL (rem Hs a) p v
 | _,_,.nil,_=>.nil
 | _,_,.cons h r,n=>by
  have n':=Ye.mp (show (pK _&&mV _)=true from n);exact .cons (h.away ha n'.1) (r.away ha n'.2)
end
def AS:M PV->M PV
 | some (.ok p)=>cX (pK p=true) (M.ok p)
 |_=>none
def EJ:M Bool->M Bool
 | some (.ok p)=>M.ok p
 |_=>none
theorem aw.AS{r:M PV}{Q:PV->Prop}{E:EX->Prop}(h:aw (L2.AS r) Q E):aw r (λp=>pK p=true/\Q p) (λ_=>False):=by
 cases r with
 | none=>exact h
 | some r=>cases r with
  | error e=>exact h
  | ok p =>
   obtain⟨n,h⟩:=aw.cX h;exact⟨n,h⟩
theorem aw.EJ{r:M Bool}{Q:Bool->Prop}{E:EX->Prop}(h:aw (L2.EJ r) Q E):aw r Q (λ_=>False):=by
 cases r with
 | none=>exact h
 | some r=>cases r with
  | error e=>exact h
  |ok p=>exact h
def bj.back{P9 H':Hp}{a:Addr}{ws:List V}(h1:Hs a=none)(hH:H a=some (.lst ws))(s:bb Hs H)(g:bj (upd Hs a (.lst ws)) H P9 H'):bj Hs H (rem P9 a) H'/\P9 a=some (.lst ws):=by
 have e:P9 a=some (.lst ws):=g.st _ _ aH;refine⟨⟨λc u q=>?_,g.al,λc u q=>?_,λc u q1 q2 q3=>?_⟩,e⟩
 .have nc:c≠a:=λz=>by subst z;rw[h1] at q;cases q
  unfold rem;rw[if_neg nc];exact g.st c u (by rwa[aB nc])
 .unfold rem at q
  split at q
  .cases q
  .exact g.sub c u q
 .unfold rem
  by_cases nc:c=a
  .rw[if_pos nc]
  .rw[if_neg nc];exact g.nw c u (by rwa[aB nc]) q2 q3
def SR.lend{B:Hp}{env:af}(r:SR B H₀ Hs H σ env)(e:env[i]?=some (some (.ow xs))):∃a vs,Hs a=none/\H a=some (.lst vs)/\SR B H₀ (upd Hs a (.lst vs)) H σ (ph i env):=by
 obtain⟨a,vs,h1,h2,h3,_⟩:=r.NB e;unfold ph;rw[e];exact⟨a,vs,h1,h2,h3⟩
def nI(i:Nat)(f:af->M PV):af->M PV:=λenv=>(ownAt i env).bind λ_=>AS (f (ph i env))
def nu(i:Nat)(f:af->M Bool):af->M Bool:=λenv=>(ownAt i env).bind λ_=>EJ (f (ph i env))
section
variable{f:af->M PV}{u:af->M Bool}
def uU(i:Nat)(he:PE X e (tE E f)):PE X e (tE E (nI i f)):=he.imp fun σ H Q q=>by
 obtain⟨B,H₀,Hs,env,sr,q⟩:=q;obtain⟨xs,ex,q⟩:=aw.own (aw.bind q);obtain⟨a,vs,h3,h2,QA⟩:=sr.lend ex;refine⟨B,H₀,_,_,QA,(aw.AS q).imp (λp hp v P9 H' g r=>?_) λ_ z=>z.elim⟩;obtain⟨g2,ea⟩:=bj.back h3 h2 sr.gr.sub g;exact hp.2 v _ _ g2 (r.away ea hp.1)
def va(i:Nat)(he:PT X e (tT E u)):PT X e (tT E (nu i u)):=he.imp fun σ H Q q=>by
 obtain⟨B,H₀,Hs,env,sr,q⟩:=q;obtain⟨xs,ex,q⟩:=aw.own (aw.bind q);obtain⟨a,vs,h3,h2,QA⟩:=sr.lend ex;refine⟨B,H₀,_,_,QA,(aw.EJ q).imp (λp hp P9 H' g=>?_) λ_ z=>z.elim⟩;obtain⟨g2,ea⟩:=bj.back h3 h2 sr.gr.sub g;exact hp _ _ g2
end
def bZ:PV->PV->M PV:=DU (λ_ j=>decide (j≠0/\j.natAbs.log2<9000)) λi j=>i.fdiv j
def dI:PV->PV->M PV:=DU (λ_ j=>decide (j≠0)) λi j=>i.fmod j
def EY:PV->PV->M PV:=C5 λi j=>decide (i<j)
def FG:PV->PV->M PV:=C5 λi j=>decide (i<=j)
def ET:PV->PV->M PV:=C5 λi j=>decide (j<i)
def LQ:PV->PV->M PV:=C5 λi j=>decide (j<=i)
def DG:nQ E (rI CK λi j=>.int (i.fdiv j)) bZ:=EZ
def Fo:nQ E (rI (λ_ j=>j≠0) λi j=>.int (i.fmod j)) dI:=Kn
def yh:nQ E (yX λi j=>.bl (decide (i<j))) EY:=uo
def pW:nQ E (yX λi j=>.bl (decide (i<=j))) FG:=uo
def CI:nQ E (yX λi j=>.bl (decide (j<i))) ET:=uo
def Cv:nQ E (yX λi j=>.bl (decide (j<=i))) LQ:=uo
def br(n:Nat)(s:List PV->M PV):List PV->M PV:=λps=>cX (ps.length=n) (s ps)
def qi{s:List PV->M PV}{ps:List PV}(h:br n s ps≠none):ps.length=n:=by
 unfold br cX at h
 split at h
 .assumption
 .exact(h rfl).elim
variable{dv:Value}
section
variable{K:U5}
def D7{s:List PV->M PV}(F:aW P w K mg base (bW P w) k f fd ps (dR n s)):aW P w K mg base (bW P w) k f fd ps (dR n (br n s)) where
 len:=λvs H Q E h=>by
  obtain⟨h0,Hs,qs,sm,r,h⟩:=h;exact F.len vs H Q E ⟨h0,Hs,qs,sm,r,(aw.cX h).2⟩
 run:=λA outer s H args us vs Q E hr e hb rv h=>by
  obtain⟨h0,Hs,qs,sm,r,h⟩:=h;exact F.run A outer s H args us vs Q E hr e hb rv ⟨h0,Hs,qs,sm,r,(aw.cX h).2⟩
structure dM (P:Program) (w:World) (K:U5) (mg:Str->Option Value) (base:Heap) (n:Nat) (x:Str) (m:Nat) (sem:List PV->M PV):Prop where
 ex:∃(f:Addr)(fd:FuncData)(ps:List Str),mg x=some (.ref f)/\Xc K (.ref f)=true/\ps.length=m/\Binds K fd ps []/\aW P w K mg base (bW P w) n f fd ps (dR m (br m sem))
def bg.Pq{st:Stmt}{g:af->M Out}(F:bg K x qual st dv f fd)(S:cH N ps (aZ st))(hb:∀(Qf:Value)(A:Around)(outer:List Env)(s:Shared)(H:Hp)(E:XK),cj k (A.deeper (envOfC qual (aZ st) s.heap.objs.size f Qf))->gD ((jO (bW P w) P w K mg base N qual (aZ st) f Qf A outer s H E).out λ_=>E) (λ_=>E)->kr ((jO (bW P w) P w K mg base N qual (aZ st) f Qf A outer s H E).out λ_=>E) (d_ st) (tS E g)):aW P w K mg base (bW P w) (k+1) f fd ps (dR ps.length (br ps.length (aC N.length g))):=by
 obtain⟨oc,od,kV,doc,pm,an,Qf,ct,Sm,rfl,lk,QI⟩:=F.ex;exact D7 (Lh lk QI S λA outer s H E hr=>hb Qf A outer s H E hr (DS rfl rfl))
end
section
variable{m:Nat}{sem:List PV->M PV}{fs:af->M (List PV)}{p pos:Pos}
def dM.call(F:dM X.prog X.w X.K X.mg X.base n x m sem)(hr:cj k X.A)(hn:n<=k)(hg:Gl X x)(O:gD X E)(ha:PA X (e::es) (tL E fs))(RA:autoParam ↑7 aD._auto_1)(he:autoParam ↑0 aR._auto_1)(QF:autoParam ↑2 aR._auto_1):PE X (.Call (.Name x p) (e::es) [] pos) (tE E (ai (br m sem) fs)):=by
 obtain⟨f,fd,ps,h1,h2,h3,h4,h5⟩:=F.ex;have:=FQ (p:=p) (RL:=[]) h5 (hr.mono hn) hg h1 h2 h4 .nil (λ_=>.nil) O (λRN hp=>by rw[Ww] at hp;exact qi hp) ha RA he QF;refine this.imp fun σ H Q q=>?_;have e:(λps=>br m sem (ps++[]))=br m sem:=by funext ps;rw[Ww]
 rwa[e]
structure kf (P:Program) (w:World) (K:U5) (mg:Str->Option Value) (base:Heap) (C:Addr) (n:Nat) (x:Str) (m:Nat) (sem:List PV->M PV):Prop where
 ex:∃(f:Addr)(fd:FuncData)(ps:List Str),mf K C/\Meth K C x f/\Binds K fd ps []/\aW P w K mg base (bW P w) n f fd ps (dR m (br m sem))
def kf.call{g:af->M PV}(F:kf X.prog X.w X.K X.mg X.base C n x m sem)(hr:cj k X.A)(hn:n<=k)(O:gD X E)(ho:PE X o (tE E g))(ha:PA X (e::es) (tL E fs))
  (QQ:autoParam ↑0 aR._auto_1) (QF:autoParam ↑2 aR._auto_1)
  (ht:autoParam (eval (.Call (.Attribute o x apos) (e::es) [] pos) X.env=(do
   let ov <- eval o X.env
   standAt apos.atName
   let (f,first) <- holding [ov] (getMethod ov x pl)
   callWith pos f first (backTo pos (starEach (e::es) X.env)) (backToKw pos (keywordEach [] X.env)))) aR._auto_1) :
  PE X (.Call (.Attribute o x apos) (e::es) [] pos) (tE E (bF C x (br m sem) g fs)):=by
 obtain⟨f,fd,ps,h1,h2,h3,h4⟩:=F.ex;exact Ff ho h1 h2 h4 (hr.mono hn) h3 O (λRN hp=>qi hp) ha QQ QF ht
def kf.LZ{g:af->M PV}(F:kf X.prog X.w X.K X.mg X.base C n x m sem)(hr:cj k X.A)(hn:n<=k)(O:gD X E)(ho:PE X o (tE E g))
  (ht:autoParam (eval (.Call (.Attribute o x apos) [] [] pos) X.env=(do
   let ov <- eval o X.env
   standAt apos.atName
   let (f,first) <- holding [ov] (getMethod ov x pl)
   callWith pos f first (backTo pos (starEach [] X.env)) (backToKw pos (keywordEach [] X.env)))) aR._auto_1) :
  PE X (.Call (.Attribute o x apos) [] [] pos) (tE E (bF C x (br m sem) g ao)):=by
 obtain⟨f,fd,ps,h1,h2,h3,h4⟩:=F.ex;exact Cr ho h1 h2 h4 (hr.mono hn) h3 O (λRN hp=>qi hp) ht
end
structure Bi (P:Program) (w:World) (K:U5) (mg:Str->Option Value) (base:Heap) (C:Addr) (n:Nat) (x:Str) (m:Nat) (RL:List PV) (sem:Addr->List PV->M (List (Str×PV))):Prop where
 ex:∃(f:Addr)(fd:FuncData)(ps:List Str)(ds:List Value)(QW:List V),mg x=some (.ref C)/\Mk K C f/\Binds K fd ps ds/\Vals QW ds/\(∀H,aL H RL QW)/\aW P w K mg base (bW P w) n f fd ps (HB m C sem)
def uB(m:Nat)(sem:Addr->List PV->M (List (Str×PV))):Addr->List PV->M (List (Str×PV)):=λa ps=>cX (ps.length+1=m) (sem a ps)
def AX{K:U5}{s:Addr->List PV->M (List (Str×PV))}(F:aW P w K mg base (bW P w) k f fd ps (HB n C s)):aW P w K mg base (bW P w) k f fd ps (HB n C (uB n s)) where
 len:=λvs H Q E h=>by
  obtain⟨h0,a,dx,us,Hs,H1,qs,e1,e2,e3,e4,e5,sm,r,h⟩:=h;exact F.len vs H Q E ⟨h0,a,dx,us,Hs,H1,qs,e1,e2,e3,e4,e5,sm,r,(aw.cX h).2⟩
 run:=λA outer s H args us vs Q E hr e hb rv h=>by
  obtain⟨h0,a,dx,us',Hs,H1,qs,e1,e2,e3,e4,e5,sm,r,h⟩:=h;exact F.run A outer s H args us vs Q E hr e hb rv ⟨h0,a,dx,us',Hs,H1,qs,e1,e2,e3,e4,e5,sm,r,(aw.cX h).2⟩
def bg.Pg{K:U5}{st:Stmt}{g:af->M Out}(F:bg K x qual st dv f fd)(S:cH N ps (aZ st))(hN:0<N.length)(hb:∀(Qf:Value)(A:Around)(outer:List Env)(s:Shared)(H:Hp)(E:XK),cj k (A.deeper (envOfC qual (aZ st) s.heap.objs.size f Qf))->gD ((jO (bW P w) P w K mg base N qual (aZ st) f Qf A outer s H E).out λ_=>E) (λ_=>E)->kr ((jO (bW P w) P w K mg base N qual (aZ st) f Qf A outer s H E).out λ_=>E) (d_ st) (tS E g)):aW P w K mg base (bW P w) (k+1) f fd ps (HB ps.length C (uB ps.length (zz N.length g C))):=by
 obtain⟨oc,od,kV,doc,pm,an,Qf,ct,Sm,rfl,lk,QI⟩:=F.ex;exact AX <| GU lk QI S hN λA outer s H E hr=>hb Qf A outer s H E hr (DS rfl rfl)
section
variable{m:Nat}{fs:af->M (List PV)}{p pos:Pos}
def Bi.make{sem:Addr->List PV->M (List (Str×PV))}(F:Bi X.prog X.w X.K X.mg X.base C n x m RL (uB m sem))(hr:cj k X.A)(hn:n+1<=k)(hg:Gl X x)(O:gD X E)(ha:PA X (e::es) (tL E fs))(RA:autoParam ↑7 aD._auto_1)(he:autoParam ↑0 aR._auto_1)(QF:autoParam ↑2 aR._auto_1):PE X (.Call (.Name x p) (e::es) [] pos) (tE E (ai (ff C (uB m sem) RL) fs)):=by
 obtain⟨f,fd,ps,ds,QW,h1,h2,h4,h5,h6,h7⟩:=F.ex;refine Gy (p:=p) h2 h7 (hr.mono hn) hg h1 h4 h5 h6 O (λa RN hp=>?_) ha RA he QF;unfold uB cX at hp
 split at hp
 .rename_i h;rwa [Vw] at h
 .exact(hp rfl).elim
end
def vC:Addr->Option Bool:=λ_=>none
def t_{P:Addr->Bool->Prop}:∀C b,vC C=some b->P C b:=λ_ _ h=>by cases h
def vr{pos:Pos}(i:Nat)(hN:autoParam (X.N[i]?=some x) aR._auto_1)(hv:AK X.env.scope x:=by first|exact .inl rfl|exact .inr (.inl rfl)|exact .inr (.inr rfl))(hd:autoParam ↑7 aD._auto_1)(QI:autoParam ↑6 aD._auto_1):PE X (.Name x pos) (tE E (aa i)):=JA hN hv hd QI
def Mn{env:Env}(h:(match e with|.Starred ..=>true|_=>false)=false):starEach (e::es) env=(false,eval e env)::starEach es env:=by
 cases e<;>first|rfl|cases h
section
variable{pos:Pos}
end
def Ca:PV->PV->M (List PV)
 | .lst xs,.int k=>cX (-(2^63)<=k/\k<2^63/\xs.length*k.toNat<=sizeLine) (M.ok (U6 k.toNat xs).flatten)
 |_,_=>none
def Lz(f g:af->M PV):af->M (List PV):=λenv=>(f env).bind λp=>(g env).bind λq=>Ca p q
section
variable{a b:Expr}{pos:Pos}{f g:af->M PV}
def Ka(ha:PE X a (tE E f))(hb:PE X b (tE E g)):PE X (.BinOp a .Mult b pos) (tO E (Lz f g)):=by
 refine(HY CN ha hb).imp fun σ H Q q=>cn (K:=KO Q) KO.gr q λB H₀ Hs H1 env p v sr rp hp=>?_;refine⟨B,H₀,Hs,env,sr,(aw.bind hp).imp (λq hq u P9 H' g' ru=>?_) λe he=>he⟩;have RI:=sr.grow g';have rp':=rp.mono g'.st;cases rp' with
 | @lst l xs vs ha hx=>cases ru with
  | int k =>
   obtain⟨⟨h1,h2,h3⟩,h⟩:=aw.cX hq;exact⟨l,k,vs,rfl,rfl,RI.gr.sub _ _ ha,h1,h2,by rwa[<- hx.length],λp n=>h _ p P9 H' g' (hx.rep _) n⟩
  | _=>exact hq.elim
 |_=>exact hq.elim
end
section
variable{E:XK}{pos p:Pos}{fl:Str}{fs:af->M (List PV)}
end
def Nn(i j:Nat)(env:af):List PV->M Out
 | [p,q]=>M.ok (.nx ((env.set i (some (.sh p))).set j (some (.sh q))))
 |_=>none
def Fv(i j:Nat)(fs:af->M (List PV)):af->M Out:=λenv=>(fs env).bind (Nn i j env)
def K1{E:XK}{a b:Expr}{fs:af->M (List PV)}{py pt pos:Pos}{kt:Nat}{T_:Pos}(hc:X.calm=true)(hN:X.N.Nodup)(hi:X.N[i]?=some x)(hj:X.N[j]?=some y)(TB:i≠j)(hx:X.env.scope.names.lookup x=some .local)(hy:X.env.scope.names.lookup y=some .local)(ha:PA X [a,b] (tL (λ_=>E) fs))(hw:swappedStores [.Tuple [.Name x px,.Name y py] kt pt] (.Tuple [a,b] k2 T_) X.env=pure (some [x,y]))(hs:autoParam (swapsWithSole [.Tuple [.Name x px,.Name y py] kt pt] (.Tuple [a,b] k2 T_) pos.line X.env=pure false) aR._auto_1):PS X (.Assign [.Tuple [.Name x px,.Name y py] kt pt] (.Tuple [a,b] k2 T_) pos) (tS E (Fv i j fs)):=by
 refine(Lu hc hN hi hj TB hx hy ha hw hs).imp λD σ H q=>Cj q λB H₀ Hs H1 env ps v sr rp hp=>?_
 match ps,rp,hp with
 | [],_,hp=>exact hp.elim
 | [_],_,hp=>exact hp.elim
 | _::_::_::_,_,hp=>exact hp.elim
 | [p,q],rp,hp =>
  obtain⟨v,u,rfl,r1,r2⟩:=rp.two;exact⟨v,u,rfl,hp _ Hs H1 ((sr.set r1).set r2)⟩
section
variable{pos:Pos}
end
section
variable{cl:List (Str×Addr)}{pos:Pos}{wi:TI}{it:af->M (List PV)}{g:TG}{set:PV->af->M af}{f:af->M PV}{fs:List Str}
variable{E:XK}{py Rv:Pos}
def uR(Qg:X.calm=true)(Qk:closureFor scope X.env=pure cl)(hk:scope.kind=.function)(nc:e8 scope.names=true)(lo:fO scope.names=true)(fh:fX cl scope.names=true)(ag:dJ X cl)(fr:gW X scope cl fs js)(hi:PI X tg iter wi)(hv:xp (λ_=>E) wi it)(hg:∀C s₀ H₀ ex PZ,PG (me X scope cl (ts++fs) C s₀ H₀ ex PZ) tg g)(Sn:∀E,Et E g set)(so:l5 set)(he:∀C s₀ H₀ ex PZ,PE (me X scope cl (ts++fs) C s₀ H₀ ex PZ) elt (tE EF f))(hN:X.N.Nodup)(TU:X.N[i]?=some y)(hy:Loc X.env.scope y)(hs:autoParam ↑5 aI._auto_1)(To:autoParam (swapsWith (.ListComp elt [⟨tg,iter,[],0⟩] scope pos) (some (.Name y py)) Rv.line X.env=pure true) aR._auto_1)(hf:autoParam (X.fn y=true\/X.env.scope.names.lookup y=some .local) aF._auto_1):PS X (.Assign [.Name y py] (.ListComp elt [⟨tg,iter,[],0⟩] scope pos) Rv) (tS E (bo i (bQ (bN it set none f ts.length js)))):=by
 refine(Ge hN TU hy Qg Qk hk nc lo fh ag fr hi hg he hs To hf).imp λD σ H q=>?_;refine vZ hv Sn so ?_;obtain⟨B,H₀,Hs,env,sr,q⟩:=q;refine⟨B,H₀,Hs,env,sr,(aw.bind (aw.bind q)).imp (λps hp vs p P9 H' g r n=>?_) λe he=>he.grow sr.gr⟩;have gn:=bj.new (o:=.lst vs) g.sub n;exact hp _ _ _ ((sr.grow (g.trans gn)).set (.lst aH (r.mono gn.st)))
end
section
variable{a:Expr}{ta:TA}{p pos:Pos}
end
section
variable{fs:af->M (List PV)}{a:Expr}{p p2 pos pos2:Pos}
end
section
open AutoSeq1 (wpAny_loadPart')
def zB(l:Addr)(items:Array Value)(n:Nat)(nB:Option Addr)(sl:Array (Option Value)):Meets (Builtin.«enumerate.__new__» ⟨[.type "enumerate",.ref l],[]⟩) (λ_ R s=>s.heap.get? l=some { cls:=.type "tuple",dict:=nB,data:=.seq items n,slots:=sl } ∧R (.ok (.ret (.ref (s.heap.push { cls:=.type "tuple_iterator",data:=.fields #[.ref l,.int 0 0] }).objs.size))) { s with heap:=(s.heap.push { cls:=.type "tuple_iterator",data:=.fields #[.ref l,.int 0 0] }).push { cls:=.type "enumerate",data:=.fields #[.none,.bool false,.ref s.heap.objs.size,rawInt 0,.none,.none] } }) :=
 .of_wp λprog w A R s h=>by
  obtain⟨hp,g,d,tk,os⟩:=s;obtain⟨hl,h⟩:=h;have UL:=sub_enumerate;have hL:Heap.IsTuple (ZS ⟨hp,g,d,tk,os⟩) l items:=⟨_,hl,rfl,n,rfl⟩
  wp_walk using Yz hl
  refine wpAny_stack_any λst=>U7 ?_
  split
  .rename_i c _ _ _ _ _;cases (c==WD "enumerate")
   .wp_walk using Yz hl,XQ hL
    exact⟨_,rfl,h⟩
   .wp_walk using Yz hl,XQ hL
    exact⟨_,rfl,h⟩
  .wp_walk using Yz hl,XQ hL
   exact⟨_,rfl,h⟩
section
variable{E:Value->Shared->Prop}
def xC(hL:s.heap.IsTuple l items)(h:∀h',IsEnum h' (s.heap.objs.size+1) s.heap.objs.size 0 .none->h'.IsTupleIter s.heap.objs.size l 0->h'.objs.size=s.heap.objs.size+2 ->(∀b o,s.heap.get? b=some o->h'.get? b=some o)->Q (.ref (s.heap.objs.size+1)) { s with heap:=h' }):wpAny ↑11 A (call (.type "enumerate") [.ref l]) Q E s:=by
 obtain⟨⟨c,nB,dt,sl⟩,hl,hc,n,hd⟩:=hL
 replace hc:c=.type "tuple" := hc
 replace hd:dt=.seq items n:=hd
 subst hc hd;refine acD F.called_enumerate ↑12 (F.typeCall_enumerate_1 _) (F.newCall_enumerate_1 _) (λobj=>F.args_object_init_2 obj _) F.entry_enumerate_new
  (zB l items n nB sl) ⟨hl,?_⟩
 have hz:(s.heap.push { cls:=.type "tuple_iterator",data:=.fields #[.ref l,.int 0 0] }).objs.size=s.heap.objs.size+1:=V5 ..;show _/\_;rw[hz];have he:IsEnum ((s.heap.push { cls:=.type "tuple_iterator",data:=.fields #[.ref l,.int 0 0] }).push
   { cls:=.type "enumerate",data:=.fields #[.none,.bool false,.ref s.heap.objs.size,rawInt 0,.none,.none] }) (s.heap.objs.size+1) s.heap.objs.size 0 .none:=by
  have:=U_ (s.heap.push { cls:=.type "tuple_iterator",data:=.fields #[.ref l,.int 0 0] })
   (o:={ cls:=.type "enumerate",data:=.fields #[.none,.bool false,.ref s.heap.objs.size,rawInt 0,.none,.none] }) rfl
  rwa[hz] at this
 refine⟨⟨_,he,rfl⟩,h _ he ⟨_,U3 _ (U_ _ rfl),rfl,rfl⟩ (by rw[V5,hz]) λb o x=>U3 _ (U3 _ x)⟩
end
def KR(hh:A.handled=none)(it t:Addr)(items:Array Value):Draws prog w A it [it,t] items.size (λi v=>items[i]?=some v) (λi h=>h.IsTupleIter it t i/\h.IsTuple t items) where
 live:=λ_ _ st=>let ⟨⟨o,ho,_⟩,_⟩:=st;⟨o,ho⟩
 frame:=λ_ _ _ st hk=>by
  obtain⟨⟨o,ho,r⟩,⟨o2,R3,r2⟩⟩:=st;exact⟨⟨o,hk it ↑13 o ho,r⟩,⟨o2,hk t ↑13 o2 R3,r2⟩⟩
 item:=λi s Q E hi st hQ=>by
  obtain⟨st,tt⟩:=st;refine ij st tt (x:=items[i]) (by simp[hi]) λh' TR RY=>?_;refine hQ _ h' s.toks (by simp[hi]) ⟨TR,?_⟩ RY;obtain⟨o,ho,c1,_⟩:=st;obtain⟨o2,R3,c2,r2⟩:=tt;refine⟨o2,(RY.2 t λz=>?_).trans R3,c2,r2⟩;rw[z,ho] at R3;cases R3;rw[c1] at c2;exact absurd c2 ↑12
 done:=λs Q E st hE=>fj hh st.1 st.2 ↑13 hE
def Lf (K : U5)(a : Addr) : It :=
  ⟨λi H => ∃xs x,gm K H a xs /\ xs[i]? = some x,
   λi H y H' => ∃p x,H p=none /\ y=.ref p /\ H'=upd H p (.tup [.int i,x]) /\ ∀xs,gm K H a xs -> xs[i]? = some x,
   λi H => ∃xs,gm K H a xs /\ xs.length <= i⟩
theorem xt{K:U5}{tp:Pos}(a e it:Addr)(Se:e≠it):Turn P w K (.Tuple elts x1 tp) (Lf K a) [e,it] e (λi h=>(∃old,IsEnum h e it i old)/\h.IsTupleIter it a i) where
 mem:=by simp
 obj:=λi h st b hb=>by
  obtain⟨⟨old,he⟩,⟨o,e1,c,d⟩⟩:=st;rcases Vn.mp hb with z|z
  .subst z;exact⟨_,he,λv z=>by cases z⟩
  .have z':b=it:=by simpa using z
   subst z';exact⟨o,e1,λv z=>by rw[d] at z;cases z⟩
 keep:=λi h h' st k=>by
  obtain⟨⟨old,he⟩,⟨o,ho,r⟩⟩:=st;exact⟨⟨old,k e ↑13 _ he⟩,⟨o,k it ↑13 o ho,r⟩⟩
 item:=by
  intro X hP hw hK hc i PZ s σ H E I hf st hg;subst hP hw hK;obtain⟨xs,x,hq,hx⟩:=hg;obtain⟨P7,rv,p,hz⟩:=I.tuple hq;obtain⟨u,hu,ru⟩:=rv.get hx;obtain⟨⟨old,he⟩,hit⟩:=st;have SE:e<s.heap.objs.size:=Vb he;have TQ:it<s.heap.objs.size:=by obtain⟨_,z,_⟩:=hit;exact Vb z
  have hea:e ∉ [it,a]:=λz=>by
   rcases Vn.mp z with z|z
   .exact Se z
   .obtain⟨o,ho,c,_⟩:=p;rw[<- Vs.mp z,he] at ho;cases ho;exact absurd (show WD "enumerate"=WD "tuple" from c) ↑12
  have Ss:i<P7.toArray.size:=by
   have:=(VI.mp hu).1;simpa using this
  refine wpAny_pyNext_enum_itemD (KR (A:=X.A.in1) (I.ok.hd hc) it a P7.toArray) he ⟨hit,p⟩ Ss Se hea λu' h' tk hu' ho QQ hT hsz hk=>⟨_,rfl,?_⟩
  have eu:u'=u:=by
   rw[abE,hu] at hu';exact(Vk hu').symm
  subst eu;refine aal (s:={ s with heap:=h',toks:=tk+1 }) ho λh2 he2 Rx=>?_;have SQ:∀b o,b ∉ [e,it]->s.heap.get? b=some o->h2.get? b=some o:=λb o hb q=>by
   have n1:b≠e:=λz=>hb (by simp[z]);have n2:b≠it:=λz=>hb (by simp[z]);exact(Rx.2 b n1).trans (hk b o n1 n2 q)
  have Ta:h2.get? s.heap.objs.size=some { cls:=.type "tuple",data:=.seq #[.int i tk,u'] }:=(Rx.2 _ (WX SE)).trans hT;have I2:Inv X PZ σ (upd H s.heap.objs.size (.tup [.int i,x])) { s with heap:=h2,toks:=tk+1 } :=
   I.kc (ch:=[e,it]) SQ hf (U9 _) (λb hb=>by
    rcases Vn.mp hb with z|z
    .subst z;exact⟨_,he⟩
    .have z':b=it:=by simpa using z
     subst z';obtain⟨o,z,_⟩:=hit;exact⟨o,z⟩)
    ⟨by show 2<=sizeLine;decide,[.int i tk,u'],.cons ⟨_,rfl⟩ (.cons ru .nil),⟨_,Ta,rfl,_,rfl⟩⟩
  have Ru:H s.heap.objs.size=none:=I.bJ.fresh (U9 _);obtain⟨oi,hoi,ri⟩:=QQ.1;refine⟨.ref s.heap.objs.size,_,I2,rfl,⟨_,x,Ru,rfl,rfl,λys hy=>by rwa[I.mP hy hq]⟩,⟨⟨u',by simpa using he2⟩,⟨oi,(Rx.2 it (WW Se)).trans hoi,ri⟩⟩,λb hb=>?_⟩;have nb:b≠s.heap.objs.size:=by
   rcases Vn.mp hb with z|z
   .rw[z];exact Vm SE
   .have z':b=it:=by simpa using z
    rw[z'];exact Vm TQ
  rw[aB nb];exact(hf b hb).1
 done:=by
  intro X hP hw hK hc i PZ s σ H E I hf st hg;subst hP hw hK;obtain⟨xs,hq,hx⟩:=hg;obtain⟨P7,rv,p,hz⟩:=I.tuple hq;have hl:=rv.length;obtain⟨⟨old,he⟩,hit⟩:=st;obtain⟨f0,f1,f2,f3,f4,f5⟩:=hf it ↑13;have hT:s.TypeIs (.ref e) "enumerate" := ⟨_,he,rfl⟩
  unfold pyNext;refine TZ (Xq (VY (name:=VS "__next__") hT F.slot_enumerate_next
   (Wb F.slot_enumerate_next hT F.entry_enumerate_next ?_ (F.args_enumerate_next_1 _))))
  show wpAny _ _ (field (.ref e) 2 >>= _) _ _ _;refine TZ (VO he rfl (x:=.ref it) rfl ?_);refine TZ (fj (I.ok.hd hc) hit p (by simp;lia) λh' x he' UM=>?_);obtain⟨o,ho,Tc⟩:=UM;refine TZ (YO (T := "StopIteration") (b:=true) ⟨o,ho,Tc⟩ aam ?_);exact U7 ⟨rfl,I.turned (t':=s.toks) (λb o hb e=>he' b o hb e) f0 f1 f3 f4 f5⟩
 self:=λ_ _ _ _ _ st h=>by
  obtain⟨⟨old,he⟩,_⟩:=st;exact Zq he h
def L8(K:U5)(tl:TA):TI:=fun σ H R=>tl σ H λvs H1=>∃a,vs=[.ref a]/\(((∃xs,gR K H1 a xs)/\R (J7 K a) H1)\/((∃xs,gm K H1 a xs)/\R (Lf K a) H1))
def mi{tp:Pos}{l:Expr}{p pos:Pos}(hg:Gl X "enumerate")(hm:X.mg "enumerate"=none)(hl:PA X [l] tl)(hs:autoParam (starEach [l] X.env=[(false,eval l X.env)]) aR._auto_1):PI X (.Tuple elts x1 tp) (.Call (.Name "enumerate" p) [l] [] pos) (L8 X.K tl):=by
 intro PZ s σ H R I h;refine Call_ (iW I hg hm PyProof.Rows.boot_enumerate (Wj (cF (hl pos PZ s σ H _ I h) λus s1 ⟨vs,H1,I1,r1,q1⟩=>?_) hs rfl));obtain⟨a,e,q⟩:=q1;subst e;cases r1 with
 | cons r rr =>
  cases rr;cases (show _=Vf a from r);have fp:∀b∈[s1.heap.objs.size+1,s1.heap.objs.size],lh X PZ H1 b:=λb hb=>by
   rcases Vn.mp hb with z|z
   .subst z;exact I1.qS (ZQ _) (I1.bJ.fresh (ZQ _))
   .have z':b=s1.heap.objs.size:=by simpa using z
    subst z';exact I1.qS (U9 _) (I1.bJ.fresh (U9 _))
  rcases q with ⟨⟨xs,hq⟩,q⟩|⟨⟨xs,hq⟩,q⟩
  .obtain⟨P7,rv,pl,hz⟩:=I1.list hq;refine call_enumerate_list pl.isList λh' he hit hsz hk=>?_;refine Zq (s:={ s1 with heap:=h' }) he ?_;exact⟨s1.heap.objs.size+1,[s1.heap.objs.size+1,s1.heap.objs.size],_,_,H1,rfl,I1.kept (t':=s1.toks) hk,zH a _ _ (aaV _),⟨⟨_,he⟩,hit⟩,fp,q⟩
  .obtain⟨P7,rv,pl,hz⟩:=I1.tuple hq;refine xC pl λh' he hit hsz hk=>?_;refine Zq (s:={ s1 with heap:=h' }) he ?_;exact⟨s1.heap.objs.size+1,[s1.heap.objs.size+1,s1.heap.objs.size],_,_,H1,rfl,I1.kept (t':=s1.toks) hk,xt a _ _ (aaV _),⟨⟨_,he⟩,hit⟩,fp,q⟩
def Oy(p:PV):M (List PV):=match bL p with
 | some xs=>M.ok (h9 xs)
 |none=>none
def EU:List PV->M (List PV)
 | [p]=>Oy p
 |_=>none
section
variable{K:U5}{fs:af->M (List PV)}
def CW{a:Addr}(hq:∀P9 H',bb Qc P9->bb P9 H'->gm K H' a vs)(hr:aL Qc xs vs):jn (Lf K a) Qc (h9 xs) where
 stop:=λi Hs H s1 s2 hi=>by
  unfold h9 at hi;rw[XR,hr.length] at hi;exact⟨vs,hq Hs H s1 s2,hi⟩
 go:=λi Hs H s1 s2 hi=>by
  unfold h9 at hi;rw[XR] at hi;obtain⟨v,e,_⟩:=hr.get (U4 hi);exact⟨vs,v,hq Hs H s1 s2,e⟩
 vd:=λi Hs H x H2 s1 s2 hi y=>by
  unfold h9 at hi;rw[XR] at hi;obtain⟨v,e,r⟩:=hr.get (U4 hi);obtain⟨pa,v',hn,rfl,rfl,y1⟩:=y;have z1:=y1 vs (hq Hs H s1 s2);rw[e] at z1;cases z1;have gr:=bj.new (o:=.tup [.int (i:Nat),v]) s2 hn;refine⟨.tup [.int (i:Nat),xs[i]],_,?_,gr,.tup aH (.cons (.int _) (.cons ((r.mono s1).mono gr.st) .nil))⟩;unfold h9;rw[abS,U4 hi];rfl
def kj:xp E (L8 K (tL E fs)) (jE EU fs):=by
 intro σ H R q;refine cN (K:=KI R) KI.g q λB H₀ Hs H1 env ps v sr rp hp=>?_
 match ps,rp,hp with
 | [],_,hp=>exact hp.elim
 | _::_::_,_,hp=>exact hp.elim
 | [p],rp,hp =>
  obtain⟨w,rfl,RO⟩:=rp.one;cases RO with
  | lst ha hx=>exact⟨_,rfl,.inl ⟨⟨_,gR.of (sr.gr.sub _ _ ha)⟩,hp _ Hs H1 (.refl sr.gr.sub) (sP (λP9 H' s1 s2=>gR.of (s2 _ _ (s1 _ _ ha))) hx)⟩⟩
  | jX ha hx=>exact⟨_,rfl,.inl ⟨⟨_,.inl (.inr ⟨_,sr.gr.sub _ _ ha⟩)⟩,hp _ Hs H1 (.refl sr.gr.sub) (sP (λP9 H' s1 s2=>.inl (.inr ⟨_,s2 _ _ (s1 _ _ ha)⟩)) hx)⟩⟩
  | tup ha hx=>exact⟨_,rfl,.inr ⟨⟨_,gm.of (sr.gr.sub _ _ ha)⟩,hp _ Hs H1 (.refl sr.gr.sub) (CW (λP9 H' s1 s2=>gm.of (s2 _ _ (s1 _ _ ha))) hx)⟩⟩
  |_=>exact hp.elim
end
end
section
variable{pos:Pos}{f:af->M PV}
end
section
variable{pos:Pos}{f:af->M PV}
end
section
variable{S1:List (Addr×Obj)}{ea:Addr}
end
section
variable{B:Hp}{ea:Addr}{E:XK}{env:af}{fo:Option (List (Str×PV))}{D:Ends}{F:Value->Shared->Prop}
end
section
variable{pos p pt:Pos}{f:af->M PV}{ys ns yo no:List Addr}
end
section
variable{pos:Pos}{f g:af->M PV}
end
section
open PySem PySem.Spec PyProof.Rows _root_.HT
section
variable{E:Value->Shared->Prop}
def lG{t sl:Addr}{vl vu:Value}{lo hi:Option Int}(ht:IsTup s.heap t items)(hs:s.heap.IsSliceOf sl vl vu .none)(pl:IsPart vl lo)(pu:IsPart vu hi)(hw:da items.size 0 lo=0/\da items.size items.size hi=items.size)(h:Q (.ref t) s):wpAny ↑11 A (getItem (.ref t) (.ref sl)) Q E s:=by
 obtain⟨os,T3,hcs,Uy⟩:=id hs;have hTs:s.TypeIs (.ref sl) "slice" := ⟨os,T3,hcs⟩
 unfold getItem
 try with_reducible refine Wx ?_
 first|refine TZ (U7 ?_)|skip
 refine TZ (wpAny_sequenceKey ht.typeIs ↑12 ?_);refine TZ (VY (name:=VS "__getitem__") ht.typeIs Wm
  (Wb Wm ht.typeIs entry_tuple_getitem ?_ (args_tuple_getitem _ _)))
 show wpAny _ _ (aaj (.ref t) >>= _) _ _ s;refine TZ (tupleItemsOf_ ht ?_);refine TZ (Zp hTs ?_);rw[if_pos ↑12];refine TZ (iR hs pl pu ?_);have hyes:(((da items.size 0 lo:Nat):Int)==0&&(1:Int)==1&&(da items.size items.size hi-da items.size 0 lo)==items.size)=true:=by
  rw[hw.1,hw.2];simp
 show wpAny _ _ (if (((da items.size 0 lo:Nat):Int)==0&&(1:Int)==1&&(da items.size items.size hi-da items.size 0 lo)==items.size)=true then _ else _) _ _ s;rw[if_pos hyes];unfold Builtin.Tuple.tupleIsExact;refine TZ (TZ (Zp ht.typeIs (U7 ?_)));rw[if_pos (show ((WD "tuple" == WD "tuple")=true) from beq_self_eq_true _)];refine TZ (Xb ?_)
 first
  | exact TZ (U7 (U7 ⟨_,rfl,U7 h⟩))
  | exact TZ (U7 ⟨_,rfl,U7 h⟩)
  |exact U7 ⟨_,rfl,U7 h⟩
end
section
variable{lo hi:Option Expr}{pos p2:Pos}{f:af->M PV}{gl gh:af->M (Option Int)}
def OH(K:U5):V->Option Int->Option Int->Hp->VK->Prop:=λx lo hi H Q=>∃a xs,x=.ref a/\gm K H a xs/\(da xs.length 0 lo=0/\da xs.length xs.length hi=xs.length)/\Q (.ref a) H
def FC:EW X (OH X.K):=by
 intro PZ s σ H x v vl vu lo hi sl Q I rx hs pl pu h;obtain⟨a,xs,rfl,hx,hw,q⟩:=h;cases rx;obtain⟨P7,r,ht,hz⟩:=I.tuple hx;have hlen:P7.toArray.size=xs.length:=by rw[Vg];exact r.length.symm
 refine⟨"tuple",_,Wm.lookup,ht.typeIs,?_⟩;exact lG ht hs pl pu (by rwa[hlen]) ⟨.ref a,H,I,rfl,q⟩
def M_(p:PV)(lo hi:Option Int):M PV:=match p with
 | .tup xs=>M.ok (.tup (nO xs lo hi))
 | .lst xs=>M.ok (.lst (nO xs lo hi))
 | .jX xs=>M.ok (.lst (nO xs lo hi))
 |_=>none
def m9(f:af->M PV)(lo hi:af->M (Option Int)):af->M PV:=λenv=>(f env).bind λp=>(lo env).bind λl=>(hi env).bind λh=>M_ p l h
def sv(he:PE X e (tE E f))(hl:PO X lo (NM E gl))(hh:PO X hi (NM E gh)):PE X (.Subscript e (.Slice lo hi none p2) pos) (tE E (m9 f gl gh)):=by
 refine(DF (EW.or Ks (EW.or FC Gu)) he hl hh).imp fun σ H Q q=>cn (K:=ku Q) ku.g q λB H₀ Hs H1 env p v sr rp hp=>?_;refine⟨B,H₀,Hs,env,sr,(aw.bind hp).imp (λl hl Qb H2 g2=>?_) λe he=>he⟩;have QA:=sr.grow g2;refine⟨B,H₀,Qb,env,QA,(aw.bind hl).imp (λh hh RP H3 g3=>?_) λe he=>he.grow g2⟩;have R7:=QA.grow g3;have hz:aw (M_ p l h) (eN RP H3 Q) (λ_=>True):=hh.imp (λz hz w Hs4 H4 g4 r=>hz w Hs4 H4 ((g2.trans g3).trans g4) r) λ_ _=>trivial;have rp3:=(rp.mono g2.st).mono g3.st;cases rp3 with
 | @tup a xs vs ha hx =>
  by_cases hn:da xs.length 0 l=0/\da xs.length xs.length h=xs.length
  .refine .inr (.inl ⟨_,_,rfl,gm.of (R7.gr.sub _ _ ha),by rwa[<- hx.length],?_⟩);have e:nO xs l h=xs:=by
    unfold nO;rw[hn.1,hn.2,List.drop_zero,acE,Xk]
   have S7:eN RP H3 Q (.tup xs):=by
    have z:eN RP H3 Q (.tup (nO xs l h)):=hz;rwa[e] at z
   exact eN.flat S7 R7.gr.sub (.tup ha hx)
  .exact .inl ⟨_,_,rfl,gm.of (R7.gr.sub _ _ ha),by rwa[<- hx.length],eN.tup hz R7.gr.sub (hx.cut l h)⟩
 | lst ha hx=>exact .inr (.inr ⟨_,_,rfl,gR.of (R7.gr.sub _ _ ha),eN.lst hz R7.gr.sub (hx.cut l h)⟩)
 | jX ha hx=>exact .inr (.inr ⟨_,_,rfl,.inl (.inr ⟨_,R7.gr.sub _ _ ha⟩),eN.lst hz R7.gr.sub (hx.cut l h)⟩)
 |_=>exact hz.elim
end
end
section
variable{pos:Pos}{g:af->M PV}{fs:af->M (List PV)}{L:List (Addr×(List PV->M PV))}{K:U5}
end
section
open PySem.SeqAt (shaped EqAt RcAt RcNeAt)
section
variable{a b:Addr}
end
end
end L2
namespace HT
open PySem PyProof.Rows
variable{E:Value->Shared->Prop}{A:Around}{w:World}{prog:Program}
section
variable{a b v:Value}{k:Bool}{I S ax:Addr}{t:Shared}{n:Nat}{R:Result->Shared->Prop}
end
section
open PySem.SeqAt
open PySem.AutoSeq1 (wpAny_loadPart')
open PySem.MeetsSeq PySem.MeetsSeq2 PySem.MeetsSeq3
end
section
variable{s:Shared}
end
end HT
namespace L2
open PySem PySem.Spec PyProof.Rows
def yq{xs:List PV}:∀{ns:List Int},lW xs=some ns->xs=ns.map PV.int:=by
 induction xs with
 | nil=>intro ns h;cases h;rfl
 | cons p r ih =>
  intro ns h;cases p with
  | int i =>
   obtain⟨m,e,rfl⟩:=VB.mp (show (lW r).map (i::·)=some ns from h);rw[ih e];rfl
  |_=>cases h
def Ci:PV->Option (List Int)
 | .tup xs=>lW xs
 |_=>none
variable{E:St->XK}{X:Cx}
def zK{Hs:Hp}{p:PV}{v:V}{ns:List Int}(r:Rep Hs p v)(h:Ci p=some ns):∃a,v=.ref a/\Hs a=some (.tup (ns.map V.int)):=by
 cases r with
 | tup ht hx =>
  have e:=yq (show lW _=some ns from h);subst e;rw[hx.ints] at ht;exact⟨_,rfl,ht⟩
 |_=>cases h
variable{js:List Nat}{ts:List Str}{f:af->M PV}{it:af->M (List PV)}{wi:TI}{scope:Scope}
variable{y:Str}{i:Nat}
section
variable{tg elt iter c:Expr}{cl:List (Str×Addr)}{pos:Pos}{g:TG}{set:PV->af->M af}{fs:List Str}
variable{E:XK}{py Rv:Pos}
end
def EO{tg elt iter c:Expr}{cl:List (Str×Addr)}{pos Rv py:Pos}{g:TG}{t:TT}{te:TE}{fs:List Str}(hN:X.N.Nodup)(TU:X.N[i]?=some y)(hy:Loc X.env.scope y)(Qg:X.calm=true)(Qk:closureFor scope X.env=pure cl)(hk:scope.kind=.function)(nc:e8 scope.names=true)(lo:fO scope.names=true)(fh:fX cl scope.names=true)(ag:dJ X cl)(fr:gW X scope cl fs js)(hi:PI X tg iter wi)(hg:∀C s₀ H₀ ex PZ,PG (me X scope cl (ts++fs) C s₀ H₀ ex PZ) tg g)(ht:∀C s₀ H₀ ex PZ,PT (me X scope cl (ts++fs) C s₀ H₀ ex PZ) c t)(he:∀C s₀ H₀ ex PZ,PE (me X scope cl (ts++fs) C s₀ H₀ ex PZ) elt te)(hs:autoParam ↑5 aI._auto_1)(To:autoParam (swapsWith (.ListComp elt [⟨tg,iter,[c],0⟩] scope pos) (some (.Name y py)) Rv.line X.env=pure true) aR._auto_1)(hf:autoParam (X.fn y=true\/X.env.scope.names.lookup y=some .local) aF._auto_1):PS X (.Assign [.Name y py] (.ListComp elt [⟨tg,iter,[c],0⟩] scope pos) Rv) (G2 (yj wi g t te ts js) (aJ i)):=by
 intro PZ s σ H D I h;rw[abC _ _ _ _ To];refine TZ (ZK (TZ ?_));show wpAny _ X.A (do let _ <- comprehension (.ListComp elt [⟨tg,iter,[c],0⟩] scope pos) scope X.env _ (newList []) false (eval iter X.env) (some (assign (.Name y py) X.env))) _ _ s;refine TZ (Xi (pf (ifs:=[c]) (tt:=some t) Qg Qk hk nc lo fh ag fr hi hg ht he hs I (show yx wi g (some t) te ts js σ H (λx H1=>D.nx (σ.set i (some x)) H1) from h) (some (assign (.Name y py) X.env)) (λ_ s'=>SP X PZ D .next s') λDd H' s' C Io q hm f=>?_) (λ_ s' hq=>U7 (U7 hq)) λ_ _ e=>e);show wpAny _ X.A (assign (.Name y py) X.env (.ref Dd)) _ _ s';refine aaC (mL Io hN TU hy (v:=.ref Dd) rfl (λUZ I'' ⟨a,sb,ha⟩=>?_) hf);obtain⟨m,hn⟩:=hm;obtain⟨f0,f1,f2,f3,f4,f5⟩:=f;have naC:a≠C:=by
  rcases ha with z|z
  .rw[z];exact λw=>f1 w.symm
  .exact f4 y a z
 refine⟨m,hn.sameBut sb (WW naC),λh' RY=>?_⟩;exact⟨_,H',I''.other ⟨f0,f1,f2,f3,f4,f5⟩ RY,q⟩
section
variable{tg elt iter c:Expr}{cl:List (Str×Addr)}{pos:Pos}{g:TG}{set:PV->af->M af}{u:af->M Bool}{fs:List Str}
variable{E:XK}{py Rv:Pos}
def wN(Qg:X.calm=true)(Qk:closureFor scope X.env=pure cl)(hk:scope.kind=.function)(nc:e8 scope.names=true)(lo:fO scope.names=true)(fh:fX cl scope.names=true)(ag:dJ X cl)(fr:gW X scope cl fs js)(hi:PI X tg iter wi)(hv:xp (λ_=>E) wi it)(hg:∀C s₀ H₀ ex PZ,PG (me X scope cl (ts++fs) C s₀ H₀ ex PZ) tg g)(Sn:∀E,Et E g set)(so:l5 set)(ht:∀C s₀ H₀ ex PZ,PT (me X scope cl (ts++fs) C s₀ H₀ ex PZ) c (tT EF u))(he:∀C s₀ H₀ ex PZ,PE (me X scope cl (ts++fs) C s₀ H₀ ex PZ) elt (tE EF f))(hN:X.N.Nodup)(TU:X.N[i]?=some y)(hy:Loc X.env.scope y)(hs:autoParam ↑5 aI._auto_1)(To:autoParam (swapsWith (.ListComp elt [⟨tg,iter,[c],0⟩] scope pos) (some (.Name y py)) Rv.line X.env=pure true) aR._auto_1)(hf:autoParam (X.fn y=true\/X.env.scope.names.lookup y=some .local) aF._auto_1):PS X (.Assign [.Name y py] (.ListComp elt [⟨tg,iter,[c],0⟩] scope pos) Rv) (tS E (bo i (bQ (bN it set (some u) f ts.length js)))):=by
 refine(EO hN TU hy Qg Qk hk nc lo fh ag fr hi hg ht he hs To hf).imp λD σ H q=>?_;refine vL hv Sn so ?_;obtain⟨B,H₀,Hs,env,sr,q⟩:=q;refine⟨B,H₀,Hs,env,sr,(aw.bind (aw.bind q)).imp (λps hp vs p P9 H' g r n=>?_) λe he=>he.grow sr.gr⟩;have gn:=bj.new (o:=.lst vs) g.sub n;exact hp _ _ _ ((sr.grow (g.trans gn)).set (.lst aH (r.mono gn.st)))
end
section
variable{o:Expr}{apos Qj:Pos}
end
section
open PySem.SeqAt (shaped)
end
end L2
local macro_rules|`(tactic| walk_at "u1")=>`(tactic| unfold $(Lean.mkIdent (Lean.mkPrivateNameCore `PySem.Builtin.List.W1All `PySem.Builtin.gallop)):ident)
namespace Srt
open PySem PyProof.Rows
def ky(κ:KeyKind)(p:Keyed):κ.α:=(κ.keyOf p.1).getD κ.dflt
def kL(κ:KeyKind)(p:Keyed):Prop:=∃a,κ.keyOf p.1=some a
def le(κ:KeyKind)(p q:Keyed):Prop:=κ.kle (ky κ p) (ky κ q)
structure kZ (prog:Program) (w:World) (A:Around) (s:Shared) (κ:KeyKind) (k:SortKind):Prop where
 lt:∀(E:Value->Shared->Prop)(x y:Value)(a b:κ.α){Q:Bool->Shared->Prop},κ.keyOf x=some a->κ.keyOf y=some b->Q (κ.blt a b) s->wpAny ↑11 A (keyLt' k x y) Q E s
def Nm:Bool->Keyed->Array Keyed->Nat->Nat->Nat->StateT SortSt Sem (Option Nat):=sortPriv% PySem.Builtin.gallop
variable{Q:Option Bool->SortSt->Prop}
variable{arr:Array Keyed}
section
variable{prog:Program}{w:World}{A:Around}{E:Value->Shared->Prop}{s:Shared}{κ:KeyKind}{k:SortKind}
def vN(hA:kZ prog w A s κ k){st:SortSt}{x y:Keyed}(hk:kindOf st=k)(hx:kL κ x)(hy:kL κ y)(h:Q (some (κ.blt (ky κ x) (ky κ y))) st):wpS ↑11 A E s (lt' x y) Q st:=by
 obtain⟨a,ha⟩:=hx;obtain⟨b,hb⟩:=hy;rw[lt'_eq];refine Vc (aaa ?_);rw[hk];refine Vc (aaW (Xq (hA.lt _ _ _ a b ha hb ⟨rfl,?_⟩)));simp only[ky,ha,hb,W8] at h;exact Vj h
def bI{st:SortSt}{i:Nat}{p:Keyed}{Q:Keyed->SortSt->Prop}(hi:arr[i]?=some p)(h:Q p st):wpS ↑11 A E s (elem' arr i) Q st:=by
 rw[elem'_eq,hi];exact Vj h
def Gn(hA:kZ prog w A s κ k){st:SortSt}{i j:Nat}{x y:Keyed}(hk:kindOf st=k)(hi:(arrOf st)[i]?=some x)(hj:(arrOf st)[j]?=some y)(hx:kL κ x)(hy:kL κ y)(h:Q (some (κ.blt (ky κ x) (ky κ y))) st):wpS ↑11 A E s (ltAt' i j) Q st:=by
 rw[ltAt'_eq];refine Vc (aaa ?_);refine Vc (bI hi (Vc (bI hj ?_)));exact vN hA hk hx hy h
theorem IV(hA:kZ prog w A s κ k){left:Bool}{key:Keyed}{base n hint:Nat}{st:SortSt}{Q:Option Nat->SortSt->Prop}(hk:kindOf st=k)(RM:kL κ key)(hb:base+n<=arr.size)(RS:∀p∈arr.toList,kL κ p)(hh:hint<n)(Rn:Nat->Bool)(hbey:∀i p,i<n->arr[base+i]?=some p->Rn i=if left then κ.blt (ky κ p) (ky κ key) else !κ.blt (ky κ key) (ky κ p))(mono:∀i j,i<=j->j<n->Rn j=true->Rn i=true)(h:∀m,m<=n->(∀i,i<m->Rn i=true)->(∀i,m<=i->i<n->Rn i=false)->Q (some m) st):wpS ↑11 A E s (Nm left key arr base n hint) Q st:=by
 have B:∀i,i<n->∀{Q':Option Bool->SortSt->Prop},Q' (some (Rn i)) st ->
   wpS ↑11 A E s (do let x <- elem' arr (base+i);if left=true then lt' x key else do let r <- lt' key x;pure (Option.map (λx=>!x) r)) Q' st:=by
  intro i hi Q' hq;have hs:base+i<arr.size:=by lia
  have e:arr[base+i]?=some arr[base+i]:=getElem?_pos arr _ hs;have hp:kL κ arr[base+i]:=RS _ ↑13;refine Vc (bI e ?_);have hv:=hbey i _ hi e;cases left
  .simp only[V7,if_false] at hv ⊢;refine Vc (vN hA hk RM hp (Vj ?_));rwa[hv] at hq
  .simp only[if_true] at hv ⊢;refine vN hA hk hp RM ?_;rwa[hv] at hq
 have SW:∀i j,i<=j->j<n->Rn i=false->Rn j=false:=by
  intro i j TB hj hi;cases hbj:Rn j
  .rfl
  .rw[mono i j TB hj hbj] at hi;exact hi
 unfold Nm;walk_at "u1";refine Vc (B hint hh ?_);dsimp only;cases hbh:Rn hint
 case' false =>
  rw[if_neg ↑13];refine Vc (XS (Xr (I:=λx c P8=>P8=st/\∃l o,c=(none,l,o)/\l<o/\x+1<=o/\l<=hint/\Rn (hint-l)=false)
   (Q:=λc P8=>P8=st/\∃l o,c=(none,l,o)/\l<o/\l<=hint/\Rn (hint-l)=false/\(o<=hint->Rn (hint-o)=true)) ?s1 ?f1 ⟨rfl,0,1,rfl,by lia,by lia,by lia,hbh⟩) ?p1)
  case f1 =>
   rintro c P8 ⟨rfl,l,o,rfl,h1,h2,h3,h4⟩;exact⟨rfl,l,o,rfl,h1,h3,h4,λh=>absurd h ⋯⟩
  case s1 =>
   rintro x c P8 _ hx ⟨rfl,l,o,rfl,h1,h2,h3,h4⟩;dsimp only
   split
   .exact Vj ⟨rfl,l,o,rfl,h1,h3,h4,λh=>absurd h ⋯⟩
   .refine Vc (B (hint-o) ⋯ ?_);dsimp only;cases S6:Rn (hint-o)
    .exact Vj ⟨rfl,o,2*o+1,rfl,by lia,by lia,by lia,S6⟩
    .exact Vj ⟨rfl,l,o,rfl,h1,h3,h4,λ_=>S6⟩
  rintro c P8 ⟨rfl,l,o,rfl,h1,h3,h4,h5⟩;dsimp only;have a1:hint+1-min o (hint+1)<=hint-l:=by lia
  have a2:hint-l<=n:=by lia
  have a3:∀i,i<hint+1-min o (hint+1)->Rn i=true:=λi hi=>mono i (hint-o) ⋯ ⋯ (h5 ⋯);have a4:∀i,hint-l<=i->i<n->Rn i=false:=λi hi hn=>SW _ _ hi hn h4;generalize hint+1-min o (hint+1)=lo at a1 a3 ⊢;generalize hint-l=hi at a1 a2 a4 ⊢;clear h1 h3 h4 h5
 case' true =>
  rw[if_pos rfl];refine Vc (XS (Xr (I:=λx c P8=>P8=st/\∃l o,c=(none,l,o)/\l<o/\x+1<=o/\hint+l<n/\Rn (hint+l)=true)
   (Q:=λc P8=>P8=st/\∃l o,c=(none,l,o)/\l<o/\hint+l<n/\Rn (hint+l)=true/\(hint+o<n->Rn (hint+o)=false)) ?s1 ?f1 ⟨rfl,0,1,rfl,by lia,by lia,by lia,hbh⟩) ?p1)
  case f1 =>
   rintro c P8 ⟨rfl,l,o,rfl,h1,h2,h3,h4⟩;exact⟨rfl,l,o,rfl,h1,h3,h4,λh=>absurd h ⋯⟩
  case s1 =>
   rintro x c P8 _ hx ⟨rfl,l,o,rfl,h1,h2,h3,h4⟩;dsimp only
   split
   .exact Vj ⟨rfl,l,o,rfl,h1,h3,h4,λh=>absurd h ⋯⟩
   .refine Vc (B (hint+o) ⋯ ?_);dsimp only;cases S6:Rn (hint+o)
    .exact Vj ⟨rfl,l,o,rfl,h1,h3,h4,λ_=>S6⟩
    .exact Vj ⟨rfl,o,2*o+1,rfl,by lia,by lia,by lia,S6⟩
  rintro c P8 ⟨rfl,l,o,rfl,h1,h3,h4,h5⟩;dsimp only;have a1:hint+l+1<=hint+min o (n-hint):=by lia
  have a2:hint+min o (n-hint)<=n:=by lia
  have a3:∀i,i<hint+l+1->Rn i=true:=λi hi=>mono i (hint+l) ⋯ ⋯ h4;have a4:∀i,hint+min o (n-hint)<=i->i<n->Rn i=false:=λi hi hn=>SW (hint+o) _ ⋯ hn (h5 ⋯);generalize hint+l+1=lo at a1 a3 ⊢;generalize hint+min o (n-hint)=hi at a1 a2 a4 ⊢;clear h1 h3 h4 h5
 all_goals
  refine Vc (XS (Xr (I:=λx c RV=>RV=P8/\∃a b,c=(none,a,b)/\a<=b/\b<=n/\b-a<=n-x/\(∀i,i<a->Rn i=true)/\(∀i,b<=i->i<n->Rn i=false))
   (Q:=λc RV=>RV=P8/\∃b,c=(none,b,b)/\b<=n/\(∀i,i<b->Rn i=true)/\(∀i,b<=i->i<n->Rn i=false)) ?s2 ?f2 ⟨rfl,lo,hi,rfl,a1,a2,by lia,a3,a4⟩) ?p2)
  case f2 =>
   rintro c RV ⟨rfl,a,b,rfl,h1,h2,h3,h4,h5⟩;have:a=b:=by lia
   subst this;exact⟨rfl,a,rfl,h2,h4,h5⟩
  case s2 =>
   rintro x c RV _ hx ⟨rfl,a,b,rfl,h1,h2,h3,h4,h5⟩;dsimp only
   split
   .have:a=b:=by lia
    subst this;exact Vj ⟨rfl,a,rfl,h2,h4,h5⟩
   .refine Vc (B (a+(b-a)/2) ⋯ ?_);dsimp only;cases S6:Rn (a+(b-a)/2)
    .exact Vj ⟨rfl,a,a+(b-a)/2,rfl,by lia,by lia,by lia,h4,λi h1 h2=>SW _ _ h1 h2 S6⟩
    .exact Vj ⟨rfl,a+(b-a)/2+1,b,rfl,by lia,by lia,by lia,λi h1=>mono _ (a+(b-a)/2) ⋯ ⋯ S6,h5⟩
  case p2 =>
   rintro c RV ⟨rfl,b,rfl,h2,h4,h5⟩;exact Vj (h b h2 h4 h5)
end
end Srt
namespace Srt
open PySem PyProof.Rows
def le_refl{κ:KeyKind}(x:Keyed):le κ x x:=WZ _
def le_trans{κ:KeyKind}{x y z:Keyed}(h:le κ x y)(h':le κ y z):le κ x z:=YR h h'
def lt(κ:KeyKind)(p q:Keyed):Prop:=κ.blt (ky κ p) (ky κ q)=true
theorem lt.le{κ:KeyKind}{x y:Keyed}(h:lt κ x y):le κ x y:=YF h
def SI(κ:KeyKind)(a:Array Keyed)(lo hi:Nat):Prop:=∀i j x y,lo<=i->i<=j->j<hi->a[i]?=some x->a[j]?=some y->le κ x y
variable{i:Nat}
def cM{a:Array Keyed}{j:Nat}{y:Keyed}:y∈(a.extract i j).toList ↔ ∃m,i<=m/\m<j/\a[m]?=some y:=by
 rw[abF];constructor
 .rintro⟨m,hm⟩;rw[V3,Wu] at hm
  split at hm
  .exact⟨i+m,by lia,by lia,hm⟩
  .exact absurd hm ↑13
 .rintro⟨m,h1,h2,h3⟩;have hs:m<a.size:=by
   rcases VT m a.size with h|h
   .exact h
   .rw[XG h] at h3;exact absurd h3 ↑13
  refine⟨m-i,?_⟩;rwa[V3,Wu,if_pos ⋯,show i+(m-i)=m by lia]
def SI.pw{κ:KeyKind}{a:Array Keyed}{lo hi j:Nat}(h:SI κ a lo hi)(Ss:lo<=i)(hj:j<=hi):(a.extract i j).toList.Pairwise (le κ):=by
 rw[aay];intro m n hm hn hmn;have e1:(a.extract i j).toList[m]?=some (a.extract i j).toList[m]:=getElem?_pos (a.extract i j).toList _ hm;have e2:(a.extract i j).toList[n]?=some (a.extract i j).toList[n]:=getElem?_pos (a.extract i j).toList _ hn;rw[V3,Wu] at e1 e2
 split at e1
 .split at e2
  .exact h (i+m) (i+n) _ _ ⋯ ⋯ ⋯ e1 e2
  .exact absurd e2 ↑13
 .exact absurd e1 ↑13
def kP(a:Array Keyed){j k:Nat}(h1:i<=j)(h2:j<=k):(a.extract i k).toList=(a.extract i j).toList++(a.extract j k).toList:=by
 rw[<- V4,Array.extract_append_extract,Nat.min_eq_left h1,acW h2]
def Eb{a:Array Keyed}{x:Keyed}(h:a[i]?=some x):(a.extract i (i+1)).toList=[x]:=by
 have hs:i<a.size:=by
  rcases VT i a.size with h'|h'
  .exact h'
  .rw[XG h'] at h;exact absurd h ↑13
 apply aaE;intro m;rw[V3,Wu];cases m with
 | zero=>rw[if_pos ⋯];simpa using h
 |succ m=>rw[if_neg ⋯];rfl
variable{b:Bool}
def nt(h:(!b)=true):b=false:=by simpa using h
def nf(h:(!b)=false):b=true:=by simpa using h
def tn(h:b=false):(!b)=true:=by simpa using h
structure MI (R:Keyed->Keyed->Prop) (So A B out:List Keyed):Prop where
 perm:(out++(A++B)).Perm So
 J4:out.Pairwise R
 low:∀x∈out,∀y∈A++B,R x y
variable{R:Keyed->Keyed->Prop}{So A B A1 A2 out:List Keyed}
def MI.sw(h:MI R So A B out):MI R So B A out :=
 ⟨(YC _ XY).trans h.perm,h.J4,λx hx y hy=>h.low x hx y (by rw[Wc] at hy ⊢;exact hy.symm)⟩
def MI.tp{U0:List Keyed}(h:MI R So A B out)(p:So.Perm U0):MI R U0 A B out:=⟨h.perm.trans p,h.J4,h.low⟩
def MI.a(h:MI R So A B out)(e:A.Perm (A1++A2))(h1:A1.Pairwise R)(h2:∀x∈A1,∀y∈A2,R x y)(h3:∀x∈A1,∀y∈B,R x y):MI R So A2 B (out++A1):=by
 have hm:∀y,y∈A ↔ y∈A1\/y∈A2:=λy=>by rw[e.mem_iff,Wc]
 refine⟨?_,?_,?_⟩
 .refine List.Perm.trans ?_ h.perm;rw[WB];refine YC _ ?_;rw[<- WB];exact Zs _ e.symm
 .rw[W9];exact⟨h.J4,h1,λx hx y hy=>h.low x hx y (Wc.mpr (.inl ((hm y).mpr (.inl hy))))⟩
 .intro x hx y hy;rw[Wc] at hx hy;rcases hx with hx|hx
  .refine h.low x hx y (Wc.mpr ?_);rcases hy with hy|hy
   .exact .inl ((hm y).mpr (.inr hy))
   .exact .inr hy
  .rcases hy with hy|hy
   .exact h2 x hx y hy
   .exact h3 x hx y hy
def MI.fin(h:MI R So A B out)(hs:(A++B).Pairwise R):(out++(A++B)).Pairwise R/\(out++(A++B)).Perm So :=
 ⟨W9.mpr ⟨h.J4,hs,h.low⟩,h.perm⟩
variable{arr:Array Keyed}
variable{Q:Option Nat->SortSt->Prop}{key:Keyed}
section
variable{prog:Program}{w:World}{A:Around}{E:Value->Shared->Prop}{s:Shared}{κ:KeyKind}{k:SortKind}
def NS(h:i<arr.size):arr[i]?=some arr[i]!:=by
 rw[getElem!_pos arr i h];exact getElem?_pos arr i h
theorem B0(hA:kZ prog w A s κ k){left:Bool}{base n hint:Nat}{st:SortSt}(hk:kindOf st=k)(RM:kL κ key)(hb:base+n<=arr.size)(RS:∀p∈arr.toList,kL κ p)(hh:hint<n)(f:Keyed->Bool)(hf:∀p,f p=if left then κ.blt (ky κ p) (ky κ key) else !κ.blt (ky κ key) (ky κ p))(mono:∀x y,le κ x y->f y=true->f x=true)(hs:SI κ arr base (base+n))(h:∀m,m<=n->(∀i y,base<=i->i<base+m->arr[i]?=some y->f y=true)->(∀i y,base+m<=i->i<base+n->arr[i]?=some y->f y=false)->Q (some m) st):wpS ↑11 A E s (Nm left key arr base n hint) Q st:=by
 have g:∀i y,base<=i->i<base+n->arr[i]?=some y->f arr[base+(i-base)]! =f y:=λi y h1 h2 e=>by
  rw[show base+(i-base)=i by lia,NS ⋯] at *;cases e;rfl
 refine IV hA hk RM hb RS hh (λi=>f arr[base+i]!) (λi p hi hp=>?_) (λi j TB hj=>mono _ _ (hs (base+i) (base+j) _ _ ⋯ ⋯ ⋯ (NS ⋯) (NS ⋯))) λm hm h1 h2=>h m hm (λi y i1 i2 e=>?_) λi y i1 i2 e=>?_
 .rw[NS ⋯] at hp;cases hp;exact hf _
 .rw[<- g i y i1 ⋯ e];exact h1 _ ⋯
 .rw[<- g i y ⋯ i2 e];exact h2 _ ⋯ ⋯
def u4(hA:kZ prog w A s κ k){base n hint:Nat}{st:SortSt}(hk:kindOf st=k)(RM:kL κ key)(hb:base+n<=arr.size)(RS:∀p∈arr.toList,kL κ p)(hh:hint<n)(hs:SI κ arr base (base+n))(h:∀m,m<=n->(∀i y,base<=i->i<base+m->arr[i]?=some y->le κ y key)->(∀i y,base+m<=i->i<base+n->arr[i]?=some y->lt κ key y)->Q (some m) st):wpS ↑11 A E s (Nm false key arr base n hint) Q st :=
 B0 hA hk RM hb RS hh (λp=>!κ.blt (ky κ key) (ky κ p)) (λ_=>rfl) (λ_ _ h1 h2=>tn (le_trans h1 (nt h2))) hs λm hm h1 h2=>h m hm (λi y a b c=>nt (h1 i y a b c)) λi y a b c=>nf (h2 i y a b c)
def uW(hA:kZ prog w A s κ k){base n hint:Nat}{st:SortSt}(hk:kindOf st=k)(RM:kL κ key)(hb:base+n<=arr.size)(RS:∀p∈arr.toList,kL κ p)(hh:hint<n)(hs:SI κ arr base (base+n))(h:∀m,m<=n->(∀i y,base<=i->i<base+m->arr[i]?=some y->lt κ y key)->(∀i y,base+m<=i->i<base+n->arr[i]?=some y->le κ key y)->Q (some m) st):wpS ↑11 A E s (Nm true key arr base n hint) Q st :=
 B0 hA hk RM hb RS hh (λp=>κ.blt (ky κ p) (ky κ key)) (λ_=>rfl) (λ_ _ h1 h2=>KeyOrd.klt_of_kle_of_klt h1 h2) hs h
end
end Srt
local macro_rules|`(tactic| walk_at "u2")=>`(tactic| unfold $(Lean.mkIdent (Lean.mkPrivateNameCore `PySem.Builtin.List.W1All `PySem.Builtin.mergeLo)):ident)
namespace Srt
open PySem PyProof.Rows
def Pd:Array Keyed->Array Keyed->StateT SortSt Sem (Array Keyed):=sortPriv% PySem.Builtin.mergeLo
def MD:Nat->StateT SortSt Sem Unit:=sortPriv% PySem.Builtin.setMinGallop
structure lX (st P8:SortSt):Prop where
 kind:kindOf P8=kindOf st
 arr:arrOf P8=arrOf st
 pend:pendingOf P8=pendingOf st
 fail:failedOf P8=failedOf st
def lX.rfl{st:SortSt}:lX st st:=⟨.refl _,.refl _,.refl _,.refl _⟩
def Good(κ:KeyKind)(a b r:Array Keyed):Prop:=r.toList.Pairwise (le κ)/\r.toList.Perm (a.toList++b.toList)
def LI(κ:KeyKind)(a b out:Array Keyed)(ia ib:Nat):Prop:=MI (le κ) (a.toList++b.toList) (a.extract ia a.size).toList (b.extract ib b.size).toList out.toList
variable{x:Keyed}{i:Nat}
section
variable{κ:KeyKind}{a b out:Array Keyed}{ia ib m:Nat}
theorem SI.mono{lo hi lo' Ss:Nat}(h:SI κ a lo hi)(h1:lo<=lo')(h2:Ss<=hi):SI κ a lo' Ss:=λi j x y a1 a2 a3=>h i j x y ⋯ a2 ⋯
def f9(h:a[i]?=some x):i<a.size:=by
 rcases VT i a.size with h'|h'
 .exact h'
 .rw[XG h'] at h;exact absurd h ↑13
theorem B6(o:Array Keyed)(i:Nat):o++a.extract i i=o:=by
 have:a.extract i i=#[]:=ZI (by rw[WJ];lia);rw[this,ack]
def LI.nil:LI κ a b #[] 0 0:=⟨by simp,by simp,by simp⟩
theorem LI.ga(sa:SI κ a 0 a.size)(h:LI κ a b out ia ib)(hk:ia+m<=a.size)(h3:∀i x,ia<=i->i<ia+m->a[i]?=some x->∀j y,ib<=j->b[j]?=some y->le κ x y):LI κ a b (out++a.extract ia (ia+m)) (ia+m) ib:=by
 have:=MI.a h (A1:=(a.extract ia (ia+m)).toList) (A2:=(a.extract (ia+m) a.size).toList) (by rw[kP a (WN ia m) hk]) (sa.pw ⋯ hk)
  (λx hx y hy=>by
   obtain⟨i,i1,i2,i3⟩:=cM.mp hx;obtain⟨j,j1,j2,j3⟩:=cM.mp hy;exact sa i j x y ⋯ ⋯ j2 i3 j3)
  (λx hx y hy=>by
   obtain⟨i,i1,i2,i3⟩:=cM.mp hx;obtain⟨j,j1,j2,j3⟩:=cM.mp hy;exact h3 i x i1 i2 i3 j y j1 j3)
 unfold LI;rw[V4];exact this
theorem LI.sw(h:LI κ a b out ia ib):LI κ b a out ib ia:=(MI.sw h).tp XY
def LI.gb(sb:SI κ b 0 b.size)(h:LI κ a b out ia ib)(hk:ib+m<=b.size)(h3:∀i x,ib<=i->i<ib+m->b[i]?=some x->∀j y,ia<=j->a[j]?=some y->le κ x y):LI κ a b (out++b.extract ib (ib+m)) ia (ib+m):=(h.sw.ga sb hk h3).sw
def FZ(e:a[i]?=some x):out.push x=out++a.extract i (i+1):=by
 apply acX.mp;rw[aaF,V4,Eb e]
theorem LI.pa(sa:SI κ a 0 a.size)(h:LI κ a b out ia ib)(e:a[ia]?=some x)(h3:∀j y,ib<=j->b[j]?=some y->le κ x y):LI κ a b (out.push x) (ia+1) ib:=by
 rw[FZ e];exact h.ga sa (f9 e) λi z h1 h2 h4=>by have:i=ia:=⋯;subst this;rw[e] at h4;cases h4;exact h3
def LI.pb(sb:SI κ b 0 b.size)(h:LI κ a b out ia ib)(e:b[ib]?=some x)(h3:∀j y,ia<=j->a[j]?=some y->le κ x y):LI κ a b (out.push x) ia (ib+1):=(h.sw.pa sb e h3).sw
theorem LI.dn(sa:SI κ a 0 a.size)(h:LI κ a b out ia ib)(e:ib=b.size):Good κ a b (out++a.extract ia a.size++b.extract ib b.size):=by
 have z:(b.extract ib b.size).toList=[]:=by
  rw[Yr];intro y hy;obtain⟨j,j1,j2,j3⟩:=cM.mp hy;lia
 have:=MI.fin h (by rw[z,Ww];exact sa.pw (Vd _) ⋯);unfold Good;rw[V4,V4,WB];exact this
theorem LI.la(sa:SI κ a 0 a.size)(sb:SI κ b 0 b.size)(top:∀(i j:Nat)(x y:Keyed),i+1=a.size->a[i]?=some x->b[j]?=some y->lt κ y x)(h:LI κ a b out ia ib)(e:ia+1=a.size):Good κ a b (out++b.extract ib b.size++a.extract ia a.size):=by
 have:=MI.fin (MI.sw h) (W9.mpr ⟨sb.pw (Vd _) ⋯,sa.pw (Vd _) ⋯,λx hx y hy=>by
   obtain⟨i,i1,i2,i3⟩:=cM.mp hx;obtain⟨j,j1,j2,j3⟩:=cM.mp hy;have:j=ia:=by lia
   subst this;exact(top j i y x e j3 i3).le⟩)
 unfold Good;rw[V4,V4,WB];exact this
end
variable{α:Type}{c:Prop}
variable{β:Type}
variable{γ:Type}
section
variable{prog:Program}{w:World}{A:Around}{E:Value->Shared->Prop}{s:Shared}{κ:KeyKind}{k:SortKind}
def uG{g:Nat}{st0 st:SortSt}{Q:Unit->SortSt->Prop}(hK:lX st0 st)(h:∀P8,lX st0 P8->Q () P8):wpS ↑11 A E s (MD g) Q st:=by
 unfold MD;exact ZJ (h _ ⟨hK.kind,hK.arr,hK.pend,hK.fail⟩)
def dG[Decidable c]{t e:StateT SortSt Sem α}{Q:α->SortSt->Prop}{st:SortSt}(h1:c->wpS ↑11 A E s t Q st)(h2:¬ c->wpS ↑11 A E s e Q st):wpS ↑11 A E s (if c then t else e) Q st:=by
 split
 .exact h1 ‹_›
 .exact h2 ‹_›
def eS{x y:Nat}{t e:StateT SortSt Sem α}{Q:α->SortSt->Prop}{st:SortSt}(h1:x=y->wpS ↑11 A E s t Q st)(h2:x≠y->wpS ↑11 A E s e Q st):wpS ↑11 A E s (if (x==y)=true then t else e) Q st :=
 dG (λh=>h1 (eq_of_beq h)) λh=>h2 λe=>h (beq_iff_eq.mpr e)
def HW[Decidable c]{x y:Nat}{jp:Unit->Nat->StateT SortSt Sem α}{Q:α->SortSt->Prop}{st:SortSt}(h:∀g,wpS ↑11 A E s (jp () g) Q st):wpS ↑11 A E s (if c then jp () x else jp () y) Q st :=
 dG (λ_=>h _) λ_=>h _
def el{a:Array Keyed}(ha:∀p∈a.toList,kL κ p)(hi:i<a.size):∃x,a[i]?=some x/\kL κ x :=
 ⟨a[i],getElem?_pos a i hi,ha _ ↑13⟩
def Mv(I Q:β->SortSt->Prop):ForInStep β->SortSt->Prop
 | .done b,st=>Q b st
 |.yield b,st=>I b st
def mB{n:Nat}{f:Nat->β->StateT SortSt Sem (ForInStep β)}(I:Nat->β->SortSt->Prop){Q:β->SortSt->Prop}{c:β}{st:SortSt}(h:I 0 c st)(UK:∀i c st,i<n->I i c st->wpS ↑11 A E s (f i c) (Mv (I (i+1)) Q) st)(Ro:∀c st,I n c st->Q c st):wpS ↑11 A E s (forIn [:n] c f) Q st :=
 Xr I (λi c st _ h1 h2=>XS (UK i c st h1 h2) λr _ h=>by cases r<;>exact h) (λc st h=>Ro c st (by rwa [acW (Vd _)] at h)) h
def Im(st:SortSt)(J:γ->Prop):Option (Array Keyed)×γ->SortSt->Prop:=λc P8=>lX st P8/\c.1=none/\J c.2
def Qm(st:SortSt)(G:Array Keyed->Prop)(J:γ->Prop):Option (Array Keyed)×γ->SortSt->Prop:=λc P8=>lX st P8/\((∃r,c.1=some r/\G r)\/c.1=none/\J c.2)
def LJ(κ:KeyKind)(a b:Array Keyed)(x:Nat)(out:Array Keyed)(ia ib:Nat):Prop:=LI κ a b out ia ib/\ib<b.size/\ia+1<a.size/\x<=ia+ib
def LJ.mono{κ:KeyKind}{a b out:Array Keyed}{x x' ia ib:Nat}(h:LJ κ a b x out ia ib)(hx:x'<=x):LJ κ a b x' out ia ib:=⟨h.1,h.2.1,h.2.2.1,Vz hx h.2.2.2⟩
set_option maxHeartbeats 2000000 in
theorem K_(hA:kZ prog w A s κ k){a b:Array Keyed}{st:SortSt}{Q:Array Keyed->SortSt->Prop}(hk:kindOf st=k)(ha:∀p∈a.toList,kL κ p)(hb:∀p∈b.toList,kL κ p)(sa:SI κ a 0 a.size)(sb:SI κ b 0 b.size)(n1:1<=a.size)(n2:1<=b.size)(hd:∀x y,a[0]?=some x->b[0]?=some y->lt κ y x)(top:∀(i j:Nat)(x y:Keyed),i+1=a.size->a[i]?=some x->b[j]?=some y->lt κ y x)(h:∀r P8,lX st P8->Good κ a b r->Q r P8):wpS ↑11 A E s (Pd a b) Q st:=by
 unfold Pd;walk_at "u2";refine Vc (aaW (Xb ⟨rfl,?_⟩));obtain⟨y0,ey,hy0⟩:=el hb n2;obtain⟨x0,ex,Ug⟩:=el ha n1;refine Vc (bI ey ?_);have L0:LI κ a b #[y0] 0 1:=LI.pb (out:=#[]) sb LI.nil ey λj y hj e=>le_trans (hd x0 y0 ex ey).le (sa 0 j _ _ ⋯ ⋯ (f9 e) ex e);refine eS (λe=>Vj (h _ _ lX.rfl (L0.dn sa e))) λe1=>eS (λe=>Vj (h _ _ lX.rfl (L0.la sa sb top e))) λe2=>Vc (aaa ?_);refine Vc (XS (mB (λx=>Im st λc=>LJ κ a b x c.1 c.2.1 c.2.2.1) (Q:=Qm st (Good κ a b) λ_=>False) ⟨lX.rfl,rfl,(show LJ κ a b 0 #[y0] 0 1 from ⟨L0,by lia,by lia,by lia⟩)⟩ ?_ ?_) ?_)
 .rintro x ⟨c,out,ia,ib,g⟩ P8 hx ⟨hK,rfl,hL⟩;have hL:LJ κ a b x out ia ib:=hL;refine Vc (XS (mB (λy=>Im st λc=>LJ κ a b (x+y) c.1 c.2.1 c.2.2.1) (Q:=Qm st (Good κ a b) λc=>LJ κ a b (x+1) c.1 c.2.1 c.2.2.1) ⟨hK,rfl,hL⟩ ?_ ?_) ?_)
  .rintro y ⟨c,out,ia,ib,ac,bc⟩ P8 hy ⟨hK,rfl,hL⟩;obtain⟨hL,h1,h2,h3⟩:=(show LJ κ a b (x+y) out ia ib from hL)
   obtain⟨xb,eb,T6⟩:=el hb h1;obtain⟨xa,ea,T5⟩:=el ha (show ia<a.size by lia);refine Vc (bI eb (Vc (bI ea (Vc (vN hA (hK.kind.trans hk) T6 T5 ?_)))));refine dG (λhw=>Vc (bI eb ?_)) (λhw=>Vc (bI ea ?_))
   .have L:=hL.pb sb eb λj y hj e=>le_trans (show lt κ xb xa from hw).le (sa ia j _ _ ⋯ hj (f9 e) ea e);have hJ:ib+1≠b.size->LJ κ a b (x+y+1) (out.push xb) ia (ib+1):=λe=>⟨L,by lia,h2,by lia⟩
    exact eS (λe=>Vj ⟨hK,.inl ⟨_,rfl,L.dn sa e⟩⟩) λe=>dG (λ_=>Vj ⟨hK,.inr ⟨rfl,(hJ e).mono ⋯⟩⟩) λ_=>Vj ⟨hK,rfl,hJ e⟩
   .have L:=hL.pa sa ea λj y hj e=>le_trans (XZ hw) (sb ib j _ _ ⋯ hj (f9 e) eb e);have hJ:ia+1+1≠a.size->LJ κ a b (x+y+1) (out.push xa) (ia+1) ib:=λe=>⟨L,h1,by lia,by lia⟩
    exact eS (λe=>Vj ⟨hK,.inl ⟨_,rfl,L.la sa sb top e⟩⟩) λe=>dG (λ_=>Vj ⟨hK,.inr ⟨rfl,(hJ e).mono ⋯⟩⟩) λ_=>Vj ⟨hK,rfl,hJ e⟩
  .rintro c P8 ⟨hK,hc,hL⟩;exact⟨hK,.inr ⟨hc,hL.mono ⋯⟩⟩
  .rintro⟨c,out,ia,ib,ac,bc⟩ P8 ⟨hK,⟨r,rfl,hr⟩|⟨rfl,hL⟩⟩
   .exact Vj ⟨hK,.inl ⟨r,rfl,hr⟩⟩
   refine Vc (aaW (Xb ⟨rfl,?_⟩));refine Vc (XS (mB (λ_=>Im st λc=>LJ κ a b (x+1) c.1 c.2.1 c.2.2.1) (Q:=Qm st (Good κ a b) λc=>LJ κ a b (x+1) c.1 c.2.1 c.2.2.1) ⟨hK,rfl,hL⟩ ?_ λc P8 h=>⟨h.1,.inr h.2⟩) ?_)
   .rintro y ⟨c,out,ia,ib,g,ac,bc⟩ P8 hy ⟨hK,rfl,hL⟩;obtain⟨hL,h1,h2,h3⟩:=(show LJ κ a b (x+1) out ia ib from hL)
    obtain⟨xb,eb,T6⟩:=el hb h1
    extract_lets -underBinder s1 o1 s2 i1 s3 j1 s4 g1 s5 a1 b1 jp
    subst s1 o1 s2 i1 s3 j1 s4 g1 s5 a1 b1;refine HW (jp:=jp) λg'=>Vc (uG hK λP8 hK=>?_);clear jp;refine Vc (bI eb (Vc (u4 hA (hK.kind.trans hk) T6 (by show ia+(a.size-ia)<=_;lia) ha (by show 0<a.size-ia;lia) (sa.mono (Vd _) (by show ia+(a.size-ia)<=_;lia)) λm hm R0 Sd=>?_)));have hm:m<=a.size-ia:=hm;have R0:∀i y,ia<=i->i<ia+m->a[i]?=some y->le κ y xb:=R0;have Sd:∀i y,ia+m<=i->i<ia+(a.size-ia)->a[i]?=some y->lt κ xb y:=Sd;have hm':ia+m<a.size:=by
     rcases VT (ia+m) a.size with h'|h'
     .exact h'
     .obtain⟨z,ez,_⟩:=el ha (show a.size-1<a.size by lia);exact absurd (top _ ib z xb ⋯ ez eb) (abG (R0 _ z ⋯ ⋯ ez))
    have L1:=hL.ga sa (X_ hm') λi x i1 i2 i3 j y j1 j2=>le_trans (R0 i x i1 i2 i3) (sb ib j _ _ (Vd _) j1 (f9 j2) eb j2);have RT:∀i y,ia+m<=i->a[i]?=some y->le κ xb y:=λi y i1 i2=>(Sd i y i1 (by have:=f9 i2;lia) i2).le;dsimp -zeta only
    extract_lets -underBinder c1 jp
    subst c1;have J:∀o i,LI κ a b o i ib->i+1<a.size->x+1<=i+ib->(∀j y,i<=j->a[j]?=some y->le κ xb y)->wpS ↑11 A E s (jp () o i) (Mv (Im st λc=>LJ κ a b (x+1) c.1 c.2.1 c.2.2.1) (Qm st (Good κ a b) λc=>LJ κ a b (x+1) c.1 c.2.1 c.2.2.1)) P8:=by
     intro o i L1 h2 h3 RT;refine Vc (bI eb ?_);clear jp;have L2:=L1.pb sb eb RT;refine eS (λe=>Vj ⟨hK,.inl ⟨_,rfl,L2.dn sa e⟩⟩) λe=>?_;have e:ib+1≠b.size:=e;obtain⟨xa,ea,T5⟩:=el ha (Nat.lt_of_succ_lt h2);refine Vc (bI ea (Vc (uW hA (hK.kind.trans hk) T5 (by show ib+1+(b.size-(ib+1))<=_;lia) hb (by show 0<b.size-(ib+1);lia) (sb.mono (Vd _) (by show ib+1+(b.size-(ib+1))<=_;lia)) λm hm R0 Sd=>?_)));have hm:m<=b.size-(ib+1):=hm;have R0:∀i y,ib+1<=i->i<ib+1+m->b[i]?=some y->lt κ y xa:=R0;have Sd:∀i y,ib+1+m<=i->i<ib+1+(b.size-(ib+1))->b[i]?=some y->le κ xa y:=Sd;have L3:=L2.gb sb (m:=m) ⋯ λi x i1 i2 i3 j y j1 j2=>le_trans (R0 i x i1 i2 i3).le (sa _ j _ _ (Vd _) j1 (f9 j2) ea j2);dsimp -zeta only
     extract_lets -underBinder c1 jp
     subst c1;have J:∀o j,LI κ a b o i j->j<b.size->x+1<=i+1+j->(∀l y,j<=l->b[l]?=some y->le κ xa y)->wpS ↑11 A E s (jp () o j) (Mv (Im st λc=>LJ κ a b (x+1) c.1 c.2.1 c.2.2.1) (Qm st (Good κ a b) λc=>LJ κ a b (x+1) c.1 c.2.1 c.2.2.1)) P8:=by
      intro o j L3 h1 h3 RT;refine Vc (bI ea ?_);have L4:=L3.pa sa ea RT;have hJ:i+1+1≠a.size->LJ κ a b (x+1) (o.push xa) (i+1) j:=λe=>⟨L4,h1,by lia,h3⟩
      exact eS (λe=>Vj ⟨hK,.inl ⟨_,rfl,L4.la sa sb top e⟩⟩) λe=>dG (λ_=>Vj ⟨hK,.inr ⟨rfl,hJ e⟩⟩) λ_=>Vj ⟨hK,rfl,hJ e⟩
     have RT:∀l y,ib+1+m<=l->b[l]?=some y->le κ xa y:=λi y i1 i2=>Sd i y i1 (by have:=f9 i2;lia) i2;refine dG (λRX=>eS (λe=>Vj ⟨hK,.inl ⟨_,rfl,L3.dn sa e⟩⟩) λe=>J _ _ L3 (by have e:ib+1+m≠b.size:=e;show ib+1+m<_;lia) (by show _<=_+(ib+1+m);lia) RT) λRX=>?_;have RX:m=0:=abf RX;subst RX;rw[abg,B6] at L3;exact J _ _ L3 (by show ib+1<_;lia) (by show _<=_+(ib+1);lia) RT
    clear_value jp
    refine dG (λRX=>eS (λe=>Vj ⟨hK,.inl ⟨_,rfl,L1.la sa sb top e⟩⟩) λe=>eS (λe=>absurd e (Vm hm')) λ_=>J _ _ L1 (by have e:ia+m+1≠a.size:=e;show ia+m+1<_;lia) (by show _<=ia+m+ib;lia) RT) λRX=>?_;have RX:m=0:=abf RX;subst RX;rw[abg,B6] at L1;exact J _ _ L1 h2 h3 RT
   .rintro⟨c,out,ia,ib,g,ac,bc⟩ P8 ⟨hK,⟨r,rfl,hr⟩|⟨rfl,hL⟩⟩
    .exact Vj ⟨hK,.inl ⟨r,rfl,hr⟩⟩
    .exact Vc (uG hK λQ3 hK=>Vj ⟨hK,rfl,hL⟩)
 .rintro c P8 ⟨hK,_,hL,h1,h2,h3⟩;lia
 .rintro⟨c,t⟩ P8 ⟨hK,⟨r,rfl,hr⟩|⟨_,h⟩⟩
  .exact Vj (h r P8 hK hr)
  .exact h.elim
end
end Srt
local macro_rules|`(tactic| walk_at "u3")=>`(tactic| unfold $(Lean.mkIdent (Lean.mkPrivateNameCore `PySem.Builtin.List.W1All `PySem.Builtin.mergeHi)):ident)
namespace Srt
open PySem PyProof.Rows
def O_:Array Keyed->Array Keyed->StateT SortSt Sem (Array Keyed):=sortPriv% PySem.Builtin.mergeHi
def HI(κ:KeyKind)(a b out:Array Keyed)(na nb:Nat):Prop:=MI (λx y=>le κ y x) (a.toList++b.toList) (a.extract 0 na).toList (b.extract 0 nb).toList out.toList
variable{x:Keyed}
section
variable{κ:KeyKind}{a b out:Array Keyed}{na nb m:Nat}
def HI.nil:HI κ a b #[] a.size b.size:=⟨by simp,by simp,by simp⟩
theorem HI.ga(sa:SI κ a 0 a.size)(h:HI κ a b out na nb)(hm:m<=na)(hn:na<=a.size)(h3:∀i x,m<=i->i<na->a[i]?=some x->∀j y,j<nb->b[j]?=some y->le κ y x):HI κ a b (out++(a.extract m na).reverse) m nb:=by
 have:=MI.a h (A1:=(a.extract m na).toList.reverse) (A2:=(a.extract 0 m).toList)
  (by rw[kP a (Vd m) hm];exact XY.trans (Zs _ (acF _).symm))
  (abH.mpr (sa.pw (Vd _) hn))
  (λx hx y hy=>by
   obtain⟨i,i1,i2,i3⟩:=cM.mp (aaX.mp hx);obtain⟨j,j1,j2,j3⟩:=cM.mp hy;exact sa j i y x ⋯ ⋯ ⋯ j3 i3)
  (λx hx y hy=>by
   obtain⟨i,i1,i2,i3⟩:=cM.mp (aaX.mp hx);obtain⟨j,j1,j2,j3⟩:=cM.mp hy;exact h3 i x i1 i2 i3 j y j2 j3)
 unfold HI;rw[V4,YI];exact this
theorem HI.sw(h:HI κ a b out na nb):HI κ b a out nb na:=(MI.sw h).tp XY
def HI.gb(sb:SI κ b 0 b.size)(h:HI κ a b out na nb)(hm:m<=nb)(hn:nb<=b.size)(h3:∀i x,m<=i->i<nb->b[i]?=some x->∀j y,j<na->a[j]?=some y->le κ y x):HI κ a b (out++(b.extract m nb).reverse) na m:=(h.sw.ga sb hm hn h3).sw
def GF{i:Nat}(e:a[i]?=some x):out.push x=out++(a.extract i (i+1)).reverse:=by
 apply acX.mp;rw[aaF,V4,YI,Eb e];rfl
theorem HI.pa(sa:SI κ a 0 a.size)(h:HI κ a b out na nb)(hn:0<na)(e:a[na-1]?=some x)(h3:∀j y,j<nb->b[j]?=some y->le κ y x):HI κ a b (out.push x) (na-1) nb:=by
 rw[GF e,show na-1+1=na by lia];have:=f9 e;exact h.ga sa ⋯ ⋯ λi z h1 h2 h4=>by have:i=na-1:=⋯;subst this;rw[e] at h4;cases h4;exact h3
def HI.pb(sb:SI κ b 0 b.size)(h:HI κ a b out na nb)(hn:0<nb)(e:b[nb-1]?=some x)(h3:∀j y,j<na->a[j]?=some y->le κ y x):HI κ a b (out.push x) na (nb-1):=(h.sw.pa sb hn e h3).sw
def MI.MN{R:Keyed->Keyed->Prop}{So A B out:List Keyed}(h:MI (λx y=>R y x) So A B out)(hs:(A++B).Pairwise R):(A++B++out.reverse).Pairwise R/\(A++B++out.reverse).Perm So :=
 ⟨W9.mpr ⟨hs,abH.mpr h.J4,λx hx y hy=>h.low y (aaX.mp hy) x hx⟩,
  (YC _ (acF _)).trans (XY.trans h.perm)⟩
theorem HI.dn(sb:SI κ b 0 b.size)(h:HI κ a b out na nb)(e:na=0)(hb:nb<=b.size):Good κ a b (a.extract 0 na++b.extract 0 nb++out.reverse):=by
 have z:(a.extract 0 na).toList=[]:=by
  rw[Yr];intro y hy;obtain⟨j,j1,j2,j3⟩:=cM.mp hy;lia
 have:=MI.MN h (by rw[z,Y6];exact sb.pw (Vd _) hb);unfold Good;rw[V4,V4,YI];exact this
theorem HI.fb(sa:SI κ a 0 a.size)(bot:∀(i:Nat)(x y:Keyed),a[i]?=some x->b[0]?=some y->lt κ y x)(h:HI κ a b out na nb)(e:nb=1)(hn:na<=a.size):Good κ a b (b.extract 0 nb++a.extract 0 na++out.reverse):=by
 have:=MI.MN (MI.sw h) (W9.mpr ⟨by
   rw[List.pairwise_iff_forall_sublist];intro x y hxy;have:=hxy.length_le;rw[show (b.extract 0 nb).toList.length=(b.extract 0 nb).size from VJ,WJ] at this;have:2<=min nb b.size-0:=this;lia,sa.pw (Vd _) hn,λx hx y hy=>by
   obtain⟨i,i1,i2,i3⟩:=cM.mp hx;obtain⟨j,j1,j2,j3⟩:=cM.mp hy;have:i=0:=by lia
   subst this;exact(bot j y x j3 i3).le⟩)
 unfold Good;rw[V4,V4,YI];exact this
theorem BN(o:Array Keyed)(i:Nat):o++(a.extract i i).reverse=o:=by
 have:a.extract i i=#[]:=ZI (by rw[WJ];lia);rw[this,Array.reverse_empty,ack]
end
def HJ(κ:KeyKind)(a b:Array Keyed)(x na nb:Nat)(out:Array Keyed):Prop:=HI κ a b out na nb/\0<na/\na<=a.size/\1<nb/\nb<=b.size/\x+na+nb<=a.size+b.size
theorem HJ.mono{κ:KeyKind}{a b out:Array Keyed}{x x' na nb:Nat}(h:HJ κ a b x na nb out)(hx:x'<=x):HJ κ a b x' na nb out:=⟨h.1,h.2.1,h.2.2.1,h.2.2.2.1,h.2.2.2.2.1,by have:=h.2.2.2.2.2;lia⟩
section
variable{prog:Program}{w:World}{A:Around}{E:Value->Shared->Prop}{s:Shared}{κ:KeyKind}{k:SortKind}
set_option maxHeartbeats 2000000 in
theorem I0(hA:kZ prog w A s κ k){a b:Array Keyed}{st:SortSt}{Q:Array Keyed->SortSt->Prop}(hk:kindOf st=k)(ha:∀p∈a.toList,kL κ p)(hb:∀p∈b.toList,kL κ p)(sa:SI κ a 0 a.size)(sb:SI κ b 0 b.size)(n1:1<=a.size)(n2:1<=b.size)(hd:∀x y,a[0]?=some x->b[0]?=some y->lt κ y x)(top:∀(i j:Nat)(x y:Keyed),i+1=a.size->a[i]?=some x->b[j]?=some y->lt κ y x)(h:∀r P8,lX st P8->Good κ a b r->Q r P8):wpS ↑11 A E s (O_ a b) Q st:=by
 unfold O_;walk_at "u3";refine Vc (aaW (Xb ⟨rfl,?_⟩));obtain⟨y0,ey,hy0⟩:=el hb n2;obtain⟨x0,ex,Ug⟩:=el ha n1;obtain⟨xl,exl,hxl⟩:=el ha (show a.size-1<a.size by lia);have bot:∀(i:Nat)(x y:Keyed),a[i]?=some x->b[0]?=some y->lt κ y x:=λi x y e1 e2=>by
  rw[ey] at e2;cases e2;exact aaM (hd x0 y0 ex ey) (sa 0 i _ _ ⋯ ⋯ (f9 e1) ex e1)
 refine Vc (bI exl ?_);have L0:HI κ a b #[xl] (a.size-1) b.size:=HI.pa (out:=#[]) sa HI.nil ⋯ exl λj y hj e=>(top _ j _ _ ⋯ exl e).le;refine eS (λe=>Vj (h _ _ lX.rfl (L0.dn sb e (U9 _)))) λe1=>eS (λe=>Vj (h _ _ lX.rfl (L0.fb sa bot e (Nat.sub_le _ _)))) λe2=>Vc (aaa ?_);have e1:a.size-1≠0:=e1;refine Vc (XS (mB (λx=>Im st λc=>HJ κ a b x c.1 c.2.1 c.2.2.1) (Q:=Qm st (Good κ a b) λ_=>False) ⟨lX.rfl,rfl,(show HJ κ a b 0 (a.size-1) b.size #[xl] from ⟨L0,by lia,by lia,by lia,by lia,by lia⟩)⟩ ?_ ?_) ?_)
 .rintro x ⟨c,na,nb,out,g⟩ P8 hx ⟨hK,rfl,hL⟩;refine Vc (XS (mB (λy=>Im st λc=>HJ κ a b (x+y) c.1 c.2.1 c.2.2.1) (Q:=Qm st (Good κ a b) λc=>HJ κ a b (x+1) c.1 c.2.1 c.2.2.1) ⟨hK,rfl,hL⟩ ?_ ?_) ?_)
  .rintro y ⟨c,na,nb,out,ac,bc⟩ P8 hy ⟨hK,rfl,hL⟩;obtain⟨hL,h1,Ut,h2,TM,h3⟩:=(show HJ κ a b (x+y) na nb out from hL)
   obtain⟨xb,eb,T6⟩:=el hb (show nb-1<b.size by lia);obtain⟨xa,ea,T5⟩:=el ha (show na-1<a.size by lia);refine Vc (bI eb (Vc (bI ea (Vc (vN hA (hK.kind.trans hk) T6 T5 ?_)))));refine dG (λhw=>Vc (bI ea ?_)) (λhw=>Vc (bI eb ?_))
   .have L:=hL.pa sa h1 ea λj y hj e=>le_trans (sb j (nb-1) _ _ ⋯ ⋯ (f9 eb) e eb) (show lt κ xb xa from hw).le;have hJ:na-1≠0->HJ κ a b (x+y+1) (na-1) nb (out.push xa):=λe=>⟨L,by lia,by lia,h2,TM,by lia⟩
    exact eS (λe=>Vj ⟨hK,.inl ⟨_,rfl,L.dn sb e TM⟩⟩) λe=>dG (λ_=>Vj ⟨hK,.inr ⟨rfl,(hJ e).mono ⋯⟩⟩) λ_=>Vj ⟨hK,rfl,hJ e⟩
   .have L:=hL.pb sb ⋯ eb λj y hj e=>le_trans (sa j (na-1) _ _ ⋯ ⋯ (f9 ea) e ea) (XZ hw);have hJ:nb-1≠1->HJ κ a b (x+y+1) na (nb-1) (out.push xb):=λe=>⟨L,h1,Ut,by lia,by lia,by lia⟩
    exact eS (λe=>Vj ⟨hK,.inl ⟨_,rfl,L.fb sa bot e Ut⟩⟩) λe=>dG (λ_=>Vj ⟨hK,.inr ⟨rfl,(hJ e).mono ⋯⟩⟩) λ_=>Vj ⟨hK,rfl,hJ e⟩
  .rintro c P8 ⟨hK,hc,hL⟩;exact⟨hK,.inr ⟨hc,hL.mono ⋯⟩⟩
  .rintro⟨c,na,nb,out,ac,bc⟩ P8 ⟨hK,⟨r,rfl,hr⟩|⟨rfl,hL⟩⟩
   .exact Vj ⟨hK,.inl ⟨r,rfl,hr⟩⟩
   refine Vc (aaW (Xb ⟨rfl,?_⟩));refine Vc (XS (mB (λ_=>Im st λc=>HJ κ a b (x+1) c.1 c.2.1 c.2.2.1) (Q:=Qm st (Good κ a b) λc=>HJ κ a b (x+1) c.1 c.2.1 c.2.2.1) ⟨hK,rfl,hL⟩ ?_ λc P8 h=>⟨h.1,.inr h.2⟩) ?_)
   .rintro y ⟨c,na,nb,out,g,ac,bc⟩ P8 hy ⟨hK,rfl,hL⟩;obtain⟨hL,h1,Ut,h2,TM,h3⟩:=(show HJ κ a b (x+1) na nb out from hL)
    obtain⟨xb,eb,T6⟩:=el hb (show nb-1<b.size by lia)
    extract_lets -underBinder s1 o1 s2 i1 s3 j1 s4 g1 s5 a1 b1 jp
    subst s1 o1 s2 i1 s3 j1 s4 g1 s5 a1 b1;refine HW (jp:=jp) λg'=>Vc (uG hK λP8 hK=>?_);clear jp;refine Vc (bI eb (Vc (u4 hA (hK.kind.trans hk) T6 (by show 0+na<=_;lia) ha (by show na-1<na;lia) (sa.mono (U9 _) (by show 0+na<=_;lia)) λm hm R0 Sd=>?_)));have hm:m<=na:=hm;have L1:=hL.ga sa hm Ut λi x i1 i2 i3 j y j1 j2=>le_trans (sb j (nb-1) _ _ ⋯ ⋯ (f9 eb) j2 eb) (Sd i x ⋯ (by show i<0+na;lia) i3).le;have RT:∀i y,i<m->a[i]?=some y->le κ y xb:=λi y i1 i2=>R0 i y ⋯ ⋯ i2;dsimp -zeta only
    extract_lets -underBinder k1 c1 jp
    subst k1 c1;have J:∀i o,HI κ a b o i nb->0<i->i<=na->(∀j y,j<i->a[j]?=some y->le κ y xb)->wpS ↑11 A E s (jp () i o) (Mv (Im st λc=>HJ κ a b (x+1) c.1 c.2.1 c.2.2.1) (Qm st (Good κ a b) λc=>HJ κ a b (x+1) c.1 c.2.1 c.2.2.1)) P8:=by
     intro i o L1 h1 UC RT;refine Vc (bI eb ?_);clear jp;have L2:=L1.pb sb ⋯ eb RT;refine eS (λe=>Vj ⟨hK,.inl ⟨_,rfl,L2.fb sa bot e ⋯⟩⟩) λe=>?_;have e:nb-1≠1:=e;obtain⟨xa,ea,T5⟩:=el ha (show i-1<a.size by lia);refine Vc (bI ea (Vc (uW hA (hK.kind.trans hk) T5 (by show 0+(nb-1)<=_;lia) hb (by show nb-1-1<nb-1;lia) (sb.mono (U9 _) (by show 0+(nb-1)<=_;lia)) λm hm R0 Sd=>?_)));have hm:m<=nb-1:=hm;have L3:=L2.gb sb hm ⋯ λl x i1 i2 i3 j y j1 j2=>le_trans (sa j (i-1) _ _ ⋯ ⋯ (f9 ea) j2 ea) (Sd l x ⋯ (by show l<0+(nb-1);lia) i3);have hm2:m≠0:=λh0=>by
      subst h0;exact abG (Sd 0 y0 ⋯ (by show 0<0+(nb-1);lia) ey) (bot _ _ _ ea ey)
     dsimp -zeta only
     extract_lets -underBinder k1 c1 jp
     subst k1 c1;have J:∀j o,HI κ a b o i j->1<j->j<=nb-1->(∀l y,l<j->b[l]?=some y->le κ y xa)->wpS ↑11 A E s (jp () j o) (Mv (Im st λc=>HJ κ a b (x+1) c.1 c.2.1 c.2.2.1) (Qm st (Good κ a b) λc=>HJ κ a b (x+1) c.1 c.2.1 c.2.2.1)) P8:=by
      intro j o L3 h2 UD RT;refine Vc (bI ea ?_);have L4:=L3.pa sa h1 ea RT;have hJ:i-1≠0->HJ κ a b (x+1) (i-1) j (o.push xa):=λe=>⟨L4,by lia,by lia,h2,by lia,by lia⟩
      exact eS (λe=>Vj ⟨hK,.inl ⟨_,rfl,L4.dn sb e ⋯⟩⟩) λe=>dG (λ_=>Vj ⟨hK,.inr ⟨rfl,hJ e⟩⟩) λ_=>Vj ⟨hK,rfl,hJ e⟩
     have RT:∀l y,l<m->b[l]?=some y->le κ y xa:=λl y i1 i2=>(R0 l y ⋯ ⋯ i2).le;refine dG (λRX=>eS (λe=>Vj ⟨hK,.inl ⟨_,rfl,L3.fb sa bot e ⋯⟩⟩) λe=>eS (λe=>absurd e hm2) λ_=>J _ _ L3 ⋯ hm RT) λRX=>?_;have RX:m=nb-1:=by lia
     subst RX;rw[BN] at L3;exact J _ _ L3 ⋯ (U9 _) RT
    clear_value jp
    refine dG (λRX=>eS (λe=>Vj ⟨hK,.inl ⟨_,rfl,L1.dn sb e TM⟩⟩) λe=>J _ _ L1 (Nat.pos_of_ne_zero e) hm RT) λRX=>?_;have RX:m=na:=by lia
    subst RX;rw[BN] at L1;exact J _ _ L1 h1 (U9 _) RT
   .rintro⟨c,na,nb,out,g,ac,bc⟩ P8 ⟨hK,⟨r,rfl,hr⟩|⟨rfl,hL⟩⟩
    .exact Vj ⟨hK,.inl ⟨r,rfl,hr⟩⟩
    .exact Vc (uG hK λQ3 hK=>Vj ⟨hK,rfl,hL⟩)
 .rintro c P8 ⟨hK,_,hL,h1,Ut,h2,TM,h3⟩;lia
 .rintro⟨c,t⟩ P8 ⟨hK,⟨r,rfl,hr⟩|⟨_,h⟩⟩
  .exact Vj (h r P8 hK hr)
  .exact h.elim
end
end Srt
local macro_rules|`(tactic| walk_at "u4")=>`(tactic| unfold $(Lean.mkIdent (Lean.mkPrivateNameCore `PySem.Builtin.List.W1All `PySem.Builtin.countRun)):ident)
local macro_rules|`(tactic| walk_at "u5")=>`(tactic| unfold $(Lean.mkIdent (Lean.mkPrivateNameCore `PySem.Builtin.List.W1All `PySem.Builtin.binarySort)):ident)
namespace Srt
open PySem PyProof.Rows
def KS(κ:KeyKind)(a:Array Keyed)(lo hi:Nat):Prop:=∀i j,lo<=i->i<=j->j<hi->κ.kle (KK κ a i) (KK κ a j)
def KD(κ:KeyKind)(a:Array Keyed)(lo hi:Nat):Prop:=∀i j,lo<=i->i<=j->j<hi->κ.kle (KK κ a j) (KK κ a i)
structure Ch (st P8:SortSt) (lo hi:Nat):Prop where
 kind:kindOf P8=kindOf st
 pend:pendingOf P8=pendingOf st
 fail:failedOf P8=failedOf st
 perm:(arrOf P8).Perm (arrOf st)
 out:∀i,(i<lo\/hi<=i)->(arrOf P8)[i]?=(arrOf st)[i]?
variable{lo:Nat}
variable{i j:Nat}
section
variable{κ:KeyKind}{st P8 Qe:SortSt}{hi:Nat}
def Ch.rfl:Ch st st lo hi:=⟨.refl _,.refl _,.refl _,.refl _,λ_ _=>.refl _⟩
theorem Ch.trans(h:Ch st P8 lo hi)(h':Ch P8 Qe lo hi):Ch st Qe lo hi :=
 ⟨h'.kind.trans h.kind,h'.pend.trans h.pend,h'.fail.trans h.fail,h'.perm.trans h.perm,λi hi=>(h'.out i hi).trans (h.out i hi)⟩
theorem Ch.size(h:Ch st P8 lo hi):(arrOf P8).size=(arrOf st).size:=h.perm.size_eq
def Ch.has(h:Ch st P8 lo hi)(ha:∀p∈(arrOf st).toList,kL κ p):∀p∈(arrOf P8).toList,kL κ p :=
 λp hp=>ha p ((XT.mp h.perm).mem_iff.mp hp)
theorem Ch.rev(h:Ch st P8 lo hi)(h1:lo<=i)(h2:j<=hi)(h3:j<=(arrOf P8).size):Ch st (setArr P8 (mirror (arrOf P8) i j ((j-i)/2))) lo hi :=
 h.trans ⟨.refl _,.refl _,.refl _,mirror_perm _ _ _ _,λm hm=>by
  show (mirror (arrOf P8) i j ((j-i)/2))[m]?=_;rw[getElem?_mirror_all h3,if_neg ⋯]⟩
theorem Ch.PU(h:Ch st P8 lo hi)(h0:i<=j)(h1:lo<=i)(h2:j<hi)(h3:j<(arrOf P8).size):Ch st (setArr P8 (bubble (arrOf P8) j (j-i))) lo hi :=
 h.trans ⟨.refl _,.refl _,.refl _,bubble_perm _ _ _,λm hm=>by
  show (bubble (arrOf P8) j (j-i))[m]?=_;rw[getElem?_bubble h3 _ ⋯,if_neg ⋯,if_neg ⋯]⟩
def yW{a:Array Keyed}{x:Keyed}(e:a[i]?=some x):KK κ a i=ky κ x:=by unfold KK;rw[e];rfl
def KS.si{a:Array Keyed}(h:KS κ a lo hi):SI κ a lo hi:=λi j x y h1 h2 h3 e1 e2=>by
 have:=h i j h1 h2 h3;rwa[yW e1,yW e2] at this
end
section
variable{prog:Program}{w:World}{A:Around}{E:Value->Shared->Prop}{s:Shared}{κ:KeyKind}{k:SortKind}
def wp_at(hA:kZ prog w A s κ k){st:SortSt}{Q:Option Bool->SortSt->Prop}(hk:kindOf st=k)(ha:∀p∈(arrOf st).toList,kL κ p)(hi:i<(arrOf st).size)(hj:j<(arrOf st).size)(h:Q (some (κ.blt (KK κ (arrOf st) i) (KK κ (arrOf st) j))) st):wpS ↑11 A E s (ltAt' i j) Q st:=by
 obtain⟨x,ex,hx⟩:=el ha hi;obtain⟨y,ey,hy⟩:=el ha hj;refine Gn hA hk ex ey hx hy ?_;rwa[<- yW ex,<- yW ey]
def tW{st:SortSt}{Q:Unit->SortSt->Prop}(h:Q () (setArr st (mirror (arrOf st) i j ((j-i)/2)))):wpS ↑11 A E s (reverseSlice' i j) Q st:=by
 rw[reverseSlice'_eq];exact ZJ h
def MJ:Nat->Nat->Nat->StateT SortSt Sem Bool:=sortPriv% PySem.Builtin.binarySort
def cnt:Nat->Nat->StateT SortSt Sem (Option Nat):=sortPriv% PySem.Builtin.countRun
theorem FD(hA:kZ prog w A s κ k){st:SortSt}{n ok:Nat}{Q:Bool->SortSt->Prop}(hk:kindOf st=k)(ha:∀p∈(arrOf st).toList,kL κ p)(hn:lo+n<=(arrOf st).size)(bJ:ok<=n)(hs:KS κ (arrOf st) lo (lo+ok))(h:∀P8,Ch st P8 lo (lo+n)->KS κ (arrOf P8) lo (lo+n)->Q true P8):wpS ↑11 A E s (MJ lo n ok) Q st:=by
 unfold MJ;walk_at "u5";dsimp only;refine Vc (XS (Xr (I:=λj c P8=>c=(none,())/\Ch st P8 lo (lo+n)/\KS κ (arrOf P8) lo (lo+min j n))
  (Q:=λc P8=>c=(none,())/\Ch st P8 lo (lo+n)/\KS κ (arrOf P8) lo (lo+n)) ?step ?fin ?init) ?post)
 case post =>
  rintro c P8 ⟨rfl,hC,RY⟩;exact Vj (h P8 hC RY)
 case init =>
  refine⟨rfl,Ch.rfl,λi j h1 TB hj=>?_⟩
  by_cases h0:ok=0
  .have:i=j:=by lia
   subst this;exact WZ _
  .exact hs i j h1 TB ⋯
 case fin =>
  rintro c P8 ⟨hc,hC,RY⟩;refine⟨hc,hC,?_⟩
  rwa [show min (max (max ok 1) n) n=n by lia] at RY
 case step =>
  rintro j c P8 hj1 hj2 ⟨rfl,hC,RY⟩;rw[show min j n=j by lia] at RY;have hz:=hC.size;have Uu:=hC.has ha;refine Vc (XS (Xr (I:=λx c Qe=>Qe=P8/\∃l r,c=(none,l,r)/\l<=r/\r<=j/\r-l<=j-x ∧
    (∀i,lo<=i->i<lo+l->κ.kle (KK κ (arrOf P8) i) (KK κ (arrOf P8) (lo+j)))/\(∀i,lo+r<=i->i<lo+j->κ.klt (KK κ (arrOf P8) (lo+j)) (KK κ (arrOf P8) i)))
   (Q:=λc Qe=>Qe=P8/\∃l r,c=(none,l,r)/\l<=j ∧
    (∀i,lo<=i->i<lo+l->κ.kle (KK κ (arrOf P8) i) (KK κ (arrOf P8) (lo+j)))/\(∀i,lo+l<=i->i<lo+j->κ.klt (KK κ (arrOf P8) (lo+j)) (KK κ (arrOf P8) i))) ?s1 ?f1
   ⟨rfl,0,j,rfl,by lia,by lia,by lia,λi _ hi=>by lia,λi h1 h2=>by lia⟩) ?p1)
  case f1 =>
   rintro c Qe ⟨rfl,l,r,rfl,hlr,hrk,hm,h1,h2⟩;have:l=r:=by lia
   subst this;exact⟨rfl,l,l,rfl,hrk,h1,h2⟩
  case s1 =>
   rintro x c Qe _ hx ⟨rfl,l,r,rfl,hlr,hrk,hm,h1,h2⟩;dsimp only
   by_cases hge:l>=r
   .rw[if_pos hge];have:l=r:=by lia
    subst this;exact Vj ⟨rfl,l,l,rfl,hrk,h1,h2⟩
   .rw[if_neg hge];refine Vc (wp_at hA (hC.kind.trans hk) Uu ⋯ ⋯ ?_);dsimp only;cases hb:κ.blt (KK κ (arrOf Qe) (lo+j)) (KK κ (arrOf Qe) (lo+(l+r)/2))
    .exact Vj ⟨rfl,(l+r)/2+1,r,rfl,by lia,by lia,by lia,λi i1 i2=>YR (RY i (lo+(l+r)/2) i1 ⋯ ⋯) hb,h2⟩
    .exact Vj ⟨rfl,l,(l+r)/2,rfl,by lia,by lia,by lia,h1,λi i1 i2=>aaM hb (RY _ _ ⋯ i1 i2)⟩
  case p1 =>
   rintro c Qe ⟨rfl,l,r,rfl,hl,h1,h2⟩;show wpS _ _ _ _ (do moveDown' (lo+j) (lo+l);pure (abv (none,()))) _ _;rw[moveDown'_eq];refine Vc (ZJ (Vj ⟨rfl,hC.PU ⋯ ⋯ ⋯ ⋯,?_⟩));rw[show min (j+1) n=j+1 by lia];have Ue:lo+j<(arrOf Qe).size:=by lia
   intro i i' i1 i2 i3;show κ.kle (KK κ (bubble (arrOf Qe) (lo+j) (lo+j-(lo+l))) i) (KK κ (bubble (arrOf Qe) (lo+j) (lo+j-(lo+l))) i');rw[KK_bubble Ue ⋯,KK_bubble Ue ⋯,show lo+j-(lo+j-(lo+l))=lo+l by lia]
   repeat' split
   all_goals first
    | (exfalso;lia)
    | exact WZ _
    | exact h1 _ ⋯ ⋯
    | exact YF (h2 _ ⋯ ⋯)
    |exact RY _ _ ⋯ ⋯ ⋯
theorem vg{r:κ.α->κ.α->Prop}(rr:∀x,r x x)(rt:∀x y z,r x y->r y z->r x z){a:Array Keyed}{x:Nat}(h:∀i j,lo<=i->i<=j->j<lo+x->r (KK κ a i) (KK κ a j))(h1:1<=x)(hb:r (KK κ a (lo+x-1)) (KK κ a (lo+x))):∀i j,lo<=i->i<=j->j<lo+(x+1)->r (KK κ a i) (KK κ a j):=by
 intro i j i1 i2 i3
 by_cases hj:j<lo+x
 .exact h i j i1 i2 hj
 .have:j=lo+x:=by lia
  subst this
  by_cases hi:i=lo+x
  .subst hi;exact rr _
  .exact rt _ _ _ (h i (lo+x-1) i1 ⋯ ⋯) hb
def KS.next{a:Array Keyed}{x:Nat}(h:KS κ a lo (lo+x))(h1:1<=x)(hb:κ.kle (KK κ a (lo+x-1)) (KK κ a (lo+x))):KS κ a lo (lo+(x+1)):=vg WZ (λ_ _ _=>YR) h h1 hb
def KD.next{a:Array Keyed}{x:Nat}(h:KD κ a lo (lo+x))(h1:1<=x)(hb:κ.kle (KK κ a (lo+x)) (KK κ a (lo+x-1))):KD κ a lo (lo+(x+1)):=vg (r:=λx y=>κ.kle y x) WZ (λ_ _ _ p q=>YR q p) h h1 hb
theorem IJ(hA:kZ prog w A s κ k){st:SortSt}{Qs:Nat}{Q:Option Nat->SortSt->Prop}(hk:kindOf st=k)(ha:∀p∈(arrOf st).toList,kL κ p)(hn:lo+Qs<=(arrOf st).size)(h1:1<=Qs)(h:∀m P8,Ch st P8 lo (lo+Qs)->1<=m->m<=Qs->KS κ (arrOf P8) lo (lo+m)->Q (some m) P8):wpS ↑11 A E s (cnt lo Qs) Q st:=by
 have up:∀(n:Nat)(Rm:SortSt)(f:Nat->Option (Option Nat)×Nat->StateT SortSt Sem (ForInStep (Option (Option Nat)×Nat))){R:Option (Option Nat)×Nat->SortSt->Prop},
   1<=n->n<=Qs->Ch st Rm lo (lo+Qs)->KS κ (arrOf Rm) lo (lo+n) ->
   (∀x i {R':ForInStep (Option (Option Nat)×Nat)->SortSt->Prop},1<=x->x<Qs->(κ.blt (KK κ (arrOf Rm) (lo+x)) (KK κ (arrOf Rm) (lo+x-1))=true->R' (.done (none,x)) Rm) ->
    (κ.blt (KK κ (arrOf Rm) (lo+x)) (KK κ (arrOf Rm) (lo+x-1))=false->R' (.yield (none,x+1)) Rm)->wpS ↑11 A E s (f i (none,x)) R' Rm) ->
   (∀x,1<=x->x<=Qs->KS κ (arrOf Rm) lo (lo+x)->(x=Qs\/κ.klt (KK κ (arrOf Rm) (lo+x)) (KK κ (arrOf Rm) (lo+x-1)))->R (none,x) Rm) ->
   wpS ↑11 A E s (forIn [n:Qs] (none,n) f) R Rm:=by
  intro n Rm f R n1 n2 hC hs hf hR;refine Xr (I:=λx c P8=>P8=Rm/\c=(none,x)/\KS κ (arrOf Rm) lo (lo+x)) ?_ ?_ ⟨rfl,rfl,hs⟩
  .rintro x c P8 UN Uh ⟨rfl,rfl,hs⟩;exact hf x x ⋯ Uh (λhb=>hR x ⋯ ⋯ hs (.inr hb)) λhb=>⟨rfl,rfl,hs.next ⋯ hb⟩
  .rintro c P8 ⟨rfl,rfl,hs⟩;rw[show max n Qs=Qs by lia] at hs ⊢;exact hR Qs h1 (U9 _) hs (.inl rfl)
 unfold cnt;walk_at "u4";refine Vc (up 1 st _ (U9 _) h1 Ch.rfl (λi j i1 i2 i3=>by have:i=j:=⋯;subst this;exact WZ _) (λx i R' x1 x2 r1 r2=>?_) λn hn1 TV hs hor=>?_)
 .refine Vc (wp_at hA hk ha (by show lo+x<_;lia) (by show lo+x-1<_;lia) (dG (λhb=>Vj (r1 hb)) λhb=>Vj (r2 (by simpa using hb))))
 refine eS (λe=>Vj (h n _ Ch.rfl hn1 TV hs)) λe=>?_;have QP:=hor.resolve_left e;have e:n≠Qs:=e;dsimp -zeta only
 extract_lets -underBinder jp
 have J:∀u Rm,Ch st Rm lo (lo+Qs)->KD κ (arrOf Rm) lo (lo+(n+1))->wpS ↑11 A E s (jp u) Q Rm:=by
  intro u Rm hC hD;refine Vc (aaW (Xb ⟨rfl,?_⟩));clear jp;refine Vc (XS (Xr (I:=λx c Qe=>∃RU,c=(none,x,RU)/\Ch st Qe lo (lo+Qs)/\KD κ (arrOf Qe) lo (lo+x)/\RU+1<=x ∧
    (∀i,lo+x-(RU+1)<=i->i<lo+x->KK κ (arrOf Qe) i=KK κ (arrOf Qe) (lo+x-1)))
   (Q:=λc Qe=>∃x RU,c=(none,x,RU)/\1<=x/\x<=Qs/\Ch st Qe lo (lo+Qs)/\KD κ (arrOf Qe) lo (lo+x)/\RU+1<=x ∧
    (∀i,lo+x-(RU+1)<=i->i<lo+x->KK κ (arrOf Qe) i=KK κ (arrOf Qe) (lo+x-1))) ?s2 ?f2 ⟨0,rfl,hC,hD,by lia,λi i1 i2=>by congr 1;lia⟩) ?p2)
  case f2 =>
   rintro c Qe ⟨RU,rfl,hC2,hD2,hq,he⟩;rw[show max (n+1) Qs=Qs by lia] at hD2 hq he ⊢;exact⟨Qs,RU,rfl,by lia,U9 _,hC2,hD2,hq,he⟩
  case s2 =>
   rintro x c Qe UN Uh ⟨RU,rfl,hC2,hD2,hq,he⟩;have hz:=hC2.size;have ha2:=hC2.has ha;refine Vc (wp_at hA (hC2.kind.trans hk) ha2 (by show lo+x<_;lia) (by show lo+x-1<_;lia) (dG (λhb=>?_) λhb=>?_))
   .have N:=hD2.next ⋯ (YF hb);refine dG (λTZ=>Vc (tW (Vj ⟨0,rfl,hC2.rev (by show lo<=lo+x-(RU+1);lia) (by show lo+x<=_;lia) (by show lo+x<=_;lia),λi j i1 i2 i3=>?_,by lia,λi i1 i2=>by congr 1;lia⟩))) λTZ=>Vj ⟨0,rfl,hC2,N,by lia,λi i1 i2=>by congr 1;lia⟩;show κ.kle (KK κ (mirror (arrOf Qe) (lo+x-(RU+1)) (lo+x) ((lo+x-(lo+x-(RU+1)))/2)) j) (KK κ (mirror (arrOf Qe) (lo+x-(RU+1)) (lo+x) ((lo+x-(lo+x-(RU+1)))/2)) i);rw[YA ⋯ he,YA ⋯ he];exact N i j i1 i2 i3
   .refine Vc (wp_at hA (hC2.kind.trans hk) ha2 (by show lo+x-1<_;lia) (by show lo+x<_;lia) (dG (λ_=>Vj ⟨x,RU,rfl,by lia,by lia,hC2,hD2,hq,he⟩) λhb2=>?_));have eqx:KK κ (arrOf Qe) (lo+x)=KK κ (arrOf Qe) (lo+x-1):=ab4 (XZ hb2) (XZ hb);refine Vj ⟨RU+1,rfl,hC2,hD2.next ⋯ (by rw[eqx];exact WZ _),by lia,λi i1 i2=>?_⟩;rw[show lo+(x+1)-1=lo+x by lia,eqx]
    by_cases hi:i=lo+x
    .subst hi;exact eqx
    .exact he i ⋯ ⋯
  case p2 =>
   rintro c Qe ⟨m,RU,rfl,hm1,hm2,hC2,hD2,hq,he⟩;have hz:=hC2.size
   extract_lets -underBinder r1 s1 n1 q1
   subst r1 s1 n1 q1;dsimp -zeta only
   extract_lets -underBinder jp
   have J:∀u RJ,Ch st RJ lo (lo+Qs)->KD κ (arrOf RJ) lo (lo+m)->wpS ↑11 A E s (jp u) Q RJ:=by
    intro u RJ Tw hD3;refine Vc (tW ?_);clear jp;have UP:=Tw.size;have S4:KS κ (arrOf (setArr RJ (mirror (arrOf RJ) lo (lo+m) ((lo+m-lo)/2)))) lo (lo+m):=by
     intro i j i1 i2 i3;show κ.kle (KK κ (mirror (arrOf RJ) _ _ _) i) (KK κ (mirror (arrOf RJ) _ _ _) j);rw[KK_mirror ⋯,KK_mirror ⋯,if_pos ⋯,if_pos ⋯];exact hD3 _ _ ⋯ ⋯ ⋯
    have Uc:=Tw.rev (i:=lo) (j:=lo+m) (U9 _) ⋯ ⋯;generalize setArr RJ (mirror (arrOf RJ) lo (lo+m) ((lo+m-lo)/2))=Q3 at S4 Uc ⊢;have hz4:=Uc.size;refine Vc (up m Q3 _ hm1 hm2 Uc S4 (λx i R' x1 x2 r1 r2=>?_) λx x1 x2 hs _=>Vj (h x _ Uc x1 x2 hs));exact Vc (wp_at hA (Uc.kind.trans hk) (Uc.has ha) (by show lo+x<_;lia) (by show lo+x-1<_;lia) (dG (λhb=>Vj (r1 hb)) λhb=>Vj (r2 (by simpa using hb))))
   clear_value jp
   refine dG (λTZ=>Vc (tW (J _ _ (hC2.rev (i:=lo+m-(RU+1)) (j:=lo+m) ⋯ ⋯ ⋯) λi j i1 i2 i3=>?_))) λTZ=>J _ _ hC2 hD2;show κ.kle (KK κ (mirror (arrOf Qe) _ _ _) j) (KK κ (mirror (arrOf Qe) _ _ _) i);rw[YA ⋯ he,YA ⋯ he];exact hD2 i j i1 i2 i3
 clear_value jp
 refine dG (λhg=>Vc (wp_at hA hk ha ⋯ (by show lo+n-1<_;lia) (dG (λ_=>Vj (h n _ Ch.rfl hn1 TV hs)) λhr=>Vc (tW (J _ _ ((Ch.rfl (st:=st) (lo:=lo) (hi:=lo+Qs)).rev (i:=lo) (j:=lo+n) (U9 _) ⋯ ⋯) λi j i1 i2 i3=>?_))))) λhg=>J _ _ Ch.rfl (KD.next (λi j i1 i2 i3=>by have:i=j:=⋯;subst this;exact WZ _) hn1 (YF QP));have heq:∀m,lo<=m->m<lo+n->KK κ (arrOf st) m=KK κ (arrOf st) (lo+n-1):=λm m1 m2 =>
  ab4 (hs m (lo+n-1) m1 ⋯ ⋯) (YR (XZ hr) (hs lo m ⋯ m1 m2))
 show κ.kle (KK κ (mirror (arrOf st) _ _ _) j) (KK κ (mirror (arrOf st) _ _ _) i);rw[YA ⋯ heq,YA ⋯ heq]
 by_cases hj:j<lo+n
 .rw[heq i i1 ⋯,heq j ⋯ hj];exact WZ _
 .have:j=lo+n:=by lia
  subst this
  by_cases hi:i=lo+n
  .subst hi;exact WZ _
  .rw[heq i i1 ⋯];exact YF QP
end
end Srt
local macro_rules|`(tactic| walk_at "u6")=>`(tactic| unfold $(Lean.mkIdent (Lean.mkPrivateNameCore `PySem.Builtin.List.W1All `PySem.Builtin.mergeAt)):ident)
namespace Srt
open PySem PyProof.Rows
theorem yE(b:Nat)(S:List Keyed):∀(l O P:List Keyed)(off:Nat)(arr:Array Keyed),arr.toList=P++O++S->O.length=l.length->P.length=b+off ->((l.zipIdx off).foldl (λ(a:Array Keyed) (x:Keyed×Nat)=>a.setIfInBounds (b+x.2) x.1) arr).toList=P++l++S
 | [],O,P,off,arr,h,hl,hp=>by
  have:O=[]:=aaY.mp hl;subst this;simpa using h
 | x::l,[],P,off,arr,h,hl,hp=>by simp at hl
 | x::l,o::O,P,off,arr,h,hl,hp=>by
  rw[XM,ZY,yE b S l O (P++[x]) (off+1) _ _ (by simpa using hl) (by simp[hp];lia)]
  .simp
  .rw[aaq,h,<- hp];simp[adf]
def Le{a:Array Keyed}{P O S:List Keyed}(h:a.toList=P++O++S):(a.extract P.length (P.length+O.length)).toList=O:=by
 rw[Array.toList_extract,h];simp[List.extract]
def Fj{P O O' S:List Keyed}(h:O.length=O'.length)(i:Nat)(hi:i<P.length\/P.length+O.length<=i):(P++O++S)[i]?=(P++O'++S)[i]?:=by
 rw[WB,WB];rcases hi with hi|hi
 .rw[VZ hi,VZ hi]
 .rw[VL ⋯,VL ⋯,VL ⋯,VL ⋯,h]
def EH{κ:KeyKind}{a:Array Keyed}{lo hi:Nat}(h:(a.extract lo hi).toList.Pairwise (le κ)):SI κ a lo hi:=by
 intro i j x y h1 h2 h3 e1 e2;have b1:=f9 e1;have b2:=f9 e2;rcases VT i j with QP|hge
 .have hz:(a.extract lo hi).toList.length=min hi a.size-lo:=by rw[VJ,WJ]
  have q:∀m z,lo<=m->m<hi->m<a.size->a[m]?=some z->(a.extract lo hi).toList[m-lo]?=some z:=by
   intro m z m1 m2 m3 e;rwa[V3,Wu,if_pos ⋯,show lo+(m-lo)=m by lia]
  have p1:=q i x h1 ⋯ b1 e1;have p2:=q j y ⋯ h3 b2 e2;rw[aay] at h;obtain⟨b1,p1⟩:=VI.mp p1;obtain⟨b2,p2⟩:=VI.mp p2;have:=h (i-lo) (j-lo) b1 b2 ⋯;rwa[p1,p2] at this
 .have:i=j:=by lia
  subst this;rw[e1] at e2;cases e2;exact le_refl _
def iZ{a:Array Keyed}{i j:Nat}(h:j<=a.size):(a.extract i j).toList.length=j-i:=by
 rw[VJ,WJ];lia
section
variable{prog:Program}{w:World}{A:Around}{E:Value->Shared->Prop}{s:Shared}{κ:KeyKind}{k:SortKind}
def N7:Nat->StateT SortSt Sem Bool:=sortPriv% PySem.Builtin.mergeAt
theorem BE{p:Array (Nat×Nat×Nat)}{L1 L2:List (Nat×Nat×Nat)}{x y v:Nat×Nat×Nat}(h:p.toList=L1++x::y::L2):((p.setIfInBounds L1.length v).eraseIdxIfInBounds (L1.length+1)).toList=L1++v::L2:=by
 have hz:L1.length+1<(p.setIfInBounds L1.length v).size:=by
  rw[Array.size_setIfInBounds,<- VJ,h];simp
 unfold Array.eraseIdxIfInBounds;rw[dif_pos hz,Array.toList_eraseIdx,aaq,h];simp[adf,List.eraseIdx_append];intro h';lia
theorem merged{arr:Array Keyed}{m na nb j l:Nat}{r:Array Keyed}(hz:m+na+nb<=arr.size)(s1:SI κ arr m (m+na))(s2:SI κ arr (m+na) (m+na+nb))(hj:j<=na)(hl:l<=nb)(n1:j<na)(n2:0<l)(lo1:∀i y z,m<=i->i<m+j->arr[i]?=some y->arr[m+na]?=some z->le κ y z)(hi2:∀i y z,m+na+l<=i->i<m+na+nb->arr[i]?=some y->arr[m+na-1]?=some z->le κ z y)(hr:Good κ (arr.extract (m+j) (m+na)) (arr.extract (m+na) (m+na+l)) r):∀ R4:Array Keyed,R4=r.toList.zipIdx.foldl (λa (x:Keyed×Nat)=>a.setIfInBounds (m+j+x.2) x.1) arr ->R4.Perm arr/\(∀i,i<m\/m+na+nb<=i->R4[i]?=arr[i]?)/\SI κ R4 m (m+na+nb):=by
 rintro R4 rfl;have d1:arr.toList=(arr.extract 0 (m+j)).toList++((arr.extract (m+j) (m+na)).toList++(arr.extract (m+na) (m+na+l)).toList)++(arr.extract (m+na+l) arr.size).toList:=by
  rw[<- kP arr ⋯ ⋯,<- kP arr ⋯ ⋯,<- kP arr ⋯ ⋯];simp
 have hlen:((arr.extract (m+j) (m+na)).toList++(arr.extract (m+na) (m+na+l)).toList).length=r.toList.length:=hr.2.length_eq.symm;have TF:r.toList.length=na-j+l:=by
  rw[<- hlen,Vw,iZ ⋯,iZ ⋯];lia
 have d2:=yE (m+j) (arr.extract (m+na+l) arr.size).toList r.toList _ (arr.extract 0 (m+j)).toList 0 arr d1 hlen (by rw[iZ ⋯];lia);generalize r.toList.zipIdx.foldl (λa (x:Keyed×Nat)=>a.setIfInBounds (m+j+x.2) x.1) arr=R4 at d2 ⊢;refine⟨?_,?_,?_⟩
 .refine XT.mpr ?_;rw[d1,d2];exact Zs _ (YC _ hr.2)
 .intro i hi;rw[<- V3,<- V3,d1,d2];refine Fj hlen.symm i ?_;rw[iZ ⋯,TF];lia
 .have d3:R4.toList=(arr.extract 0 m).toList++((arr.extract m (m+j)).toList++r.toList++(arr.extract (m+na+l) (m+na+nb)).toList)++(arr.extract (m+na+nb) arr.size).toList:=by
   rw[d2,kP arr (show 0<=m by lia) (show m<=m+j by lia),kP arr (show m+na+l<=m+na+nb by lia) hz];simp only[WB]
  have d4:=Le d3;rw[iZ ⋯] at d4;have hl4:((arr.extract m (m+j)).toList++r.toList++(arr.extract (m+na+l) (m+na+nb)).toList).length=na+nb:=by
   rw[Vw,Vw,iZ ⋯,iZ ⋯,TF];lia
  rw[hl4,show m-0+(na+nb)=m+na+nb by lia,show m-0=m by lia] at d4;refine EH ?_;rw[d4];obtain⟨z0,e0⟩:∃z,arr[m+na]?=some z:=⟨_,getElem?_pos arr (m+na) ⋯⟩
  obtain⟨zl,el⟩:∃z,arr[m+na-1]?=some z:=⟨_,getElem?_pos arr (m+na-1) ⋯⟩
  have X0:∀y∈(arr.extract m (m+j)).toList,∀i z,m+j<=i->i<m+na+nb->arr[i]?=some z->le κ y z:=by
   intro y hy i z i1 i2 i3;obtain⟨i',a1,a2,a3⟩:=cM.mp hy;rcases VT i (m+na) with QP|hge
   .exact s1 i' i y z a1 ⋯ QP a3 i3
   .exact le_trans (lo1 i' y z0 a1 a2 a3 e0) (s2 (m+na) i z0 z ⋯ hge i2 e0 i3)
  have Y1:∀y∈(arr.extract (m+na+l) (m+na+nb)).toList,∀i z,m<=i->i<m+na+l->arr[i]?=some z->le κ z y:=by
   intro y hy i z i1 i2 i3;obtain⟨i',a1,a2,a3⟩:=cM.mp hy;rcases VT i (m+na) with QP|hge
   .exact le_trans (s1 i (m+na-1) z zl i1 ⋯ ⋯ i3 el) (hi2 i' y zl a1 a2 a3 el)
   .exact s2 i i' z y hge ⋯ a2 i3 a3
  have hm:∀y∈r.toList,∃i,m+j<=i/\i<m+na+l/\arr[i]?=some y:=by
   intro y hy;rcases Wc.mp (hr.2.mem_iff.mp hy) with hy|hy
   .obtain⟨i,a1,a2,a3⟩:=cM.mp hy;exact⟨i,a1,by lia,a3⟩
   .obtain⟨i,a1,a2,a3⟩:=cM.mp hy;exact⟨i,by lia,a2,a3⟩
  rw[WB,W9,W9];refine⟨s1.pw (U9 _) ⋯,⟨hr.1,s2.pw ⋯ (U9 _),λx hx y hy=>?_⟩,λx hx y hy=>?_⟩
  .obtain⟨i,a1,a2,a3⟩:=hm x hx;exact Y1 y hy i x ⋯ a2 a3
  .rcases Wc.mp hy with hy|hy
   .obtain⟨i,a1,a2,a3⟩:=hm y hy;exact X0 x hx i y a1 ⋯ a3
   .obtain⟨i,a1,a2,a3⟩:=cM.mp hy;exact X0 x hx i y ⋯ ⋯ a3
theorem SI.join{a:Array Keyed}{l m h:Nat}(s1:SI κ a l m)(s2:SI κ a m h)(c:∀i j x y,l<=i->i<m->m<=j->j<h->a[i]?=some x->a[j]?=some y->le κ x y):SI κ a l h:=by
 intro i j x y h1 h2 h3 e1 e2
 by_cases hj:j<m
 .exact s1 i j x y h1 h2 hj e1 e2
 .by_cases hi:i<m
  .exact c i j x y h1 hi ⋯ h3 e1 e2
  .exact s2 i j x y ⋯ h2 h3 e1 e2
def j5{a:Array Keyed}{i j:Nat}(ha:∀p∈a.toList,kL κ p):∀p∈(a.extract i j).toList,kL κ p:=λp hp=>by
 obtain⟨m,_,_,e⟩:=cM.mp hp;exact ha p (by rw[abF];exact⟨m,by rwa[V3]⟩)
theorem yK{a:Array Keyed}{i j:Nat}(h:SI κ a i j):SI κ (a.extract i j) 0 (a.extract i j).size:=by
 intro m n x y h1 h2 h3 e1 e2;rw[Wu] at e1 e2;rw[WJ] at h3;rw[if_pos ⋯] at e1 e2;exact h _ _ x y ⋯ ⋯ ⋯ e1 e2
def JS{st Rm:SortSt}{Q:PUnit->SortSt->Prop}(h:Q ⟨⟩ Rm):wpS ↑11 A E s (set Rm:StateT SortSt Sem PUnit) Q st:=by
 unfold wpS;rw[StateT.run_set];exact U7 ⟨rfl,h⟩
set_option maxHeartbeats 1000000 in
def JW(hA:kZ prog w A s κ k){st:SortSt}{L1 L2:List (Nat×Nat×Nat)}{m na nb pw TH:Nat}{Q:Bool->SortSt->Prop}(hk:kindOf st=k)(ha:∀p∈(arrOf st).toList,kL κ p)(hf:failedOf st=none)(hp:(pendingOf st).toList=L1++(m,na,pw)::(m+na,nb,TH)::L2)(n1:1<=na)(n2:1<=nb)(hz:m+na+nb<=(arrOf st).size)(s1:SI κ (arrOf st) m (m+na))(s2:SI κ (arrOf st) (m+na) (m+na+nb))(h:∀P8,kindOf P8=k->(arrOf P8).Perm (arrOf st)->failedOf P8=none->(pendingOf P8).toList=L1++(m,na+nb,pw)::L2 ->(∀i,i<m\/m+na+nb<=i->(arrOf P8)[i]?=(arrOf st)[i]?)->SI κ (arrOf P8) m (m+na+nb)->Q true P8):wpS ↑11 A E s (N7 L1.length) Q st:=by
 unfold N7;walk_at "u6";dsimp only;refine Vc (aaa ?_);have p1:(pendingOf st)[L1.length]?=some (m,na,pw):=by rw[<- V3,hp];simp
 have p2:(pendingOf st)[L1.length+1]?=some (m+na,nb,TH):=by rw[<- V3,hp];simp
 have pn:=BE (v:=(m,na+nb,pw)) hp;have hg:∀i,i<(arrOf st).size->∃x,(arrOf st)[i]?=some x/\kL κ x:=λi hi=>el ha hi;rw[show (_,_)=(some (m,na,pw),some (m+na,nb,TH)) from Prod.ext p1 p2];dsimp only;refine Vc (JS ?_);obtain⟨z0,e0,hz0⟩:=hg (m+na) ⋯;obtain⟨zl,el',hzl⟩:=hg (m+na-1) ⋯;refine Vc (bI e0 (Vc (u4 hA hk hz0 (by show m+na<=(arrOf st).size;lia) ha ⋯ s1 λj hj R0 Sd=>?_)));dsimp only
 by_cases ej:na-j=0
 .rw[if_pos (by simpa using ej)];refine Vj (h _ hk (.refl _) hf pn (λ_ _=>rfl) ?_);exact s1.join s2 λi i' x y a1 a2 a3 a4 b1 b2=>le_trans (R0 i x a1 ⋯ b1) (s2 (m+na) i' z0 y ⋯ a3 a4 e0 b2)
 rw[if_neg (by simpa using ej)];refine Vc (bI (p:=zl) (by rw[show m+j+(na-j)-1=m+na-1 by lia];exact el') (Vc (uW hA hk hzl (by show m+na+nb<=(arrOf st).size;lia) ha ⋯ s2 λl hl hlo2 UB=>?_)));dsimp only
 by_cases el0:l=0
 .rw[if_pos (by simpa using el0)];refine Vj (h _ hk (.refl _) hf pn (λ_ _=>rfl) ?_);exact s1.join s2 λi i' x y a1 a2 a3 a4 b1 b2=>le_trans (s1 i (m+na-1) x zl a1 ⋯ ⋯ b1 el') (UB i' y ⋯ a4 b2)
 rw[if_neg (by simpa using el0)];have M:=λr (hr:Good κ _ _ r)=>merged (r:=r) hz s1 s2 hj hl ⋯ ⋯ (λi y z a1 a2 b1 b2=>by rw[e0] at b2;cases b2;exact R0 i y a1 a2 b1)
  (λi y z a1 a2 b1 b2=>by rw[el'] at b2;cases b2;exact UB i y a1 a2 b1) hr _ rfl
 have q1:1<=((arrOf st).extract (m+j) (m+na)).size:=by rw[WJ];lia
 have q2:1<=((arrOf st).extract (m+na) (m+na+l)).size:=by rw[WJ];lia
 have q3:∀x y,((arrOf st).extract (m+j) (m+na))[0]?=some x->((arrOf st).extract (m+na) (m+na+l))[0]?=some y->lt κ y x:=by
  intro x y a1 a2;rw[Wu,if_pos ⋯] at a1 a2;rw[abg] at a1 a2;rw[e0] at a2;cases a2;exact Sd _ x ⋯ ⋯ a1
 have q4:∀(i i':Nat)(x y:Keyed),i+1=((arrOf st).extract (m+j) (m+na)).size->((arrOf st).extract (m+j) (m+na))[i]?=some x->((arrOf st).extract (m+na) (m+na+l))[i']?=some y->lt κ y x:=by
  intro i i' x y a0 a1 a2;have a3:=f9 a2;rw[WJ] at a0 a3;rw[Wu,if_pos ⋯] at a1 a2;rw[show m+j+i=m+na-1 by lia,el'] at a1;cases a1;exact hlo2 _ y ⋯ ⋯ a2
 by_cases hle:na-j<=l
 all_goals first
  | (rw[if_pos hle];refine Vc (K_ hA hk (j5 ha) (j5 ha) (yK (s1.mono ⋯ ⋯)) (yK (s2.mono ⋯ ⋯)) q1 q2 q3 q4 λr P8 hK hr=>?_))
  | (rw[if_neg hle];refine Vc (I0 hA hk (j5 ha) (j5 ha) (yK (s1.mono ⋯ ⋯)) (yK (s2.mono ⋯ ⋯)) q1 q2 q3 q4 λr P8 hK hr=>?_))
 all_goals
  obtain⟨r1,r2,r3⟩:=M r hr;refine Vc (ZJ (Vc (aaa ?_)));have hf':failedOf P8=none:=hK.fail.trans hf;have Uu:arrOf P8=arrOf st:=hK.arr;have UA:(failedOf P8).isNone=true:=by rw[hf'];rfl
  refine Vj (Q:=Q) ?_;show Q (failedOf P8).isNone _;rw[UA];refine h _ (hK.kind.trans hk) ?_ hf' ((congrArg acq hK.pend).trans pn) ?_ ?_
  .show (r.toList.zipIdx.foldl (λa (x:Keyed×Nat)=>a.setIfInBounds (m+j+x.2) x.1) (arrOf P8)).Perm _;rwa[Uu]
  .show ∀i,_->(r.toList.zipIdx.foldl (λa (x:Keyed×Nat)=>a.setIfInBounds (m+j+x.2) x.1) (arrOf P8))[i]?=_;rwa[Uu]
  .show SI κ (r.toList.zipIdx.foldl (λa (x:Keyed×Nat)=>a.setIfInBounds (m+j+x.2) x.1) (arrOf P8)) _ _;rwa[Uu]
end
end Srt
local macro_rules|`(tactic| walk_at "u7")=>`(tactic| unfold $(Lean.mkIdent (Lean.mkPrivateNameCore `PySem.Builtin.List.W1All `PySem.Builtin.sortRuns)):ident)
namespace Srt
open PySem PyProof.Rows
def Pn(κ:KeyKind)(a:Array Keyed):Nat->List (Nat×Nat×Nat)->Nat->Prop
 | lo,[],hi=>lo=hi
 |lo,e::L,hi=>e.1=lo/\1<=e.2.1/\SI κ a lo (lo+e.2.1)/\Pn κ a (lo+e.2.1) L hi
section
variable{κ:KeyKind}{a a':Array Keyed}
theorem Pn.app:∀{L L':List (Nat×Nat×Nat)}{lo m hi:Nat},Pn κ a lo L m->Pn κ a m L' hi->Pn κ a lo (L++L') hi
 | [],L',lo,m,hi,h,h'=>by cases h;exact h'
 |e::L,L',lo,m,hi,⟨h1,h2,h3,h4⟩,h'=>⟨h1,h2,h3,Pn.app h4 h'⟩
theorem Pn.le:∀{L:List (Nat×Nat×Nat)}{lo hi:Nat},Pn κ a lo L hi->lo+L.length<=hi
 | [],lo,hi,h=>by cases h;exact U9 _
 |e::L,lo,hi,⟨h1,h2,h3,h4⟩=>by have:=Pn.le h4;simp only[VF];lia
theorem Pn.congr:∀{L:List (Nat×Nat×Nat)}{lo hi:Nat},Pn κ a lo L hi->(∀i,lo<=i->i<hi->a'[i]?=a[i]?)->Pn κ a' lo L hi
 | [],lo,hi,h,_=>h
 | e::L,lo,hi,⟨h1,h2,h3,h4⟩,hc=>⟨h1,h2,λi j x y i1 i2 i3 e1 e2=>by
   have:=Pn.le h4;rw[hc i i1 ⋯] at e1;rw[hc j ⋯ ⋯] at e2;exact h3 i j x y i1 i2 i3 e1 e2,Pn.congr h4 λi i1 i2=>hc i ⋯ i2⟩
theorem Pn.map:∀{L L':List (Nat×Nat×Nat)}{lo hi:Nat},L'.map (λe=>(e.1,e.2.1))=L.map (λe=>(e.1,e.2.1))->Pn κ a lo L hi->Pn κ a lo L' hi
 | [],[],_,_,_,h=>h
 | [],_::_,_,_,hm,_=>by simp at hm
 | _::_,[],_,_,hm,_=>by simp at hm
 | e::L,e'::L',lo,hi,hm,⟨h1,h2,h3,h4⟩=>by
  rw[Vu,Vu] at hm;obtain⟨hx,hm⟩:=List.cons.inj hm;obtain⟨q1,q2⟩:=ac5 hx;exact⟨q1.trans h1,by rwa[q2],by rwa[q2],by rw[q2];exact Pn.map hm h4⟩
theorem pR{α β:Type}(g:α->β)(f:α->α)(hf:∀x,g (f x)=g x):∀(L:List α)(i:Nat),(L.modify i f).map g=L.map g
 | [],i=>by cases i<;>rfl
 | x::L,0=>by simp[List.modify,List.modifyTailIdx,adl,List.modifyHead,hf]
 |x::L,i+1=>by rw[List.modify_succ_cons,Vu,Vu,pR g f hf L i]
theorem Pn.at:∀{L:List (Nat×Nat×Nat)}{j lo hi:Nat},Pn κ a lo L hi->j+1<L.length->∃L1 L2 m na nb pw TH,L=L1++(m,na,pw)::(m+na,nb,TH)::L2/\L1.length=j ∧1<=na/\1<=nb/\SI κ a m (m+na)/\SI κ a (m+na) (m+na+nb)/\Pn κ a lo L1 m/\Pn κ a (m+na+nb) L2 hi
 | [],j,lo,hi,h,hj=>by simp at hj
 | [_],j,lo,hi,h,hj=>by simp at hj
 | (x1,x2,x3)::(y1,y2,y3)::L,0,lo,hi,⟨h1,h2,h3,h4,h5,h6,h7⟩,hj=>by
  cases h1;cases h4;exact⟨[],L,x1,x2,y2,x3,y3,rfl,rfl,h2,h5,h3,h6,rfl,h7⟩
 | (x1,x2,x3)::y::L,j+1,lo,hi,⟨h1,h2,h3,h4⟩,hj=>by
  obtain⟨L1,L2,m,na,nb,pw,TH,e,hl,b1,b2,b3,b4,b5,b6⟩:=Pn.at (j:=j) h4 (by simpa using hj);exact⟨(x1,x2,x3)::L1,L2,m,na,nb,pw,TH,by rw[e];rfl,by simp[hl],b1,b2,b3,b4,⟨h1,h2,h3,b5⟩,b6⟩
end
structure Ok (κ:KeyKind) (k:SortKind) (a0:Array Keyed) (st:SortSt):Prop where
 kind:kindOf st=k
 perm:(arrOf st).Perm a0
 fail:failedOf st=none
section
variable{prog:Program}{w:World}{A:Around}{E:Value->Shared->Prop}{s:Shared}{κ:KeyKind}{k:SortKind}{a0:Array Keyed}
theorem Ok.size{st:SortSt}(h:Ok κ k a0 st):(arrOf st).size=a0.size:=h.perm.size_eq
def Ok.has{st:SortSt}(h:Ok κ k a0 st)(ha:∀p∈a0.toList,kL κ p):∀p∈(arrOf st).toList,kL κ p :=
 λp hp=>ha p ((XT.mp h.perm).mem_iff.mp hp)
def Di(hA:kZ prog w A s κ k)(ha:∀p∈a0.toList,kL κ p){st:SortSt}{j hi:Nat}{Q:Bool->SortSt->Prop}(hO:Ok κ k a0 st)(hP:Pn κ (arrOf st) 0 (pendingOf st).toList hi)(hj:j+1<(pendingOf st).size)(hz:hi<=a0.size)(h:∀P8,Ok κ k a0 P8->Pn κ (arrOf P8) 0 (pendingOf P8).toList hi->(pendingOf P8).size+1=(pendingOf st).size->(∀i,hi<=i->(arrOf P8)[i]?=(arrOf st)[i]?)->Q true P8):wpS ↑11 A E s (N7 j) Q st:=by
 obtain⟨L1,L2,m,na,nb,pw,TH,e,rfl,b1,b2,b3,b4,b5,b6⟩:=hP.at (j:=j) hj;have hm:=b6.le;refine JW hA hO.kind (hO.has ha) hO.fail e b1 b2 (by rw[hO.size];lia) b3 b4 λP8 c1 c2 c3 c4 c5 c6=>h P8 ⟨c1,c2.trans hO.perm,c3⟩ ?_ ?_ λi hi=>c5 i ⋯
 .rw[c4];exact(b5.congr λi _ i2=>c5 i (.inl i2)).app ⟨rfl,by show 1<=na+nb;lia,by rwa[Nat.add_assoc] at c6,by
   show Pn κ _ (m+(na+nb)) L2 hi;rw[<- Nat.add_assoc];exact b6.congr λi i1 _=>c5 i (.inr i1)⟩
 .rw[<- VJ,<- VJ,c4,e];simp only[Vw,VF];lia
theorem ix{c:Prop}[Decidable c]{n:Nat}(h:2<=n):(if c then n-2-1 else n-2)+1<n:=by split<;>lia
def Pf:StateT SortSt Sem Unit:=sortPriv% PySem.Builtin.sortRuns
def K9(hA:kZ prog w A s κ k)(ha:∀p∈a0.toList,kL κ p){st:SortSt}{Q:Unit->SortSt->Prop}(hO:Ok κ k a0 st)(hp:pendingOf st=#[])(h1:1<=a0.size)(h:∀P8,Ok κ k a0 P8->SI κ (arrOf P8) 0 a0.size->Q () P8):wpS ↑11 A E s Pf Q st:=by
 unfold Pf;walk_at "u7";dsimp only;refine Vc (aaa ?_);have hsz:=hO.size;rw[show (PyProof.Rows.arrOf st).size=a0.size from hsz];refine Vc (XS (Xr (I:=λx c P8=>∃lo,c=(none,lo)/\Ok κ k a0 P8/\Pn κ (arrOf P8) 0 (pendingOf P8).toList lo/\lo<=a0.size/\(x<=lo\/lo=a0.size))
  (Q:=λc P8=>c=(none,a0.size)/\Ok κ k a0 P8/\Pn κ (arrOf P8) 0 (pendingOf P8).toList a0.size) ?step ?fin ⟨0,rfl,hO,by rw[hp];rfl,by lia,.inl ⋯⟩) ?post)
 case fin =>
  rintro c P8 ⟨lo,rfl,hO',hP,h2,h3⟩;have:lo=a0.size:=by lia
  subst this;exact⟨rfl,hO',hP⟩
 case step =>
  rintro x c P8 _ hx ⟨lo,rfl,hO',hP,h2,h3⟩;dsimp only
  by_cases hge:lo>=a0.size
  .rw[if_pos hge];have:lo=a0.size:=by lia
   subst this;exact Vj ⟨rfl,hO',hP⟩
  rw[if_neg hge];have hz:=hO'.size;refine Vc (IJ hA hO'.kind (hO'.has ha) ⋯ ⋯ λn Qe hC n1 n2 hS=>?_);dsimp only;generalize (sortPriv% PySem.Builtin.minRun) a0.size a0.size 0=M;have O2:Ok κ k a0 Qe:=⟨hC.kind.trans hO'.kind,hC.perm.trans hO'.perm,hC.fail.trans hO'.fail⟩
  have P2:Pn κ (arrOf Qe) 0 (pendingOf Qe).toList lo:=by
   rw[hC.pend];exact hP.congr λi _ i2=>hC.out i (.inl i2)
  by_cases QP:n<M
  all_goals first
   | (rw[if_pos QP];refine Vc (aaW (Xb ⟨rfl,?_⟩));have S8:=O2.size;refine Vc (FD hA O2.kind (O2.has ha) ⋯ ⋯ hS λRJ Tw hS3=>?_);rw[if_neg ↑13];have O3:Ok κ k a0 RJ:=⟨Tw.kind.trans O2.kind,Tw.perm.trans O2.perm,Tw.fail.trans O2.fail⟩;have P3:Pn κ (arrOf RJ) 0 (pendingOf RJ).toList lo:=(by rw[Tw.pend];exact P2.congr λi _ i2=>Tw.out i (.inl i2));have S3:=hS3.si;have m1:1<=min (a0.size-lo) M:=⋯;have m2:lo+min (a0.size-lo) M<=a0.size:=⋯;generalize min (a0.size-lo) M=n3 at S3 m1 m2 ⊢)
   | (rw[if_neg QP];have O3:=O2;have P3:=P2;have S3:=hS.si;have m1:=n1;have m2:lo+n<=a0.size:=⋯)
  all_goals
   refine Vc (aaa ?_);have F:∀(Q3:SortSt)(v:Nat),Ok κ k a0 Q3->∀L:Array (Nat×Nat×Nat),Pn κ (arrOf Q3) 0 L.toList lo->1<=v->lo+v<=a0.size->SI κ (arrOf Q3) lo (lo+v) ->
     ∃l,((none:Option Unit),lo+v)=(none,l)/\Ok κ k a0 (setPending Q3 (L.push (lo,v,0)))/\Pn κ (arrOf Q3) 0 (L.push (lo,v,0)).toList l/\l<=a0.size/\(x+1<=l\/l=a0.size) :=
    λQ3 v o4 L p4 v1 v2 s4=>⟨lo+v,rfl,⟨o4.kind,o4.perm,o4.fail⟩,by rw[aaF];exact p4.app ⟨rfl,v1,s4,rfl⟩,v2,.inl ⋯⟩
   rcases hb:(pendingOf _).back? with _|⟨s1,w1,pw⟩
   .exact Vc (ZJ (Vj (F _ _ O3 _ P3 m1 m2 S3)))
   dsimp only;refine Vc (XS (Xr (I:=λ_ c Q3=>c=(none,())/\Ok κ k a0 Q3/\Pn κ (arrOf Q3) 0 (pendingOf Q3).toList lo/\SI κ (arrOf Q3) lo _)
    (Q:=λc Q3=>c=(none,())/\Ok κ k a0 Q3/\Pn κ (arrOf Q3) 0 (pendingOf Q3).toList lo/\SI κ (arrOf Q3) lo _) ?s1 (λ_ _ h=>h) ⟨rfl,O3,P3,S3⟩) ?p1)
   case s1 =>
    rintro y c Q3 _ hy ⟨rfl,o4,p4,s4⟩;refine Vc (aaa ?_)
    by_cases Dw:(pendingOf Q3).size>1
    .rw[if_pos Dw];obtain⟨⟨u1,u2,u3⟩,hu⟩:∃u,(pendingOf Q3)[(pendingOf Q3).size-2]?=some u:=⟨_,getElem?_pos (pendingOf Q3) ((pendingOf Q3).size-2) ⋯⟩
     rw[hu];dsimp only
     split
     .exact Vj ⟨rfl,o4,p4,s4⟩
     .refine Vc (Di hA ha o4 p4 (by show (pendingOf Q3).size-2+1<(pendingOf Q3).size;lia) ⋯ λTK o5 p5 _ q5=>?_);exact Vj ⟨rfl,o5,p5,λi j a b i1 i2 i3 e1 e2=>by rw[q5 i i1] at e1;rw[q5 j ⋯] at e2;exact s4 i j a b i1 i2 i3 e1 e2⟩
    .rw[if_neg Dw];exact Vj ⟨rfl,o4,p4,s4⟩
   case p1 =>
    rintro c Q3 ⟨rfl,o4,p4,s4⟩;dsimp only;refine Vc (ZJ (Vc (ZJ (Vj ?_))));exact F Q3 _ o4 _ (Pn.map (by rw[Array.toList_modify];refine pR _ _ ?_ _ _;exact λ_=>rfl) p4) m1 m2 s4
 case post =>
  rintro c P8 ⟨rfl,hO',hP⟩;dsimp only;have hl:=hP.le;rw[VJ] at hl;refine Vc (XS (Xr (I:=λx c Qe=>c=(none,())/\Ok κ k a0 Qe/\Pn κ (arrOf Qe) 0 (pendingOf Qe).toList a0.size/\(pendingOf Qe).size<=max 1 (a0.size-x))
   (Q:=λc Qe=>c=(none,())/\Ok κ k a0 Qe/\Pn κ (arrOf Qe) 0 (pendingOf Qe).toList a0.size/\(pendingOf Qe).size<=1) ?s2 ?f2 ⟨rfl,hO',hP,by lia⟩) ?p2)
  case f2 =>
   rintro c Qe ⟨rfl,o2,p2,z2⟩;exact⟨rfl,o2,p2,by lia⟩
  case s2 =>
   rintro x c Qe _ hx ⟨rfl,o2,p2,z2⟩;refine Vc (aaa ?_)
   by_cases hs1:(pendingOf Qe).size<=1
   .rw[if_pos hs1];exact Vj ⟨rfl,o2,p2,hs1⟩
   rw[if_neg hs1];refine Vc (Di hA ha o2 p2 ?_ (U9 _) λRJ o3 p3 z3 _=>?_)
   .exact ix (n:=(pendingOf Qe).size) ⋯
   .exact Vj ⟨rfl,o3,p3,by lia⟩
  case p2 =>
   rintro c Qe ⟨rfl,o2,p2,z2⟩;refine Vj (h Qe o2 ?_);rw[<- VJ] at z2;revert p2 z2;cases (pendingOf Qe).toList with
   | nil=>intro p2 _;have:0=a0.size:=p2;lia
   | cons e L =>
    cases L with
    | nil=>rintro⟨q1,q2,q3,q4⟩ _;have:0+e.2.1=a0.size:=q4;rwa[this] at q3
    |cons e' L=>intro _ z;simp at z
end
end Srt
local macro_rules|`(tactic| walk_at "u8")=>`(tactic| unfold $(Lean.mkIdent (Lean.mkPrivateNameCore `PySem.Builtin.List.W1All `PySem.Builtin.keyLt)):ident)
namespace Srt
open PySem PyProof.Rows
theorem yw:∀a:List Int,HT.lexLt a a=false
 | []=>rfl
 |x::a=>by rw[HT.bA,if_pos rfl];exact yw a
theorem Er:∀a b c:List Int,HT.lexLt a b=true->HT.lexLt b c=true->HT.lexLt a c=true
 | [],[],_,h,_=>by cases h
 | [],_::_,[],_,h=>by cases h
 | [],_::_,_::_,_,_=>rfl
 | _::_,[],_,h,_=>by cases h
 | _::_,_::_,[],_,h=>by cases h
 | x::a,y::b,z::c,h,h'=>by
  rw[HT.bA] at h h' ⊢
  by_cases e:x=y
  .subst e;rw[if_pos rfl] at h
   split
   .rename_i e;rw[if_pos e] at h';exact Er a b c h h'
   .rename_i e;rw[if_neg e] at h';exact h'
  .rw[if_neg e] at h;have h:=of_decide_eq_true h
   by_cases e':y=z
   .subst e';rw[if_neg e];exact decide_eq_true h
   .rw[if_neg e'] at h';have h':=of_decide_eq_true h';rw[if_neg ⋯];exact decide_eq_true ⋯
theorem yr:∀a b c:List Int,HT.lexLt a c=true->HT.lexLt a b=true\/HT.lexLt b c=true
 | [],[],_::_,_=>.inr rfl
 | [],_::_,_,_=>.inl rfl
 | [],[],[],h=>by cases h
 | _::_,_,[],h=>by cases h
 | _::_,[],_::_,_=>.inr rfl
 | x::a,y::b,z::c,h=>by
  rw[HT.bA] at h;rw[HT.bA,HT.bA]
  by_cases e:x=z
  .subst e;rw[if_pos rfl] at h
   by_cases e':x=y
   .subst e';rw[if_pos rfl,if_pos rfl];exact yr a b c h
   .rw[if_neg e',if_neg (λz=>e' z.symm)]
    by_cases q:x<y
    .exact .inl (decide_eq_true q)
    .exact .inr (decide_eq_true ⋯)
  .rw[if_neg e] at h;have h:=of_decide_eq_true h
   by_cases e':x=y
   .subst e';rw[if_neg e];exact .inr (decide_eq_true h)
   .by_cases q:x<y
    .rw[if_neg e'];exact .inl (decide_eq_true q)
    .rw[if_neg (show ¬ y=z by lia)];exact .inr (decide_eq_true ⋯)
theorem xX:∀a b:List Int,HT.lexLt a b=false->HT.lexLt b a=false->a=b
 | [],[],_,_=>rfl
 | [],_::_,h,_=>by cases h
 | _::_,[],_,h=>by cases h
 | x::a,y::b,h,h'=>by
  rw[HT.bA] at h h'
  by_cases e:x=y
  .subst e;rw[if_pos rfl] at h h';rw[xX a b h h']
  .rw[if_neg e] at h;rw[if_neg (λz=>e z.symm)] at h';have h:=of_decide_eq_false h;have h':=of_decide_eq_false h';lia
def TI(h:Heap)(v:Value)(ns:List Int):Prop:=∃a items,v=.ref a/\h.IsTuple a items/\IntsAre items.toList ns/\ns≠[]
theorem v_:∀{vs:List Value}{ns ms:List Int},IntsAre vs ns->IntsAre vs ms->ns=ms
 | _,_,_,.nil,h=>by cases h;rfl
 |_,_,_,.cons n t h,h'=>by cases h' with|cons _ _ h'=>rw[v_ h h']
variable{ns:List Int}{v:Value}{h:Heap}
def TI.one{ms:List Int}(a:TI h v ns)(b:TI h v ms):ns=ms:=by
 obtain⟨a,i,rfl,⟨o,h1,_,n,h2⟩,h3,_⟩:=a;obtain⟨b,j,e,⟨p,g1,_,m,g2⟩,g3,_⟩:=b;cases e;rw[h1] at g1;cases g1;rw[h2] at g2;cases g2;exact v_ h3 g3
open Classical in
def kt(h:Heap):KeyKind where
 α:=List Int
 blt:=HT.lexLt
 irrefl:=yw
 trans:=Er
 negTrans:=yr
 total:=xX
 keyOf v:=if hx:∃ns,TI h v ns then some (choose hx) else none
 dflt:=[]
open Classical in
def BY(t:TI h v ns):(kt h).keyOf v=some ns:=by
 show (if hx:∃ns,TI h v ns then some (aaZ hx) else none)=some ns;rw[dif_pos ⟨ns,t⟩];exact congrArg some ((ZC (⟨ns,t⟩:∃ns,TI h v ns)).one t)
open Classical in
def Hy(t:(kt h).keyOf v=some ns):TI h v ns:=by
 have t:(if hx:∃ns,TI h v ns then some (aaZ hx) else none)=some ns:=t
 split at t
 .rename_i hx;cases t;exact ZC hx
 .cases t
variable{Q:Bool->Shared->Prop}{b:Bool}
section
variable{prog:Program}{w:World}{A:Around}{E:Value->Shared->Prop}{s:Shared}
def Ha{a c:Int}{t u:Tok}(h:Q (decide (a<c)) s):wpAny ↑11 A (oneLt' b (.int a t) (.int c u)) Q E s:=by
 cases b
 .rw[oneLt'_eq];simp only[V7,if_false];refine TZ (HT.wK A s a t c u prog w _ _ ?_);exact Xa h
 .exact oneLt_int h
theorem Jf{x y:Value}{ms:List Int}(hx:TI s.heap x ns)(hy:TI s.heap y ms)(h:Q (HT.lexLt ns ms) s):wpAny ↑11 A (keyLt' (tuples' b) x y) Q E s:=by
 unfold keyLt';walk_at "u8";dsimp only;obtain⟨a,i,rfl,⟨o,h1,_,n,h2⟩,h3,_⟩:=hx;obtain⟨c,j,rfl,⟨p,g1,_,m,g2⟩,g3,_⟩:=hy;refine TZ (abh h1 h2 (TZ (abh g1 g2 ?_)));have z1:i.size=ns.length:=by rw[<- h3.length];simp
 have z2:j.size=ms.length:=by rw[<- g3.length];simp
 refine TZ (Xi (wpAny_forIn_list _ (λrest z s'=>z=(none,())/\s'=s/\∃(vs ws:List Value)(Sw Sv:List Int)(k:Nat),rest=(vs.zip ws).zipIdx k/\IntsAre vs Sw/\IntsAre ws Sv ∧
   Sw.length+ms.length=Sv.length+ns.length/\HT.lexLt Sw Sv=HT.lexLt ns ms) (λz s'=>s'=s/\(z.1=some (HT.lexLt ns ms)\/z.1=none/\decide (i.size<j.size)=HT.lexLt ns ms)) ?_ ?_ _ _
   ⟨rfl,rfl,i.toList,j.toList,ns,ms,0,rfl,h3,g3,abc _ _,rfl⟩) (λz s' q=>?_) λ_ _ q=>q)
 .rintro⟨⟨p,q⟩,k'⟩ rest z s' ⟨rfl,rfl,vs,ws,Sw,Sv,k,e,i1,i2,hl,hx⟩;cases i1 with
  | nil=>rw[aaD] at e;cases e
  | cons a t i1 =>
   cases i2 with
   | nil=>rw[ach] at e;cases e
   | cons c u i2 =>
    rw[Wq,XM] at e;injection e with e er
    injection e with e ek
    injection e with e1 e2
    subst e1 e2;rw[HT.bA] at hx;simp only[VF] at hl;obtain⟨v,hv,SG⟩:=HT.vG A s' a t c u;refine TZ (hv prog w _ _ ?_);cases v with
    | true =>
     rw[if_pos (SG.mp rfl)] at hx;exact U7 ⟨rfl,rfl,_,_,_,_,_,er,i1,i2,by lia,hx⟩
    | false =>
     rw[if_neg (λq=>VQ (SG.mpr q))] at hx;exact TZ (Ha (U7 ⟨rfl,.inl (congrArg some hx)⟩))
 .rintro z s' ⟨rfl,rfl,vs,ws,Sw,Sv,k,e,i1,i2,hl,hx⟩;refine⟨rfl,.inr ⟨rfl,?_⟩⟩;rw[z1,z2,<- hx];cases i1 with
  | nil =>
   cases i2 with
   | nil=>exact decide_eq_false (by simp only[X7] at hl;lia)
   | cons _ _ i2=>exact decide_eq_true (by simp only[X7,VF] at hl;lia)
  | cons _ _ i1 =>
   cases i2 with
   | nil=>exact decide_eq_false (by simp only[X7,VF] at hl;lia)
   | cons _ _ i2=>rw[Wq,XM] at e;cases e
 .obtain⟨rfl,q|⟨q,q'⟩⟩:=q
  .rw[q];exact U7 h
  .rw[q];dsimp only;rw[q'];exact U7 h
def J0:kZ prog w A s (kt s.heap) (tuples' b):=⟨λ_ _ _ _ _ _ hx hy h=>Jf (Hy hx) (Hy hy) h⟩
theorem wp_map{α β:Type}{f:α->Sem β}{R:α->β->Prop}:∀(l:List α){Q:List β->Shared->Prop},(∀v∈l,∀(Q':β->Shared->Prop),(∀r,R v r->Q' r s)->wpAny ↑11 A (f v) Q' E s) ->(∀rs,(∀r∈rs,∃v∈l,R v r)->rs.length=l.length->Q rs s)->wpAny ↑11 A (l.mapM f) Q E s
 | [],_,_,h=>by rw[List.mapM_nil];exact U7 (h [] (λ_ q=>nomatch q) rfl)
 | x::l,Q,hf,h=>by
  rw[List.mapM_cons];refine TZ (hf x (.head _) _ λr hr=>TZ (wp_map l (R:=R) (λv hv=>hf v (.tail _ hv)) λrs hrs hl=>U7 (h _ (λr' q=>?_) (by simp[hl]))));rcases Vn.mp q with rfl|q
  .exact⟨x,.head _,hr⟩
  .obtain⟨v,hv,q⟩:=hrs r' q;exact⟨v,.tail _ hv,q⟩
def JM{vs:List Value}{Q:SortKind->Shared->Prop}(hv:∀v∈vs,∃ns,TI s.heap v ns)(h:∀b,Q (tuples' b) s):wpAny ↑11 A (keyKind' vs.toArray) Q E s:=by
 rw[keyKind'_eq,acG,map_eq_pure_bind];refine TZ (TZ (wp_map (R:=λ_ r=>∃n t,r=some (ZE n t)) _ (λv Tp Q' q=>?_) λrs hrs _=>U7 ?_))
 .obtain⟨ns,a,i,rfl,⟨o,h1,hc,n,h2⟩,h3,h4⟩:=hv v Tp;rw[PySem.W.kas_first_eq];refine TZ (Zp (T := "tuple") ⟨o,h1,hc⟩ ?_);rw[if_neg (by rw[bne_self_eq_false'];exact VQ)];refine TZ (abh h1 h2 (U7 (q _ ?_)));generalize hi:i.toList=l at h3;cases h3 with
  | nil=>exact absurd rfl h4
  | cons n t _=>exact⟨n,t,by rw[<- V3,hi];rfl⟩
 .rw[if_pos (by
   simp only[List.all_toArray,WM];intro r hr;obtain⟨_,_,n,t,rfl⟩:=hrs r hr;rfl)]
  refine TZ (Xb ?_);rw[oneTypeOnly'_eq,List.filterMap_toArray,acG,map_eq_pure_bind];refine TZ (TZ (TZ (wp_map (R:=λ_ _=>True) _ (λv Tp Q' q=>?_) λrs' _ _=>U7 ?_)))
  .obtain⟨x,hx,e⟩:=aah.mp Tp;obtain⟨_,_,n,t,rfl⟩:=hrs x hx;cases e;exact U7 (q _ trivial)
  .split
   .exact U7 (U7 (h _))
   .exact U7 (U7 (h _))
end
end Srt
namespace Srt
open PySem PyProof.Rows
def qC(vs:List Value):(pairsOf vs).toList=vs.map λv=>(v,v):=by
 unfold pairsOf;simp only[List.zip_toArray,List.toList_toArray]
 induction vs with
 | nil=>rfl
 |cons v vs ih=>rw[Wq,ih];rfl
def Up(h:Heap)(l:List Value):Prop:=l.Pairwise λv w=>∀ns ms,TI h v ns->TI h w ms->HT.lexLt ms ns=false
variable{vs:List Value}
def Ju{h:Heap}{xs:Array Keyed}(hp:xs.Perm (pairsOf vs))(hs:SI (kt h) xs 0 xs.size):(xs.map (·.2)).toList.Perm vs/\Up h (xs.map (·.2)).toList:=by
 have hp:=XT.mp hp;rw[qC] at hp;have hm:∀p∈xs.toList,p.1=p.2:=λp Su=>by
  obtain⟨v,_,rfl⟩:=VH.mp (hp.mem_iff.mp Su);rfl
 rw[Array.toList_map];constructor
 .have:=hp.map (·.2);rw[VC] at this;refine this.trans ?_;rw[show ((λx:Value×Value=>x.2)∘λv=>(v,v))=id from rfl,YJ]
 .unfold Up;rw[YG];have hw:=hs.pw (i:=0) (j:=xs.size) (Vd _) (U9 _);rw[Array.extract_size] at hw;refine Yk (λ{p q} h1 h2 hpq ns ms t1 t2=>?_) hw;rw[<- hm p h1] at t1;rw[<- hm q h2] at t2;have:HT.lexLt (ky (kt h) q) (ky (kt h) p)=false:=hpq;rwa[show ky (kt h) q=ms from by unfold ky;rw[BY t2];rfl,show ky (kt h) p=ns from by unfold ky;rw[BY t1];rfl] at this
def TI.keep{h h':Heap}{v:Value}{ns:List Int}(k:∀b o,h.get? b=some o->o.cls=.type "tuple" -> h'.get? b=some o)(t:TI h v ns):TI h' v ns:=by
 obtain⟨a,i,e,⟨o,h1,hc,n,h2⟩,r⟩:=t;exact⟨a,i,e,⟨o,k a o h1 hc,hc,n,h2⟩,r⟩
section
variable{prog:Program}{w:World}{A:Around}{E:Value->Shared->Prop}{s:Shared}
theorem Gg{a:Addr}{n:Nat}{P:PySem.Fin->Shared->Prop}(ho:s.heap.get? a=some (seqObj "list" vs.toArray n))(hv:∀v∈vs,∃ns,TI s.heap v ns)(hz:vs.length<=sizeLine)(h:∀out:Array Value,out.toList.Perm vs->Up s.heap out.toList->P (.done (.ret .none)) { s with heap:=sortedHeap s.heap a vs out }):wpAny ↑11 A (Builtin.«list.sort» ⟨[.ref a],[]⟩) P E s:=by
 rw[list_sort_plain];have la:a<s.heap.objs.size:=Vb ho;have hsz:vs.toArray.size=vs.length:=Vg;refine TZ (abh ho rfl (TZ (ab7 ho rfl ?_ (by rwa[hsz]))));obtain⟨e1,o1⟩:∃e,(s.heap.update a (WG λ_=>#[])).get? a=some (seqObj "list" #[] e):=⟨_,get?_update_seq ho _⟩
 refine TZ (seqEpoch_at o1 rfl (TZ (abR (TZ (wpAny_newList (Wx ?_))))));show wpAny ↑11 A _ P E { s with heap:=((s.heap.update a (WG λ_=>#[])).push (seqObj "tuple" vs.toArray 0)).push (seqObj "list" #[] 0) };generalize hh6:((s.heap.update a (WG λ_=>#[])).push (seqObj "tuple" vs.toArray 0)).push (seqObj "list" #[] 0)=h6;have o6:h6.get? a=some (seqObj "list" #[] e1):=by rw[<- hh6];exact U3 _ (U3 _ o1)
 have k6:∀b o,s.heap.get? b=some o->o.cls=.type "tuple" -> h6.get? b=some o:=λb o e c=>by
  rw[<- hh6];refine U3 _ (U3 _ ((Vv _ _ (λz=>?_)).trans e));subst z;rw[ho] at e;cases e;exact absurd c ↑13
 have hv6:∀v∈vs,∃ns,TI h6 v ns:=λv q=>(hv v q).imp λns t=>t.keep k6;have end_:∀st:SortSt,(arrOf st).Perm (pairsOf vs)->SI (kt h6) (arrOf st) 0 (arrOf st).size->P (.done (.ret .none)) { s with heap:=sortedHeap s.heap a vs ((arrOf st).map (·.2)) }:=λst p q=>by
  obtain⟨r1,r2⟩:=Ju p q;refine h _ r1 (aaG (λ{v w} q ns ms t1 t2=>q ns ms (t1.keep k6) (t2.keep k6)) r2)
 dsimp only
 by_cases h2:vs.toArray.size<2
 .rw[if_pos h2,if_pos h2];refine TZ (U7 ?_);rw[StateT.run_pure];refine TZ (U7 ?_);dsimp only;refine TZ (seqEpoch_at o6 rfl (TZ (ab7 o6 rfl ?_ (Vd _) (by
   rw[adi];show (pairsOf vs).size<=_;rw[abi];exact acH hz))))
  simp only[bne_self_eq_false,V7,if_false];refine U7 ?_;rw[<- hh6] at end_ ⊢;exact end_ (SortSt.mk' general' (vs.toArray.zip vs.toArray) #[] 7 none) (adg _) (λi j x y i1 i2 i3 ex ey=>by
   have:i=j:=by
    have:(pairsOf vs).size=vs.length:=abi vs;have i3:j<(pairsOf vs).size:=i3;lia
   subst this;rw[ex] at ey;cases ey;exact le_refl _)
 .rw[if_neg h2,if_neg h2];refine TZ (JM hv6 λb=>?_);refine TZ (Xi (K9 (s:={ s with heap:=h6 }) (κ:=kt h6) (k:=tuples' b) (a0:=pairsOf vs) (st:=SortSt.mk' (tuples' b) (vs.toArray.zip vs.toArray) #[] 7 none)
   (Q:=λ_ st=>failedOf st=none/\(arrOf st).Perm (pairsOf vs)/\SI (kt h6) (arrOf st) 0 (pairsOf vs).size) J0 (λp hp=>?_) ⟨rfl,adg _,rfl⟩ rfl (by rw[abi];lia)
   λst o q=>⟨o.fail,o.perm,q⟩) (λr s' q=>?_) λ_ _ e=>e)
  .rw[qC] at hp;obtain⟨v,q,rfl⟩:=VH.mp hp;obtain⟨ns,t⟩:=hv6 v q;exact⟨ns,BY t⟩
  .obtain⟨⟨⟩,st⟩:=r;obtain⟨rfl,f,p,q⟩:=q;dsimp only;refine TZ (seqEpoch_at o6 rfl (TZ (ab7 o6 rfl ?_ (Vd _) (by
    refine Vz (aa8 ((adi ..).trans (p.size_eq.trans (abi _)))) ?_;exact acH hz))))
   rw[show failedOf st=none from f];simp only[bne_self_eq_false,V7,if_false];refine U7 ?_;rw[<- p.size_eq] at q;rw[<- hh6] at end_ q ⊢;exact end_ st p q
def Em{l:Addr}{Q:Value->Shared->Prop}(hl:s.heap.IsList l vs.toArray)(hv:∀v∈vs,∃ns,TI s.heap v ns)(hz:vs.length<=sizeLine)(h:∀out:Array Value,out.toList.Perm vs->Up s.heap out.toList->Q (.ref (s.heap.objs.size+1)) { s with heap:=sortedAll s.heap vs out }):wpAny ↑11 A (call (.builtin "sorted") [.ref l]) Q E s:=by
 refine Calls.call_function_entry kind_sorted plain_sorted entry_sorted (args_sorted1 _) ?_;unfold Builtin.«sorted»;refine TZ (m:=checkCount "sorted" 1 1 _) (U7 (TZ (collect_list hl (TZ (wpAny_newList ?_)) hz)));have z:((s.heap.push (seqObj "list" #[] 0)).update s.heap.objs.size (WG (·++vs.toArray))).objs.size=s.heap.objs.size+1:=(Heap.size_update ..).trans (size_push' ..);generalize hg:((s.heap.push (seqObj "list" #[] 0)).update s.heap.objs.size (WG (·++vs.toArray))).push (seqObj "list" vs.toArray 0)=g;have og:g.get? (s.heap.objs.size+1)=some (seqObj "list" vs.toArray 0):=by rw[<- hg,<- z];exact U_ _ rfl
 have kg:∀b o,s.heap.get? b=some o->g.get? b=some o:=λb o e=>by
  rw[<- hg];exact U3 _ ((Vv _ _ (WX (Vb e))).trans (U3 _ e))
 show wpAny _ _ _ _ _ { s with heap:=g };rw[z];refine TZ (Wx (Wb slot_list_sort ⟨_,og,rfl⟩ entry_list_sort (Gg (s:={ s with heap:=g }) og (λv q=>(hv v q).imp λns t=>t.keep λb o e _=>kg b o e) hz λout p q=>⟨_,rfl,?_⟩) (args_list_sort _)));refine U7 ⟨_,rfl,?_⟩;have:=h out p (aaG (λ{v w} q ns ms t1 t2=>q ns ms (t1.keep λb o e _=>kg b o e) (t2.keep λb o e _=>kg b o e)) q);unfold sortedAll at this;rwa[hg] at this
end
end Srt
namespace L2
open PySem PySem.Spec PyProof.Rows
variable{x:Str}{i:Nat}{f:af->M PV}{e:Expr}{X:Cx}
variable{px:Pos}
section
variable{E:XK}{pos:Pos}
def xr(i:Nat)(f:af->M PV):af->M Out:=λenv=>match env[i]? with
 | some (some (.ow xs))=>(f env).bind λp=>match p with
  | .lst ys=>if xs.length+ys.length<=sizeLine then M.ok (.nx (env.set i (some (.ow (xs++ys))))) else none
  | _=>none
 |_=>none
def sx{apos Qj:Pos}(hi:X.N[i]?=some x)(hv:AK X.env.scope x)(he:PE X e (tE (λ_=>E) f))(hd:autoParam ↑7 aD._auto_1)(QI:autoParam ↑6 aD._auto_1)(Q5:autoParam (attributeBase (.Name x px) "extend" X.env (eval (.Name x px) X.env)=eval (.Name x px) X.env) aR._auto_1)(SF:autoParam (((backTo Qj (starEach [e] X.env)).all (λx=>!x.1)&&(backToKw Qj (keywordEach [] X.env)).all (λx=>x.1.isSome) && decide (([e]:List Expr).length+([]:List Keyword).length+(if ([]:List Keyword).isEmpty then 0 else 1)<30))=true) aR._auto_1)(Q6:autoParam ((apos.endLine==Qj.line)=true) aR._auto_1)(QQ:autoParam (starEach [e] X.env=(false,eval e X.env)::starEach [] X.env) aR._auto_1)(RB:autoParam ((backTo Qj (starEach [] X.env)).any (·.1)=false) aR._auto_1)(hs:autoParam (swapsWith (.Call (.Attribute (.Name x px) "extend" apos) [e] [] Qj) none pos.line X.env=pure false) aR._auto_1):PS X (.Expr (.Call (.Attribute (.Name x px) "extend" apos) [e] [] Qj) pos) (tS E (xr i f)):=by
 refine(oG (HA Ze PySem.F.slot_list_extend PySem.F.type_list_extend zE (ji hi hv hd QI) (fY he kW QQ) Q5 SF Q6 QQ RB) hs).imp λD σ H q=>?_;obtain⟨B,H₀,Hs,env,sr,q⟩:=q;unfold xr at q
 split at q
 .rename_i xs ex;obtain⟨a,vs,h1,h2,h3,h4,h5⟩:=sr.ow i xs ex;refine⟨.ref a,h1,.inl ⟨rfl,vs,gR.of h2⟩,B,H₀,Hs,env,sr,(aw.bind q).imp (λp hp v P9 H' g r=>?_) λe he=>he.grow sr.gr⟩
  split at hp
  .rename_i ys
   by_cases hz:xs.length+ys.length<=sizeLine
   .rw[if_pos hz] at hp;have RI:=sr.grow g;cases r with
    | lst hb r =>
     have r5:=(h5.mono g.st).append r;exact⟨a,_,vs,_,rfl,rfl,g.al _ _ h2,g.sub _ _ hb,by rwa[<- h5.length,<- r.length],hp σ P9 _ (RI.put ex h1 r5)⟩
   .rw[if_neg hz] at hp;exact hp.elim
  .exact hp.elim
 .exact q.elim
end
def Hu(K:U5):List V->Hp->VK->Prop:=λxs H Q=>∃(l:Addr)(as:List Addr),xs=[.ref l]/\gR K H l (as.map V.ref)/\(∀a∈as,∃ns:List Int,H a=some (.tup (ns.map V.int))/\ns≠[]) ∧
 ∀(p:Addr)(bs:List Addr),H p=none->bs.Perm as->(bs.Pairwise λa b=>∀ns ms:List Int,H a=some (.tup (ns.map V.int))->H b=some (.tup (ms.map V.int))->HT.lexLt ms ns=false)->Q (.ref p) (upd H p (.lst (bs.map V.ref)))
def adr:Value->Addr
 | .ref a=>a
 |_=>default
theorem mj:∀{as:List Addr}{us:List Value},Vals (as.map V.ref) us->us=as.map Vf
 | [],_,.nil=>rfl
 |_::_,_,.cons h t=>by cases h;rw[mj t];rfl
theorem sj:∀(as:List Addr),Vals (as.map V.ref) (as.map Vf)
 | []=>.nil
 |_::as=>.cons rfl (sj as)
def AI:cQ X (.builtin "sorted") (Hu X.K):=by
 intro PZ s σ H xs us Q I r h;obtain⟨l,as,rfl,hq,hn,q⟩:=h;obtain⟨u,rfl,rx⟩:=vals1 r;cases rx;obtain⟨P7,r',pl,hz⟩:=I.list hq;have hus:=mj r';subst hus;have tu:∀(a:Addr)(ns:List Int),H a=some (.tup (ns.map V.int))->ns≠[]->Srt.TI s.heap (.ref a) ns:=λa ns e ne=>by
  obtain⟨P7,r1,p1,_⟩:=I.tuple (gm.of e);exact⟨a,_,rfl,p1,intsAre_of r1,ne⟩
 refine Srt.Em pl.isList (λv hv=>?_) (by rw[U8] at hz ⊢;exact hz) λout p up=>?_
 .obtain⟨a,ha,rfl⟩:=VH.mp hv;obtain⟨ns,e,ne⟩:=hn a ha;exact⟨ns,tu a ns e ne⟩
 .have pa:(out.toList.map adr).Perm as:=by
   have:=p.map adr
   rwa [VC,show adr∘Vf=id from rfl,YJ] at this
  have eo:out.toList=(out.toList.map adr).map Vf:=by
   rw[VC];refine(YJ _).symm.trans (XF λv hv=>?_);obtain⟨a,_,rfl⟩:=VH.mp (p.mem_iff.mp hv);rfl
  obtain⟨c,e⟩:=sortedAll_at s.heap (as.map Vf) out;have hl:(out.toList.map adr).length=as.length:=pa.length_eq;refine⟨.ref (s.heap.objs.size+1),_,I.laid (t':=s.toks) (λb o e=>sortedAll_old e) (ZQ _) (show bG X.prog X.w _ _ _ (.lst ((out.toList.map adr).map V.ref)) from
   ⟨by rw[U8,hl];rwa[U8] at hz,(out.toList.map adr).map Vf,c,sj _,by rwa[<- eo]⟩),rfl,q _ _ (I.bJ.fresh (ZQ _)) pa ?_⟩
  rw[eo] at up;have up:=YG.mp up;refine Yk (λ{a b} ha hb up ns ms e1 e2=>?_) up;have ne:∀a∈out.toList.map adr,∀ns:List Int,H a=some (.tup (ns.map V.int))->ns≠[]:=λa ha ns e=>by
   obtain⟨ms,e',ne⟩:=hn a (pa.mem_iff.mp ha);rw[e] at e';rintro rfl;cases ms with
   | nil=>exact ne rfl
   | cons _ _=>cases e'
  exact up ns ms (tu _ _ e1 (ne a ha ns e1)) (tu _ _ e2 (ne b hb ms e2))
def pT:List PV->Option (List (List Int))
 | []=>some []
 | p::ps=>match Ci p,pT ps with
  | some (n::ns),some ks=>some ((n::ns)::ks)
  |_,_=>none
def kU(ks:List (List Int)):List (List Int):=ks.mergeSort λa b=>!HT.lexLt b a
def HU(E:St->XK)(r:List V->Hp->VK->Prop)(o:List PV->M (List PV)):Prop:=∀(σ:St)(Hs H:Hp)(ps:List PV)(vs:List V)(Q:VK),bb Hs H->aL Hs ps vs->aw (o ps) (KO Q Hs H) (XW (E σ) Hs H)->r vs H Q
def zd:List PV->M (List PV)
 | [.lst xs]=>match pT xs with
  | some ks=>M.ok ((kU ks).map λns=>.tup (ns.map PV.int))
  | _=>none
 |_=>none
def BP(a b c:List Int):(!HT.lexLt b a)=true->(!HT.lexLt c b)=true->(!HT.lexLt c a)=true:=by
 intro h1 h2;cases h:HT.lexLt c a
 .rfl
 .rcases Srt.yr c b a h with q|q
  .rw[q] at h2;exact h2
  .rw[q] at h1;exact h1
def wb(a b:List Int):((!HT.lexLt b a)||(!HT.lexLt a b))=true:=by
 cases h:HT.lexLt b a
 .rfl
 .cases h':HT.lexLt a b
  .rfl
  .have:=Srt.Er _ _ _ h h';rw[Srt.yw] at this;cases this
def nr(ks:List (List Int)):(kU ks).Perm ks:=List.mergeSort_perm _ _
def rY(ks:List (List Int)):(kU ks).Pairwise λa b=>HT.lexLt b a=false :=
 aaG (λ{a b} h=>by simpa using h) (List.pairwise_mergeSort BP wb ks)
theorem xK:∀{l l':List (List Int)},l.Perm l'->(l.Pairwise λa b=>HT.lexLt b a=false)->(l'.Pairwise λa b=>HT.lexLt b a=false)->l=l'
 | [],_,p,_,_=>p.nil_eq
 | x::l,[],p,_,_=>absurd p.length_eq ↑13
 | x::l,y::l',p,h,h'=>by
  rw[List.pairwise_cons] at h h';have e:x=y:=by
   rcases Vn.mp (p.mem_iff.mp (.head _)) with e|e
   .exact e
   .rcases Vn.mp (p.symm.mem_iff.mp (.head _)) with e'|e'
    .exact e'.symm
    .exact Srt.xX _ _ (h'.1 x e) (h.1 y e')
  subst e;rw[xK p.cons_inv h.2 h'.2]
theorem mr{Hs:Hp}:∀{xs:List PV}{vs:List V}{ks:List (List Int)},aL Hs xs vs->pT xs=some ks->∃as:List Addr,vs=as.map V.ref/\as.length=ks.length/\(∀a k,(a,k)∈as.zip ks->Hs a=some (.tup (k.map V.int))/\k≠[])
 | _,_,_,.nil,e=>by cases e;exact⟨[],rfl,rfl,λ_ _ h=>nomatch h⟩
 | _,_,_,.cons (p:=p) (ps:=ps) h t,e=>by
  unfold pT at e
  split at e
  .rename_i n ns ks h1 h2;cases e;obtain⟨a,rfl,ea⟩:=zK h h1;obtain⟨as,rfl,hl,hk⟩:=mr t h2;refine⟨a::as,rfl,by simp[hl],λb k q=>?_⟩;rw[Wq] at q;rcases Vn.mp q with e|q
   .cases e;exact⟨ea,List.cons_ne_nil _ _⟩
   .exact hk b k q
  .cases e
theorem tf{Hs:Hp}:∀{as:List Addr}{ks:List (List Int)},as.length=ks.length->(∀a k,(a,k)∈as.zip ks->Hs a=some (.tup (k.map V.int)))->aL Hs (ks.map λns=>.tup (ns.map PV.int)) (as.map V.ref)
 | [],[],_,_=>.nil
 |a::as,k::ks,hl,h=>.cons (.tup (h a k (.head _)) (repL_ints _ k)) (tf (by simpa using hl) λb m q=>h b m (.tail _ q))
where repL_ints (Hs:Hp):∀ns:List Int,aL Hs (ns.map PV.int) (ns.map V.int)
 | []=>.nil
 |n::ns=>.cons (.int n) (repL_ints Hs ns)
def Bu:List V->List Int
 | .int i::t=>i::Bu t
 |_=>[]
theorem rW:∀ns:List Int,Bu (ns.map V.int)=ns
 | []=>rfl
 |n::ns=>congrArg (n::·) (rW ns)
def Cz(H:Hp)(a:Addr):List Int:=match H a with
 | some (.tup vs)=>Bu vs
 |_=>[]
variable{H:Hp}
def yG{a:Addr}{ns:List Int}(h:H a=some (.tup (ns.map V.int))):Cz H a=ns:=by
 unfold Cz;rw[h];exact rW ns
theorem keys_map{H:Hp}:∀{as:List Addr}{ks:List (List Int)},as.length=ks.length->(∀a k,(a,k)∈as.zip ks->H a=some (.tup (k.map V.int))/\k≠[])->as.map (Cz H)=ks
 | [],[],_,_=>rfl
 |a::as,k::ks,hl,h=>by rw[Vu,yG (h a k (.head _)).1,keys_map (by simpa using hl) λb m q=>h b m (.tail _ q)]
variable{E:St->XK}
theorem GH{K:U5}:HU E (Hu K) zd:=by
 intro σ Hs H ps vs Q s r h;unfold zd at h
 split at h
 .rename_i xs;obtain⟨v,rfl,rp⟩:=r.one
  split at h
  .rename_i ks hk;cases rp with
   | lst hl rl =>
    obtain⟨as,rfl,hlen,hz⟩:=mr rl hk;refine⟨_,as,rfl,gR.of (s _ _ hl),λa ha=>?_,λp bs np pb up=>?_⟩
    .obtain⟨i,hi,rfl⟩:=Vh.mp ha;have:=hz as[i] (ks[i]'(by lia)) (Vh.mpr ⟨i,by simp;lia,by simp⟩);exact⟨_,s _ _ this.1,this.2⟩
    .have ka:∀a∈as,∃ns:List Int,Hs a=some (.tup (ns.map V.int)):=λa ha=>by
      obtain⟨i,hi,rfl⟩:=Vh.mp ha;exact⟨_,(hz as[i] (ks[i]'(by lia)) (Vh.mpr ⟨i,by simp;lia,by simp⟩)).1⟩
     have kb:∀b∈bs,Hs b=some (.tup ((Cz Hs b).map V.int)):=λb hb=>by
      obtain⟨ns,e⟩:=ka b (pb.mem_iff.mp hb);rwa[yG e]
     have e:bs.map (Cz Hs)=kU ks:=by
      refine xK ((pb.map _).trans ?_) ?_ (rY ks)
      .rw[keys_map hlen hz];exact(nr ks).symm
      .rw[YG];exact Yk (λ{a b} ha hb q=>q _ _ (s _ _ (kb a ha)) (s _ _ (kb b hb))) up
     refine h _ p _ _ (.refl s) ?_ np;rw[<- e];refine tf ↑13 λa k q=>?_;obtain⟨i,hi,q⟩:=Vh.mp q;rw[Xl,WO] at q;cases q;exact kb _ (Vx _)
  .exact h.elim
 .exact h.elim
def zR:bootBuiltins "sorted"=some (.builtin "sorted"):=by decide +kernel
variable{ep:Nat}{es:Array DictEntry}{d:Addr}{s:Shared}{w:World}{prog:Program}
variable{Q:Value->Shared->Prop}
section
variable{A:Around}{E:Value->Shared->Prop}{it:Addr}
def kC(h:Heap)(d:Addr)(es:Array DictEntry)(ep:Nat):Prop:=∃o,h.get? d=some o/\o.ExactDict/\o.data=.dict es ep
def kC.ty(x:kC s.heap d es ep):s.TypeIs (.ref d) "dict" := by
 obtain⟨o,a,b,_⟩:=x;exact⟨o,a,b.1⟩
def kC.keep{h h':Heap}(x:kC h d es ep)(k:∀o,h.get? d=some o->h'.get? d=some o):kC h' d es ep:=by
 obtain⟨o,a,b⟩:=x;exact⟨o,k o a,b⟩
def zt(nd:(d==sysModules)=false)(x:kC s.heap d es ep)(q:Q (.ref s.heap.objs.size) { s with heap:=s.heap.push { cls:=.type "dict_keyiterator",data:=.fields #[.ref d,.int 0 0,.int es.size 0,.int ep 0] } }):wpAny ↑11 A (pyIter (.ref d)) Q E s:=by
 have ty:=x.ty;obtain⟨o,x1,x2,x3⟩:=x;refine wpAny_pyIter_slot ty F.slot_dict_iter (Wb F.slot_dict_iter ty F.entry_dict_iter ?_ (F.args_dict_iter_1 _));unfold Builtin.«dict.__iter__»;refine TZ ?_;unfold aaz;refine TZ (abI ty ?_);show wpAny _ _ (pure (Vf d)) _ _ s;refine U7 ?_;show wpAny _ _ (abJ d >>= _) _ _ s;unfold abJ;rw[if_neg (by rw[nd];exact VQ)];refine TZ (U7 ?_);refine TZ (Zt x1 x3 (TZ (abz x1 x3 ?_)));refine TZ (Wd (U7 ⟨_,rfl,"dict_keyiterator",_,⟨_,U_ _ rfl,rfl⟩,F.slot_dict_keyiterator_next.lookup,?_⟩));simpa [rawInt] using q
theorem zc{Q:Option Value->Shared->Prop}(y:s.heap.IsKeyIter it d i es.size ep)(x:kC s.heap d es ep)(lt:i<es.size)(q:∀h',h'.IsKeyIter it d (i+1) es.size ep->Yb it s.heap h'->Q (some es[i].key) { s with heap:=h' }):wpAny ↑11 A (pyNext (.ref it)) Q E s:=by
 have yt:=y.typeIs;obtain⟨o,y1,y2,y3⟩:=y;obtain⟨p,x1,x2,x3⟩:=x;unfold pyNext;refine TZ (Xq (VY (name:=VS "__next__") yt F.slot_dict_keyiterator_next (Wb F.slot_dict_keyiterator_next yt F.entry_dict_keyiterator_next ?_ (F.args_dict_keyiterator_next_1 _))));refine TZ (U7 (TZ (TZ ?_)))
 first|refine TZ (Xz yt (U7 ?_))|refine TZ (Yl yt (U7 ?_))
 refine TZ (wpAny_fieldsOf y1 y3 ?_);simp only[show Z1 "dict_keyiterator"=false by decide,V7,if_false];show wpAny _ _ (if (Vf d==VU)=true then _ else _) _ _ s;rw[if_neg (show ¬ ((Vf d==VU)=true) from VQ)];refine TZ (U7 (TZ (Zt x1 x3 ?_)));rw[if_neg ↑13];refine TZ (U7 (TZ (abz x1 x3 ?_)));rw[if_neg ↑13];refine U7 ?_;simp only[show ¬ ((i:Int)<0) from by lia,if_false,VE,YY lt];refine TZ ?_
 first|refine TZ (Xz yt (U7 ?_))|refine TZ (Yl yt (U7 ?_))
 refine TZ (abK yt ?_);show wpAny _ _ (setField (.ref it) 1 (rawInt ((i:Int)+1)) >>= _) _ _ s;refine TZ (Yq y1 y3 ↑13 ?_);have y':(s.heap.update it (W_ (·.setIfInBounds 1 (rawInt ((i:Int)+1))))).IsKeyIter it d (i+1) es.size ep:=⟨_,V1 _ y1 (XX (W5 y3 _)),(acC ..).trans y2,by rw[W5 y3];simp[rawInt]⟩
 refine TZ (Wx (TZ (abK (s:={ s with heap:=s.heap.update it (W_ (·.setIfInBounds 1 (rawInt ((i:Int)+1)))) }) y'.typeIs ?_)));show wpAny _ _ (pure es[i].key) _ _ _;exact U7 (U7 ⟨_,rfl,U7 (q _ y' (Yp ..))⟩)
theorem DY{Q:Option Value->Shared->Prop}(hh:A.handled=none)(y:s.heap.IsKeyIter it d i es.size ep)(x:kC s.heap d es ep)(ge:es.size<=i)(q:∀h',ac3 it s.heap h'->Q none { s with heap:=h' }):wpAny ↑11 A (pyNext (.ref it)) Q E s:=by
 have yt:=y.typeIs;obtain⟨o,y1,y2,y3⟩:=y;obtain⟨p,x1,x2,x3⟩:=x;unfold pyNext;refine TZ (Xq (VY (name:=VS "__next__") yt F.slot_dict_keyiterator_next (Wb F.slot_dict_keyiterator_next yt F.entry_dict_keyiterator_next ?_ (F.args_dict_keyiterator_next_1 _))));refine TZ (U7 (TZ (TZ ?_)))
 first|refine TZ (Xz yt (U7 ?_))|refine TZ (Yl yt (U7 ?_))
 refine TZ (wpAny_fieldsOf y1 y3 ?_);simp only[show Z1 "dict_keyiterator"=false by decide,V7,if_false];show wpAny _ _ (if (Vf d==VU)=true then _ else _) _ _ s;rw[if_neg (show ¬ ((Vf d==VU)=true) from VQ)];refine TZ (U7 (TZ (Zt x1 x3 ?_)));rw[if_neg ↑13];refine TZ (U7 (TZ (abz x1 x3 ?_)));rw[if_neg ↑13];refine U7 ?_;simp only[show ¬ ((i:Int)<0) from by lia,if_false,VE,XG ge];refine TZ ?_
 first|refine TZ (Xz yt (U7 ?_))|refine TZ (Yl yt (U7 ?_))
 show wpAny _ _ (setField (.ref it) 0 .none >>= _) _ _ s;refine TZ (Yq y1 y3 ↑13 ?_);show wpAny _ _ (newExc (.type "StopIteration") [] >>= _) _ _ _;refine TZ ?_;simp only[newExc,newTuple];refine TZ (Wd (TZ (m:=firstArgMember _ _) (abQ (a:=VU) (by first|rfl|(simp only[firstArgMember];rfl)) (Wd ?_ (by size_fits)))) (by size_fits));simp only[raiseNew];refine TZ (wpAny_handled ?_);rw[show A.in1.handled=none from hh];refine TZ (U7 (wpAny_throw ?_));refine TZ (YO (T := "StopIteration") (b:=true) ⟨_,U_ _ rfl,rfl⟩ aam ?_);exact U7 (q _ (((Yp ..).extBut.push _).push _))
def B_(hh:A.handled=none)(I d:Addr)(ne:d≠I)(es:Array DictEntry)(ep:Nat):Walks prog w A I [I,d] [I] es.size (λi v=>∃h:i<es.size,v=es[i].key) (λi h=>h.IsKeyIter I d i es.size ep/\kC h d es ep) where
 sub:=λb hb=>by simp at hb;simp[hb]
 frame:=λ_ _ _ st hk=>⟨st.1.at λo e=>hk I ↑13 o e,st.2.keep λo e=>hk d ↑13 o e⟩
 item:=λi s Q E hi st q=>zc st.1 st.2 hi λh' y' sb=>q _ h' s.toks ⟨hi,rfl⟩ ⟨y',st.2.keep λo e=>sb.extBut _ _ ne e⟩ λb o hb e=>sb.extBut b o (λz=>hb (by simp[z])) e
 done:=λs Q E st q=>DY hh st.1 st.2 (U9 _) λh' sb=>q h' s.toks λb o hb e=>sb b o (λz=>hb (by simp[z])) e
 self:=λ_ _ _ _ st q=>abT st.1 q
def wo:typeLookup (.type "dict") "__len__"=pure (some (.builtin "dict.__len__")):=by rw[typeLookup_type,builtinLookup_eq_fast];kernel_rfl
def zV{R:Result->Shared->Prop}(hh:A.handled=none)(nd:(d==sysModules)=false)(x:kC s.heap d es ep)(S:Addr)(res:Value)(c:Nat)(hS:s.heap.get? S=some { cls:=.type "list",data:=.seq #[] c })(ne:S≠d)(q:∀h' tk RR c',(∀b o,b≠S->s.heap.get? b=some o->h'.get? b=some o)->h'.get? S=some { cls:=.type "list",dict:=none,data:=.seq RR c',slots:=#[] }->ItemsOf (λi v=>∃h:i<es.size,v=es[i].key) RR es.size->R (.ok (.ret res)) { s with heap:=h',toks:=tk })(hn:es.size<=sizeLine):wpAny ↑11 A.in1 (XH (.ref S) (.ref d) res) (λfin s'=>match fin with|.done f=>R (.ok f) s'|.again c'=>c'.quiet=true/\codeAny ↑11 A c' R s') (λe s'=>R (.error e) s') s:=by
 have lS:=Vb hS;have ld:d<s.heap.objs.size:=by obtain⟨o,a,_⟩:=x;exact Vb a
 unfold XH;refine TZ (Zp x.ty ?_);simp only[show aaN (.ref S) (.ref d)=false by simp[aaN,ne],show (WD "dict" == WD "list")=false by decide,show (WD "dict" == WD "tuple")=false by decide,Bool.or_false,V7,if_false];refine TZ (zt nd x ?_);have x':kC (s.heap.push { cls:=.type "dict_keyiterator",data:=.fields #[.ref d,.int 0 0,.int es.size 0,.int ep 0] }) d es ep:=x.keep λo e=>U3 _ e;have y':(s.heap.push { cls:=.type "dict_keyiterator",data:=.fields #[.ref d,.int 0 0,.int es.size 0,.int ep 0] }).IsKeyIter s.heap.objs.size d 0 es.size ep:=⟨_,U_ _ rfl,rfl,rfl⟩
 have t':=kC.ty (s:={ s with heap:=s.heap.push { cls:=.type "dict_keyiterator",data:=.fields #[.ref d,.int 0 0,.int es.size 0,.int ep 0] } }) x';refine TZ (Wx ?_);unfold Builtin.List.listLengthHint;refine TZ (wpAny_specialOf t' wo ?_)
 wp_delta
 refine TZ (YO (T := "dict") (b:=true) t' (by rw[isSubtype_type];kernel_rfl) ?_);show wpAny _ _ (typeOf (Vf d) >>= _) _ _ _;refine TZ (Zp t' (U7 ?_));rw[if_pos ↑12];refine TZ (Xb (TZ ?_));show wpAny _ A.in1 (updateSeq S (·.push .none) >>= λ_=>updateSeq S (·.pop)) _ _ _;have e1:(s.heap.push { cls:=.type "dict_keyiterator",data:=.fields #[.ref d,.int 0 0,.int es.size 0,.int ep 0] }).get? S=some { cls:=.type "list",data:=.seq #[] c }:=U3 _ hS;refine TZ (X8 e1 rfl ?_);have e2:=V1 (WG (·.push VU)) e1 rfl;refine X8 (hz:=by seq_fits) e2 rfl ?_;have e3:=V1 (WG (·.pop)) e2 rfl;have kp:∀b o,b≠S->(s.heap.push { cls:=.type "dict_keyiterator",data:=.fields #[.ref d,.int 0 0,.int es.size 0,.int ep 0] }).get? b=some o->(((s.heap.push { cls:=.type "dict_keyiterator",data:=.fields #[.ref d,.int 0 0,.int es.size 0,.int ep 0] }).update S (WG (·.push VU))).update S (WG (·.pop))).get? b=some o:=λb o hb e=>(Vv _ _ hb.symm).trans ((Vv _ _ hb.symm).trans e);have sf:S ∉ [s.heap.objs.size,d]:=λm=>by
  rcases Vn.mp m with z|z
  .exact Vm lS z
  .exact ne (Vs.mp z)
 have W:=B_ (prog:=prog) (w:=w) (A:=A.in1) hh s.heap.objs.size d (Vm ld) es ep;refine U7 ⟨ZO F.plain_extend_loop _,codeAny_extend_loopS W.toS hn _ sf _ es.size 0 _ _ _ rfl (Vd _) ?_ e3 (ItemsOf.nil _) λs' RR c' hm Sq SA=>?_⟩
 .exact⟨y'.at λo e=>kp _ o (WX lS) e,x'.keep λo e=>kp _ o ne.symm e⟩
 .rw[Moved.eq_with hm];refine q s'.heap s'.toks RR c' (λb ob hb e=>hm.heap b ob (λmem=>?_) (kp b ob hb (U3 _ e))) Sq SA;rcases Vn.mp mem with z|z
  .exact hb z
  .have:=Vb e;rw[Vs.mp z] at this;exact XI _ this
def E7(hh:A.handled=none)(nd:(d==sysModules)=false)(x:kC s.heap d es ep)(q:∀h' tk RR c',(∀b o,s.heap.get? b=some o->h'.get? b=some o)->h'.get? s.heap.objs.size=some { cls:=.type "list",dict:=none,data:=.seq RR c',slots:=#[] }->ItemsOf (λi v=>∃h:i<es.size,v=es[i].key) RR es.size->Q (.ref s.heap.objs.size) { s with heap:=h',toks:=tk })(hn:es.size<=sizeLine):wpAny ↑11 A (call (.type "list") [.ref d]) Q E s:=by
 have ld:d<s.heap.objs.size:=by obtain⟨o,a,_⟩:=x;exact Vb a
 refine callType_codes (Q₁:=λob s₁=>ob=.ref s.heap.objs.size/\s₁={ s with heap:=s.heap.push { cls:=.type "list",data:=.seq #[] } }) F.called_list (F.typeCall_list_1 _) F.entry_list_init (code_list_new _ ⟨rfl,rfl⟩) λob s₁ e=>?_;obtain⟨rfl,rfl⟩:=e;have e0:(s.heap.push { cls:=.type "list",data:=.seq #[] }).get? s.heap.objs.size=some { cls:=.type "list",data:=.seq #[] }:=U_ _ rfl;refine⟨⟨_,e0,rfl⟩,F.args_list_init_2 _ _,?_⟩;show wpAny _ _ (do let old <- abj (.ref s.heap.objs.size);Builtin.List.listUpdate (.ref s.heap.objs.size) (λ_=>#[]);letGo old.toList.reverse;XH (.ref s.heap.objs.size) (.ref d) .none) _ _ _;refine TZ ?_;unfold abj;refine TZ (VW e0 rfl (U7 ?_));show wpAny _ _ (updateSeq s.heap.objs.size (λ_=>#[]) >>= λ_=>letGo (#[]:Array Value).toList.reverse >>= λ_=>XH (.ref s.heap.objs.size) (.ref d) .none) _ _ _;refine TZ (X8 e0 rfl (TZ (Xf ?_)));have e1:=V1 (WG (λ_=>(#[]:Array Value))) e0 rfl;have kp:∀b o,b≠s.heap.objs.size->(s.heap.push { cls:=.type "list",data:=.seq #[] }).get? b=some o->((s.heap.push { cls:=.type "list",data:=.seq #[] }).update s.heap.objs.size (WG (λ_=>(#[]:Array Value)))).get? b=some o:=λb o hb e=>(Vv _ _ hb.symm).trans e;refine zV (A:=A.in1) (s:={ s with heap:=(s.heap.push { cls:=.type "list",data:=.seq #[] }).update s.heap.objs.size (WG (λ_=>(#[]:Array Value))) }) hh nd (x.keep λo e=>kp _ o (Vm ld) (U3 _ e)) _ _ _ e1 (WX ld) (λh' tk RR c' hk Sq SA=>?_) hn;exact⟨rfl,q h' tk RR c' (λb o e=>hk b o (Vm (Vb e)) (kp b o (Vm (Vb e)) (U3 _ e))) Sq SA⟩
end
variable{ws:List V}{σ:St}{Hs:Hp}
section
variable{iL iS ic:Nat}{a b0 b1:Addr}{B H₀:Hp}{env:af}{xs ys:List PV}{vs:List V}
end
variable{it:af->M (List PV)}{wi:TI}
section
variable{E:XK}{Rm Qe:Stmt}{rest:List Stmt}{iL iS ic:Nat}{fi fv:af->M PV}{g:af->M Out}
end
theorem KT.at{H:Hp}:∀{P5:List (List Key×V)}{xs:List (List Key×Addr×Value)},KT H P5 xs->∀i (h:i<P5.length) (h':i<xs.length),H xs[i].2.1=some (.tup (P5[i].1.map kV))
 | _,_,.nil,i,h,_=>absurd h (YB i)
 | _,_,.cons a t,0,_,_=>a.2.1
 |_,_,.cons a t,i+1,h,h'=>KT.at t i (abk h) (abk h')
def Lw(tk tv:TE):TE:=fun σ H Q=>∀p,H p=none->xj [(tk,tv)] σ (upd H p (.dT [])) λps H2=>∃v b k,ps=[(.ref b,v)]/\H2 b=some (.tup (k.map kV))/\H2 p=some (.dT [])/\Q (.ref p) (upd H2 p (.dT [(k,v)]))
def Ex{k v:Expr}{tk tv:TE}{pos:Pos}(hu:X.A.units<cLine)(hk:PE X k tk)(hv:PE X v tv):PE X (.Dict [some k] [v] pos) (Lw tk tv):=by
 intro PZ s σ H Q I q;have hn:=I.bJ.fresh (U9 s.heap.objs.size);have I1:=I.laid (a:=s.heap.objs.size) (o:=.dT []) (h':=s.heap.push { cls:=.type "dict",data:=.dict #[] }) (t':=s.toks) (λ_ _ q=>U3 _ q) (U9 _) (EM s.heap I.big);refine wpAny_Dict_any rfl rfl (λz=>nomatch z) (show 1<=15 by decide) (cF ((Dc hk hv GY) PZ _ σ _ _ I1 (q _ hn)) λws s2 h=>?_);obtain⟨_,H2,I2,rel,x,b,ks,rfl,hb,hp,q2⟩:=h;obtain⟨u1,u2⟩:∃w1 w2,ws=[(w1,w2)]/\RelV (.ref b) w1/\RelV x w2:=by
  cases rel with
  | cons a t=>cases t;exact⟨_,_,rfl,a.1,a.2⟩
 obtain⟨w2,rfl,r1,r2⟩:=u2;cases (show u1=Vf b from r1);obtain⟨z,nd,xs,rl,dd⟩:=HP I2.bJ hp;cases rl;unfold storeAll;rw[Y7];refine TZ (TZ (wpAny_dictSet_heap (hsz:=Vd _) (knd:=tupleKind (cv X.prog X.w)) hu (uw I2.bJ hb) dd λh' Ua hs=>U7 ?_));show wpAny _ _ (forIn [] PUnit.unit _) _ _ _;rw[Zr];refine U7 ⟨.ref s.heap.objs.size,_,?_,rfl,q2⟩;obtain⟨o,es,ep,hq,h2,h3,h4,_,h5⟩:=Ua;have:=oO (t':=s2.toks+(tupleKind (cv X.prog X.w)).draws ks) (ob:=.dT [(ks,x)]) I2 (by rw[hp];exact WE) hs ⟨o,hq⟩ ⟨by show 1<=sizeLine;decide,nd,_,?_,o,es,ep,hq,h2,h3,h4,h5⟩
 .exact this
 .exact .cons ⟨rfl,by rwa[aB (Cu hb hp (λz=>nomatch z))],r2⟩ .nil
abbrev ky(A:List Int):List Key:=A.map Zh
def BC(A:List Int):(ky A).map kV=A.map V.int:=by rw[VC];rfl
def CG{A B:List Int}(h:ky A=ky B):A=B:=(List.map_inj_right λa b h=>Sum.inl.inj h).mp h
section
variable{κ:Type}[DecidableEq κ]
end
section
variable(sm:List Int->List Int->List Int)(z r:List Int)
end
variable{p:Addr}
section
variable{H':Hp}{P5 kvs':List (List Key×V)}{vs vs':List Int}
end
section
variable{K:U5}{sem:List PV->M PV}{sm:List Int->List Int->List Int}{S:List Int}
end
variable{base:Heap}{mg:Str->Option Value}{P:Program}
section
variable{K:U5}
end
theorem cj.u1{k:Nat}{A:Around}(r:cj k A):A.units+1<cLine:=by have:=r.units;lia
abbrev KD:=List (List Int×PV)
def lO(P5:KD)(k:List Int):Option PV:=(P5.find? λz=>decide (z.1=k)).map (·.2)
def putD(P5:KD)(k:List Int)(p:PV):KD:=if (P5.any λz=>decide (z.1=k))=true then P5.map (λz=>if z.1=k then (z.1,p) else z) else P5++[(k,p)]
def oP:List PV->Option (List Int)
 | []=>some []
 | .int i::r=>(oP r).map (i::·)
 |_=>none
def Ak:PV->Option (List Int)
 | .tup xs=>oP xs
 |_=>none
theorem sE:∀ns:List Int,oP (ns.map PV.int)=some ns
 | []=>rfl
 |n::r=>by show (oP (r.map PV.int)).map (n::·)=_;rw[sE r];rfl
theorem vU:∀{xs:List PV}{ns:List Int},oP xs=some ns->xs=ns.map PV.int
 | [],_,h=>by cases h;rfl
 | .int i::r,ns,h=>by
  obtain⟨ms,e,rfl⟩:=VB.mp (show (oP r).map (i::·)=some ns from h);rw[vU e];rfl
variable{k:List Int}{v:V}
def t9{p:PV}(r:Rep Hs p v)(e:Ak p=some k):∃b,v=.ref b/\Hs b=some (.tup ((ky k).map kV)):=by
 cases r with
 | @tup a xs vs h rl =>
  have:=vU (show oP xs=some k from e);subst this;rw[BC,<- rl.ints];exact⟨a,rfl,h⟩
 |_=>cases e
theorem eB.length{H:Hp}:∀{P5:KD}{us:List (List Key×V)},eB H P5 us->P5.length=us.length
 | _,_,.nil=>rfl
 |_,_,.cons _ r=>by simp[r.length]
theorem eB.val{H:Hp}:∀{P5:KD}{us:List (List Key×V)}(k:List Int),eB H P5 us->(∀p,lO P5 k=some p->∃v,kz us (ky k)=some v/\Rep H p v)/\(lO P5 k).isSome=(kz us (ky k)).isSome
 | _,_,k,.nil=>⟨λp h=>(by cases h),rfl⟩
 | _,_,k,.cons (k:=l) (p:=q) (v:=v) (ps:=ps) (vs:=vs) h r=>by
  obtain⟨i1,i2⟩:=r.val k
  by_cases e:l=k
  .subst e;have e1:lO ((l,q)::ps) l=some q:=by simp[lO,WY]
   have e2:kz ((ky l,v)::vs) (ky l)=some v:=lF rfl;rw[e1];exact⟨λp hp=>by cases hp;exact⟨v,e2,h⟩,by rw[show ((l.map Zh,v)::vs)=(ky l,v)::vs from rfl,e2];rfl⟩
  .have e1:lO ((l,q)::ps) k=lO ps k:=by simp[lO,WY,e]
   have e2:kz ((ky l,v)::vs) (ky k)=kz vs (ky k):=lP (λz=>e (CG z));rw[e1,show ((l.map Zh,v)::vs)=(ky l,v)::vs from rfl,e2];exact⟨i1,i2⟩
def oX(k:List Int)(P5:KD):(P5.any λz=>decide (z.1=k))=(lO P5 k).isSome:=by
 induction P5 with
 | nil=>rfl
 | cons z r ih =>
  rw[ZL]
  by_cases e:z.1=k
  .simp[lO,WY,e]
  .rw[decide_eq_false e,Bool.false_or,ih];simp[lO,WY,e]
theorem eB.map_put{H:Hp}{k:List Int}{p:PV}{v:V}(h:Rep H p v):∀{P5:KD}{us:List (List Key×V)},eB H P5 us->eB H (P5.map λz=>if z.1=k then (z.1,p) else z) (us.map λz=>if z.1=ky k then (z.1,v) else z)
 | _,_,.nil=>.nil
 | _,_,.cons (k:=l) (p:=q) (v:=u) h2 r=>by
  rw[Vu,Vu]
  by_cases e:l=k
  .rw[if_pos e,if_pos (show l.map Zh=ky k by rw[e])];exact .cons h (r.map_put h)
  .rw[if_neg e,if_neg (λz=>e (CG z))];exact .cons h2 (r.map_put h)
theorem eB.snoc{H:Hp}{k:List Int}{p:PV}{v:V}(h:Rep H p v):∀{P5:KD}{us:List (List Key×V)},eB H P5 us->eB H (P5++[(k,p)]) (us++[(ky k,v)])
 | _,_,.nil=>.cons h .nil
 |_,_,.cons h2 r=>.cons h2 (r.snoc h)
variable{us:List (List Key×V)}{P5:KD}
def eB.put{p:PV}(h:Rep H p v)(r:eB H P5 us):eB H (putD P5 k p) (putK us (ky k) v):=by
 unfold putD putK;have e:(P5.any λz=>decide (z.1=k))=us.any λz=>decide (z.1=ky k):=by rw[oX,pA];exact(r.val k).2
 rw[e]
 split
 .exact r.map_put h
 .exact r.snoc h
def F4{a:Addr}{p:PV}(sm:bb Hs H)(hd:Rd H a (.dT us))(r:Rep Hs p v)(e:Ak p=some k):Lx H a v (kz us (ky k)):=by
 obtain⟨b,rfl,hb⟩:=t9 r e;exact .inr ⟨us,ky k,b,hd,rfl,sm _ _ hb,rfl⟩
variable{PZ:List (Addr×Obj)}
section
variable{a b:Expr}{pos:Pos}{g:af->M PV}
def Jp(n:Bool):R2:=λy x H Q=>∃a o,x=.ref a/\Lx H a y o/\Q (.bl (n ^^ o.isSome)) H
def Gm(hu:X.A.units+1<cLine):hX X (compareOp .NotIn) (Jp true):=by
 intro PZ s σ H y x iv u Q I ry rx h;obtain⟨a,o,rfl,g,q⟩:=h;cases rx;exact FX hu I g ry λs3 I3=>⟨.bl (!o.isSome),H,I3,rfl,by rwa [Bool.true_xor] at q⟩
def NO(n:Bool)(P5:KD)(p:PV):M PV:=match Ak p with
 | some k=>M.ok (.bl (n ^^ (lO P5 k).isSome))
 |none=>none
def KU{A:Around}{E:Value->Shared->Prop}(nd:(d==sysModules)=false)(x:kC s.heap d es ep)(q:Q (.int es.size s.toks) { s with toks:=s.toks+1 }):wpAny ↑11 A (call (.builtin "dict.__len__") [.ref d]) Q E s:=by
 have ty:=x.ty;obtain⟨o,x1,x2,x3⟩:=x;refine Wb F.slot_dict_len ty F.entry_dict_len ?_ (F.args_dict_len_1 _);unfold Builtin.«dict.__len__»;refine TZ ?_;unfold aaz;refine TZ (abI ty ?_);show wpAny _ _ (pure (Vf d)) _ _ s;refine U7 ?_;show wpAny _ _ (dictSize d >>= _) _ _ s;refine TZ ?_;unfold dictSize;refine TZ (Zt x1 x3 (U7 ?_));refine TZ ?_;unfold Builtin.Dict.pendingCount;rw[if_neg (by rw[nd];exact VQ)];refine U7 ?_;unfold retInt;refine TZ (wpAny_mkInt ?_);refine U7 ⟨_,rfl,?_⟩;simpa using q
theorem Gx{A:Around}{E:Value->Shared->Prop}(nd:(d==sysModules)=false)(x:kC s.heap d es ep)(hz:es.size<=sizeLine)(q:Q (.int es.size (s.toks+1)) { s with toks:=s.toks+1+1 }):wpAny ↑11 A (call (.builtin "len") [.ref d]) Q E s :=
 call_len_slot (n:=es.size) x.ty F.slot_dict_len (λQ' q'=>KU nd x q') ⋯ (by rw[sizeLine_eq] at hz;lia) q
def My{a:Addr}(I:Inv X PZ σ H s)(e:Rd H a (.dT us)):∃es ep,kC s.heap a es ep/\(a==sysModules)=false/\es.size=us.length/\us.length<=sizeLine:=by
 obtain⟨z,y,ks,rel,o,es,ep,h1,h2,h3,h4,h5⟩:=(show bG X.prog X.w H s.heap a (.dT us) from zo I.bJ e)
 have hl:ks.length=us.length:=(Paired.length rel).symm;exact⟨es,ep,⟨o,h1,h2,h3⟩,y,by rw[<- hl,<- VJ,h4,U8],z⟩
def HX:List V->Hp->VK->Prop:=λxs H Q=>∃a us,xs=[.ref a]/\Rd H a (.dT us)/\Q (.int us.length) H
theorem zJ:cQ X (.builtin "len") HX:=by
 intro PZ s σ H xs us Q I r h;obtain⟨a,vs,rfl,hd,q⟩:=h;obtain⟨u,rfl,rx⟩:=vals1 r;cases rx;obtain⟨es,ep,x,nd,e1,e2⟩:=My I hd;refine Gx nd x ⋯ ⟨.int vs.length,H,I.tok _,?_,q⟩;rw[e1];exact⟨_,rfl⟩
def Gs:List PV->M PV
 | [.nB P5]=>M.ok (.int P5.length)
 |_=>none
def FE:jP E HX Gs:=by
 intro σ Hs H ps vs Q s r h;unfold Gs at h
 split at h
 .obtain⟨v,rfl,rp⟩:=r.one;cases rp with
  | @nB a o P5 us hd rd=>exact⟨a,us,rfl,.inr ⟨o,s _ _ hd⟩,by rw[<- rd.length];exact eN.flat h s (.int _)⟩
 .exact h.elim
end
def nV(i:Nat)(env:af):M KD:=match env[i]? with
 | some (some (.dw P5))=>M.ok P5
 |_=>none
theorem aw.nV{i:Nat}{env:af}{Q:KD->Prop}{E:EX->Prop}(h:aw (L2.nV i env) Q E):∃P5,env[i]?=some (some (.dw P5))/\Q P5:=by
 unfold L2.nV at h
 split at h
 .exact⟨_,by assumption,h⟩
 .exact h.elim
def SR.N1{B H₀:Hp}{env:af}(r:SR B H₀ Hs H σ env)(hs:Hs p=none)(h0:H₀ p=none)(na:∀(j:Nat)(y:SV),env[j]?=some (some y)->g_ y=true->σ[j]?≠some (some (.ref p)))(h:eB Hs P5 us):SR B H₀ Hs (upd H p (.dT us)) (σ.set i (some (.ref p))) (env.set i (some (.dw P5))) :=
 r.chg (r.gr.jK hs h0) (λ_ _ q=>q) (λ_ e=>by cases e;exact⟨_,rfl,p,us,rfl,aH,hs,h0,h⟩) (λj y a u _ ej o z h1 h2 _=>⟨by rwa[aB (λw=>by subst w;exact na j y ej o z)],h2⟩) λ_ _ _ k z _=>na k z
def SR.Mf{B H₀:Hp}{env:af}{a:Addr}{xs ys:KD}(r:SR B H₀ Hs H σ env)(e:env[i]?=some (some (.dw xs)))(hi:σ[i]?=some (some (.ref a)))(h:eB Hs ys us):SR B H₀ Hs (upd H a (.dT us)) σ (env.set i (some (.dw ys))):=by
 obtain⟨a',vs,h1,h2,h3,h4,h5⟩:=r.dw i xs e;rw[hi] at h1;cases h1;exact r.Bn hi (r.gr.jK h3 h4) (λ_ _ q=>q) (λ_ q=>by cases q;exact⟨_,rfl,a,us,rfl,aH,h3,h4,h⟩) (λj y b u n ej o z q1 q2 _=>⟨by rwa[aB (λw=>by subst w;exact r.ap i j _ y b n e ej rfl o hi z)],q2⟩) λ_ _ _ k z n ek o=>r.ap i k _ z a n e ek rfl o hi
section
variable{E:XK}{ie:Expr}{pos pos':Pos}{g h:af->M PV}
def Li(i:Nat)(f g:af->M PV):af->M Out:=λenv=>(f env).bind λp=>(g env).bind λq=>match Ak p with
 | some k=>M.ok (.nx (env.set i (some (.dw [(k,q)]))))
 |none=>none
def bj.side{o:HO}(s:bb Hs H)(n:H p=none):bj Hs H Hs (upd H p o):=by
 have ne:∀c u,H c=some u->c≠p:=λc u e z=>by rw[z,n] at e;cases e
 exact⟨λ_ _ e=>e,λc u e=>by rwa[aB (ne c u e)],λc u e=>by rw[aB (ne c u (s c u e))];exact s c u e,λ_ _ e _ _=>e⟩
def FJ{ke ve:Expr}(hu:X.A.units<cLine)(hN:X.N.Nodup)(hi:X.N[i]?=some x)(hx:Loc X.env.scope x)(hk:PE X ke (tE (λ_=>E) f))(hv:PE X ve (tE (λ_=>E) g))(hs:autoParam (swapsWith (.Dict [some ke] [ve] px) (some (.Name x pos')) pos.line X.env=pure false) aR._auto_1)(hf:autoParam ↑1 aF._auto_1):PS X (.Assign [.Name x pos'] (.Dict [some ke] [ve] px) pos) (tS E (Li i f g)):=by
 refine(xV hN hi hx (Ex hu hk hv) hs hf).imp λD σ H q=>?_;obtain⟨B,H₀,Hs,env,sr,q⟩:=q;intro p n;have sf:=sr.free n;have hd:=sr.held n;have g0:bj Hs H Hs (upd H p (.dT [])):=bj.side sr.gr.sub n;have sr0:=sr.grow g0;refine⟨B,H₀,Hs,env,sr0,(aw.bind q).imp (λpk hp v Qc H1 g1 rk=>?_) λe he=>he.grow sr0.gr⟩;have S2:=sr0.grow g1;refine⟨B,H₀,Qc,env,S2,(aw.bind hp).imp (λpv hq u Qb H2 g2 rv=>?_) λe he=>he.grow S2.gr⟩;have QA:=S2.grow g2
 split at hq
 .rename_i k hk;obtain⟨b,rfl,hb⟩:=t9 (rk.mono g2.st) hk;have Dw:H2 p=some (.dT []):=g2.al _ _ (g1.al _ _ aH);have Rx:Qb p=none:=g2.nw _ _ (g1.nw _ _ sf.1 aH (λ_=>nofun)) (g1.al _ _ aH) (λ_=>nofun);exact⟨u,b,ky k,rfl,QA.gr.sub _ _ hb,Dw,hq _ Qb _ (QA.N1 Rx sf.2 hd (.cons rv .nil))⟩
 .exact hq.elim
def Bw(i:Nat)(g f:af->M PV):af->M Out:=λenv=>(f env).bind λp=>(nV i env).bind λP5=>(g env).bind λq=>match Ak q with
 | some k=>if P5.length<sizeLine then M.ok (.nx (env.set i (some (.dw (putD P5 k p))))) else none
 |none=>none
def Gw(hu:X.A.units+1<cLine)(hi:X.N[i]?=some x)(hv:AK X.env.scope x)(hk:PE X ie (tE (λ_=>E) g))(he:PE X e (tE (λ_=>E) f))(hd:autoParam ↑7 aD._auto_1)(QI:autoParam ↑6 aD._auto_1)(hs:autoParam (swapsWith e (some (.Subscript (.Name x px) ie pos')) pos.line X.env=pure false) aR._auto_1):PS X (.Assign [.Subscript (.Name x px) ie pos'] e pos) (tS E (Bw i g f)):=by
 refine(Gp hu (ji hi hv hd QI) hk he hs).imp λD σ H q=>iU q λB H₀ Hs H1 env p v sr rp hp=>?_;obtain⟨P5,ex,hp⟩:=aw.nV (aw.bind hp);obtain⟨a,us,h1,h2,h3,h4,h5⟩:=sr.dw i P5 ex;refine⟨.ref a,h1,B,H₀,Hs,env,sr,(aw.bind hp).imp (λkp hq w Qb H2 g2 rk=>?_) λe he=>he.grow sr.gr⟩;have QA:=sr.grow g2
 split at hq
 .rename_i k hk
  split at hq
  .rename_i hz;obtain⟨b,rfl,hb⟩:=t9 rk hk;have TM:=g2.al _ _ h2;exact⟨a,_,rfl,DM.t TM (QA.gr.sub _ _ hb) (by rwa[<- h5.length]),hq _ Qb _ (QA.Mf ex h1 ((h5.mono g2.st).put (rp.mono g2.st)))⟩
  .exact hq.elim
 .exact hq.elim
end
variable{n:Bool}
section
variable{ie:Expr}{pos pos':Pos}{g h:af->M PV}
def MV(n:Bool)(i:Nat)(f:af->M PV):af->M PV:=λenv=>(f env).bind λp=>(nV i env).bind λP5=>NO n P5 p
def JV{Q:VK}(q:tE E (MV n i f) σ H Q):LP (Jp n) (tE E f) (Nl i) σ H Q:=by
 refine um q λB H₀ Hs H1 env p v sr rp hp=>?_;obtain⟨P5,ex,hp⟩:=aw.nV (aw.bind hp);obtain⟨a,us,h1,h2,h3,h4,h5⟩:=sr.dw i P5 ex;unfold NO at hp
 split at hp
 .rename_i k hk;refine⟨.ref a,h1,a,_,rfl,F4 sr.gr.sub (.inl h2) rp hk,?_⟩;rw[<- (h5.val k).2];exact eN.flat hp sr.gr.sub (.bl _)
 .exact hp.elim
def Jq{op:CmpOp}(ho:hX X (compareOp op) (Jp n))(hi:X.N[i]?=some x)(hv:AK X.env.scope x)(he:PE X e (tE E f))(hm:behindInMarks op (.Name x px)=false)(hd:autoParam ↑7 aD._auto_1)(QI:autoParam ↑6 aD._auto_1):PT X (.Compare e [op] [.Name x px] pos) (tT E (eM (MV n i f))):=(yC ho he (ji hi hv hd QI) hm).imp fun σ H Q q=>JV (ql q)
end
def Inv.fz{a:Addr}(I:Inv X PZ σ H s)(e:H a=some (.dT us)):∃o,Inv X PZ σ (upd H a (.j4 o (.dT us))) s:=by
 obtain⟨z,y,ks,rel,o,es,ep,h1,h2⟩:=(show bG X.prog X.w H s.heap a (.dT us) from I.bJ a _ e)
 refine⟨o,oO (t':=s.toks) I (by rw[e];exact WE) ⟨rfl,λ_ _=>rfl⟩ ⟨o,h1⟩ ⟨h1,z,y,ks,?_,o,es,ep,h1,h2⟩⟩;exact(show KT H us ks from rel).keeps λc ys ec=>by rwa[aB (Cu ec e (λz=>nomatch z))]
def OP(i:Nat)(env:af):af:=match env[i]? with
 | some (some (.dw P5))=>env.set i (some (.sh (.nB P5)))
 |_=>env
def SR.fz{B H₀:Hp}{env:af}{a:Addr}{o:Obj}(r:SR B H₀ Hs H σ env)(e:env[i]?=some (some (.dw P5)))(h1:σ[i]?=some (some (.ref a)))(h2:H a=some (.dT us))(h3:Hs a=none)(h4:H₀ a=none)(h5:eB Hs P5 us):SR B H₀ (upd Hs a (.j4 o (.dT us))) (upd H a (.j4 o (.dT us))) σ (env.set i (some (.sh (.nB P5)))):=by
 obtain⟨g,st⟩:=(r.gr.jK (o:=.j4 o (.dT us)) h3 h4).into aH h3 h4;exact r.Bn h1 g st (λ_ q=>by cases q;exact⟨_,rfl,.nB aH (h5.mono st)⟩) (λj y b u n ej o z q1 q2 _=>by
  have nb:b≠a:=λw=>by subst w;exact r.ap i j _ y b n e ej rfl o h1 z
  rw[aB nb,aB nb];exact⟨q1,q2⟩) λ_ q o=>by cases q;cases o
def NL(i:Nat)(f:af->M Out):af->M Out:=λenv=>f (OP i env)
def MU{E:XK}{st:Stmt}{g:af->M Out}(i:Nat)(hs:PS X st (tS E g)):PS X st (tS E (NL i g)):=by
 intro PZ s σ H D I q;obtain⟨B,H₀,Hs,env,sr,q⟩:=q;unfold NL OP at q
 split at q
 .rename_i P5 e;obtain⟨a,us,h1,h2,h3,h4,h5⟩:=sr.dw i P5 e;obtain⟨o,I2⟩:=I.fz h2;exact hs PZ s σ _ D I2 ⟨B,H₀,_,_,sr.fz e h1 h2 h3 h4 h5,q⟩
 .exact hs PZ s σ H D I ⟨B,H₀,Hs,env,sr,q⟩
def NH(d:Addr)(o:Obj)(us:List (List Key×V)):It:=⟨λi H=>i<us.length/\H d=some (.j4 o (.dT us)),λi H x H'=>H'=H/\∃k b,us[i]?=some k/\x=.ref b/\H b=some (.tup (k.1.map kV)),λi H=>us.length<=i/\H d=some (.j4 o (.dT us))⟩
def yg{o:Obj}(I:Inv X PZ σ H s)(e:H d=some (.j4 o (.dT us))):∃(es:Array DictEntry)(ep:Nat)(as:List Addr),o.data=.dict es ep/\s.heap.get? d=some o/\o.ExactDict/\(d==sysModules)=false/\us.length<=sizeLine/\es.size=us.length/\as.length=us.length ∧(∀i (h:i<es.size) (h':i<as.length),es[i].key=.ref as[i])/\∀i (h:i<as.length) (h':i<us.length),H as[i]=some (.tup (us[i].1.map kV)):=by
 obtain⟨e0,z,y,ks,rel,o',es,ep,h1,h2,h3,h4,h5⟩:=(show bG X.prog X.w H s.heap d (.j4 o (.dT us)) from I.bJ d _ e)
 rw[e0] at h1;cases h1;have hl:ks.length=us.length:=(Paired.length rel).symm;refine⟨es,ep,ks.map (·.2.1),h3,e0,h2,y,z,by rw[<- hl,<- VJ,h4,U8],by rw[U8,hl],λi h h'=>?_,λi h h'=>?_⟩
 .have hi:i<ks.length:=by rw[U8] at h';exact h'
  have e2:es.toList[i]'(by rwa[VJ])=entryOfKey (tupleKind (cv X.prog X.w)) ks[i]:=by
   have:=acm h4 (i:=i) (by rwa[VJ]);rw[this,WO]
  rw[abU] at e2;rw[e2,WO];rfl
 .rw[WO];exact KT.at rel i h' (by rwa[U8] at h)
variable{tg:Expr}
def CA{K:U5}(it d:Addr)(o:Obj)(us:List (List Key×V))(es:Array DictEntry)(ep:Nat)(hd:o.data=.dict es ep)(hs:es.size=us.length):Turn P w K tg (NH d o us) [it] it (λi h=>h.IsKeyIter it d i es.size ep) where
 mem:=by simp
 obj:=λi h st b hb=>by
  have e:b=it:=by simpa using hb
  subst e;obtain⟨o,e,c,d⟩:=st;exact⟨o,e,λv z=>by rw[d] at z;cases z⟩
 keep:=λi h h' st k=>st.at λo e=>k it ↑13 o e
 item:=by
  intro X hP hw hK hc i PZ s σ H E I hf st hg;subst hP hw hK;obtain⟨f0,f1,f2,f3,f4,f5⟩:=hf it ↑13;obtain⟨Ur,Uq,as,q1,q2,q3,q4,q5,q6,q7,q8,q9⟩:=yg I hg.2;rw[hd] at q1;cases q1;have lt:i<es.size:=by rw[hs];exact hg.1
  have la:i<as.length:=by rw[q7];exact hg.1
  refine zc st ⟨o,q2,q3,hd⟩ lt λh' y' sb=>?_;have I1:Inv X PZ σ H { s with heap:=h' }:=I.turned (t':=s.toks) (λb o hb e=>sb.extBut b o hb e) f0 f1 f3 f4 f5;refine⟨_,rfl,?_⟩;obtain⟨o2,e2,c2,d2⟩:=id y';refine wz (s:={ s with heap:=h' }) e2 c2 d2 ↑12 ⟨.ref as[i],H,I1,q8 i lt la,⟨rfl,us[i]'hg.1,as[i],U4 hg.1,rfl,q9 i la hg.1⟩,y',λb hb=>(hf b hb).1⟩
 done:=by
  intro X hP hw hK hc i PZ s σ H E I hf st hg;subst hP hw hK;obtain⟨f0,f1,f2,f3,f4,f5⟩:=hf it ↑13;obtain⟨Ur,Uq,as,q1,q2,q3,q4,q5,q6,q7,q8,q9⟩:=yg I hg.2;rw[hd] at q1;cases q1;exact DY (I.ok.hd hc) st ⟨o,q2,q3,hd⟩ (by rw[hs];exact hg.1) λh' eb=>⟨rfl,I.turned (t':=s.toks) (λb o hb e=>eb b o hb e) f0 f1 f3 f4 f5⟩
 self:=λ_ _ _ _ _ st h=>abT st h
theorem eB.at{H:Hp}:∀{P5:KD}{us:List (List Key×V)}{i:Nat}{k:List Key×V},eB H P5 us->us[i]?=some k->∃z,P5[i]?=some z/\k.1=ky z.1
 | _,_,_,_,.nil,h=>by simp at h
 | _,_,0,_,.cons (k:=l) (p:=p) _ _,h=>by simp at h;subst h;exact⟨(l,p),rfl,rfl⟩
 | _,_,i+1,_,.cons _ r,h=>by
  obtain⟨z,e1,e2⟩:=eB.at (i:=i) r (by simpa using h);exact⟨z,by simpa using e1,e2⟩
theorem aL.tF{H:Hp}:∀ns:List Int,aL H (ns.map PV.int) (ns.map V.int)
 | []=>.nil
 |n::r=>.cons (.int n) (aL.tF r)
def bj.PL{b:Addr}(s:bb Hs H)(h:H b=some (.tup ws)):bj Hs H (upd Hs b (.tup ws)) H:=by
 refine⟨λc u q=>?_,λ_ _ q=>q,λc u q=>?_,λc u q1 q2 q3=>?_⟩
 .by_cases z:c=b
  .subst z;rw[aH];have:=s _ _ q;rwa[h] at this
  .rw[aB z];exact q
 .by_cases z:c=b
  .subst z;rw[aH] at q;rwa[h]
  .rw[aB z] at q;exact s _ _ q
 .by_cases z:c=b
  .subst z;rw[h] at q2;cases q2;exact absurd rfl (q3 _)
  .rw[aB z];exact q1
def Eo{o:Obj}{Qc:Hp}(hd:Qc d=some (.j4 o (.dT us)))(r:eB Qc P5 us):jn (NH d o us) Qc (P5.map λz=>.tup (z.1.map PV.int)) where
 stop:=λi Hs H s1 s2 hi=>⟨by rw[<- r.length];simpa using hi,s2 _ _ (s1 _ _ hd)⟩
 go:=λi Hs H s1 s2 hi=>⟨by rw[<- r.length];simpa using hi,s2 _ _ (s1 _ _ hd)⟩
 vd:=λi Hs H x H2 s1 s2 hi y=>by
  obtain⟨rfl,k,b,e1,rfl,e2⟩:=y;obtain⟨z,e3,e4⟩:=r.at e1;rw[e4,BC] at e2;exact⟨.tup (z.1.map PV.int),_,by rw[VD,e3];rfl,bj.PL s2 e2,.tup aH (aL.tF _)⟩
def qr(P5:KD):List PV:=P5.map λz=>.tup (z.1.map PV.int)
def rR(Hs H:Hp)(as:List Addr):Hp:=λc=>match Hs c with
 | some o=>some o
 |none=>if c∈as then H c else none
theorem bj.rR{Hs H:Hp}{as:List Addr}(s:bb Hs H)(h:∀a∈as,∃ws,H a=some (.tup ws)):bj Hs H (L2.rR Hs H as) H:=by
 refine⟨λc u q=>by unfold L2.rR;rw[q],λ_ _ q=>q,λc u q=>?_,λc u q1 q2 q3=>?_⟩
 .unfold L2.rR at q;cases e:Hs c with
  | some o=>rw[e] at q;cases q;exact s _ _ e
  | none =>
   rw[e] at q;have q':(if c∈as then H c else none)=some u:=q
   split at q'
   .exact q'
   .cases q'
 .unfold L2.rR;rw[q1];show (if c∈as then H c else none)=none
  split
  .rename_i m;obtain⟨ws,e⟩:=h c m;rw[q2] at e;cases e;exact absurd rfl (q3 _)
  .rfl
def E5{as:List Addr}{a:Addr}(s:bb Hs H)(m:a∈as)(h:H a=some (.tup ws)):rR Hs H as a=some (.tup ws):=by
 unfold rR;cases e:Hs a with
 | some o=>rw[<- h];exact(s _ _ e).symm
 |none=>show (if a∈as then H a else none)=_;rwa[if_pos m]
def Kx:List V->Hp->VK->Prop:=λxs H Q=>∃d us,xs=[.ref d]/\Rd H d (.dT us)/\∀(l:Addr)(as:List Addr),H l=none->as.length=us.length->(∀i (h:i<as.length) (h':i<us.length),H as[i]=some (.tup (us[i].1.map kV)))->Q (.ref l) (upd H l (.lst (as.map V.ref)))
theorem xE(hc:X.calm=true):cQ X (.type "list") Kx:=by
 intro PZ s σ H xs us Q I r h;obtain⟨d,P5,rfl,hd,q⟩:=h;obtain⟨u,rfl,rx⟩:=vals1 r;cases rx;obtain⟨z,y,ks,rel,o,es,ep,h1,h2,h3,h4,h5⟩:=(show bG X.prog X.w H s.heap d (.dT P5) from zo I.bJ hd)
 have hl:ks.length=P5.length:=(Paired.length rel).symm;have he:es.size=P5.length:=by rw[<- hl,<- VJ,h4,U8]
 refine E7 (I.ok.hd hc) y ⟨o,h1,h2,h3⟩ (λh' tk acc c kp e it=>?_) (by rwa[he]);have ac:acc.toList=(ks.map λx=>Vf x.2.1):=by
  refine aaE λi=>?_;rw[V3,VD];rcases VT i ks.length with lt|ge
  .have la:i<acc.size:=by rw[it.1,he];lia
   obtain⟨hi,ev⟩:=it.2 i acc[i] (YY la);rw[YY la,ev,U4 lt];have:es[i]=entryOfKey (tupleKind (cv X.prog X.w)) ks[i]:=by
    have e2:es.toList[i]'(by rwa[VJ])=_:=acm h4 _;rwa[abU,WO] at e2
   rw[this];rfl
  .rw[XG (by rw[it.1,he];lia),ZD ge];rfl
 refine⟨.ref s.heap.objs.size,_,I.laid (t':=tk) kp (U9 _) (show bG X.prog X.w _ h' _ (.lst ((ks.map (·.2.1)).map V.ref)) from ⟨by simp;lia,acc.toList,c,?_,e⟩),rfl,q _ (ks.map (·.2.1)) (I.bJ.fresh (U9 _)) (by simp[hl]) λi h h'=>?_⟩
 .rw[ac,VC];have:∀l:List (List Key×Addr×Value),Vals (l.map (V.ref∘λx=>x.2.1)) (l.map λx=>Vf x.2.1):=λl=>by
   induction l with
   | nil=>exact .nil
   | cons a r ih=>exact .cons rfl ih
  exact this ks
 .rw[WO];exact KT.at rel i h' ⋯
def C2{P9:Hp}{as:List Addr}(r:eB P9 P5 us)(hl:as.length=us.length)(h:∀i (h:i<as.length) (h':i<us.length),H as[i]=some (.tup (us[i].1.map kV)))(s:bb Hs H):aL (rR Hs H as) (qr P5) (as.map V.ref):=by
 have gen:∀(bs:List Addr)(P5:KD)(us:List (List Key×V)),eB P9 P5 us->bs.length=us.length->(∀b∈bs,b∈as)->(∀i (h:i<bs.length) (h':i<us.length),H bs[i]=some (.tup (us[i].1.map kV)))->aL (rR Hs H as) (qr P5) (bs.map V.ref):=λbs=>by
  induction bs with
  | nil =>
   intro P5 us r hl _ _;cases r with
   | nil=>exact .nil
   | cons _ _=>cases hl
  | cons b bs ih =>
   intro P5 us r hl hm h;cases r with
   | nil=>cases hl
   | @cons k p v ps vs rp r =>
    have h0:=h 0 (Zu _) (Zu _);refine .cons (.tup (E5 s (hm b Vl) ?_) (aL.tF k)) (ih ps vs r (YS hl) (λc hc=>hm c (Vi _ hc)) λi h1 h2=>h (i+1) (acY h1) (acY h2));have:(ky k).map kV=k.map V.int:=BC k;rwa[<- this]
 exact gen as P5 us r hl (λ_ h=>h) h
theorem Fi{as:List Addr}(hl:as.length=us.length)(h:∀i (h:i<as.length) (h':i<us.length),H as[i]=some (.tup (us[i].1.map kV))):∀a∈as,∃ws,H a=some (.tup ws):=λa m=>by
 obtain⟨i,hi,rfl⟩:=ab2 m;exact⟨_,h i hi ⋯⟩
section
variable{pos p:Pos}
def xo(i:Nat):af->M (List PV):=λenv=>(nV i env).bind λP5=>M.ok (qr P5)
def zL(hc:X.calm=true)(hg:Gl X "list")(hm:X.mg "list"=none)(hi:X.N[i]?=some x)(hv:AK X.env.scope x)(hd:autoParam ↑7 aD._auto_1)(QI:autoParam ↑6 aD._auto_1)(h1:autoParam (starEach [.Name x px] X.env=(false,eval (.Name x px) X.env)::starEach [] X.env) aR._auto_1)(QF:autoParam ((backTo pos (starEach [] X.env)).any (·.1)=false) aR._auto_1):PE X (.Call (.Name "list" p) [.Name x px] [] pos) (tO E (xo i)):=(sS (xE hc) hg hm oH (fY (ji hi hv hd QI) kW h1) ↑12 ↑12 h1 QF).imp fun σ H Q q=>by
 obtain⟨B,H₀,Hs,env,sr,q⟩:=q;obtain⟨P5,ex,q⟩:=aw.nV (aw.bind q);obtain⟨a,us,h1,h2,h3,h4,h5⟩:=sr.dw i P5 ex;exact⟨.ref a,h1,a,us,rfl,.inl h2,λl as n hl hk=>q _ _ _ _ (bj.rR sr.gr.sub (Fi hl hk)) (C2 h5 hl hk sr.gr.sub) n⟩
end
section
variable{A:Around}{E:Value->Shared->Prop}
end
def Md(K:U5)(tl:TE):TI:=fun σ H R=>tl σ H λx H1=>(∃b a,x=.ref a/\(∃xs,kn K H1 b a xs)/\R (MZ K b a) H1)\/∃d o us,x=.ref d/\H1 d=some (.j4 o (.dT us))/\R (NH d o us) H1
def Kk{l:Expr}{tl:TE}(hl:PE X l tl):PI X tg l (Md X.K tl):=by
 intro PZ s σ H R I h;refine cF (hl PZ s σ H _ I h) λv s1 ⟨x,H1,I1,r1,q1⟩=>?_;have fp:∀b,b∈[s1.heap.objs.size]->lh X PZ H1 b:=λb hb=>by
  have e:b=s1.heap.objs.size:=by simpa using hb
  subst e;exact I1.qS (U9 _) (I1.bJ.fresh (U9 _))
 rcases q1 with ⟨b,a,e,⟨xs,hq⟩,q⟩|⟨d,o,us,e,hd,q⟩
 .subst e;cases r1;cases b with
  | true =>
   obtain⟨P7,rv,p,hz⟩:=I1.list hq;refine YE p.isList ?_;exact⟨s1.heap.objs.size,[s1.heap.objs.size],_,_,H1,rfl,I1.kept (t':=s1.toks) λb o e=>U3 _ e,sW a _,⟨_,U_ _ rfl,rfl,rfl⟩,fp,q⟩
  | false =>
   obtain⟨P7,rv,p,hz⟩:=I1.tuple hq;refine XQ (show s1.heap.IsTuple a P7.toArray from p) ?_;exact⟨s1.heap.objs.size,[s1.heap.objs.size],_,_,H1,rfl,I1.kept (t':=s1.toks) λb o e=>U3 _ e,pE a _,⟨_,U_ _ rfl,rfl,rfl⟩,fp,q⟩
 .subst e;obtain rfl:v=Vf d:=r1;obtain⟨es,ep,as,q1,q2,q3,q4,q5,q6,q7,q8,q9⟩:=yg I1 hd;refine zt q4 ⟨o,q2,q3,q1⟩ ?_;exact⟨s1.heap.objs.size,[s1.heap.objs.size],_,_,H1,rfl,I1.kept (t':=s1.toks) λb o e=>U3 _ e,CA _ d o us es ep q1 q6,⟨_,U_ _ rfl,rfl,rfl⟩,fp,q⟩
def IB:PV->M (List PV)
 | .nB P5=>M.ok (qr P5)
 | p=>match bL p with
  | some xs=>M.ok xs
  |none=>none
def anyOf(f:af->M PV):af->M (List PV):=λenv=>(f env).bind IB
def Hb{K:U5}:xp E (Md K (tE E f)) (anyOf f):=by
 intro σ H R q;refine cn (K:=KI R) KI.g q λB H₀ Hs H1 env p v sr rp hp=>?_;cases e:bL p with
 | none =>
  cases rp with
  | @nB a o P5 us hd rd=>exact .inr ⟨a,o,us,rfl,sr.gr.sub _ _ hd,hp (NH a o us) Hs H1 (.refl sr.gr.sub) (Eo hd rd)⟩
  | _=>first|exact hp.elim|cases e
 | some xs =>
  have Su:aw (M.ok xs) (KI R Hs H1) (XW (E σ) Hs H1):=by
   cases p with
   | nB _=>cases e
   | fn _=>cases e
   | _=>first|(cases e;exact hp)|cases e
  obtain⟨b,a,vs,rfl,hq,hr⟩:=jb (K:=K) sr.gr.sub rp e;exact .inl ⟨b,a,rfl,⟨vs,hq Hs H1 (λ_ _ z=>z) sr.gr.sub⟩,Su (MZ K b a) Hs H1 (.refl sr.gr.sub) (wx hq hr)⟩
section
variable{E:XK}{pos p1 p2 U1:Pos}{j:Nat}
end
def tR(E:XK)(f:af->M (List PV)):TS:=λD σ H=>∃B H₀ Hs env,SR B H₀ Hs H σ env/\aw (f env) (KO D.rt B H₀) (XW E B H₀)
def Ph(g:af->M (List PV)):Out->M (List PV)
 | .nx env=>g env
 |_=>none
def vx(f:af->M Out)(g:af->M (List PV)):af->M (List PV):=λenv=>(f env).bind (Ph g)
section
variable{E:XK}{pos:Pos}{st:Stmt}{rest:List Stmt}{f:af->M Out}{g:af->M (List PV)}
def wH(he:PE X e (tO (λ_=>E) g)):kr X [.Return (some e) pos] (tR E g):=(F1 (D6 he)).imp λD σ H q=>by
 obtain⟨B,H₀,Hs,env,sr,q⟩:=q;exact⟨B,H₀,Hs,env,sr,q.imp (λps k=>KO.gr B H₀ Hs H ps k sr.gr) λe he=>he.grow sr.gr⟩
def iQ(h1:PS X st (tS E f))(h2:kr X rest (tR E g)):kr X (st::rest) (tR E (vx f g)):=(vt h1 h2).imp λD σ H q=>by
 obtain⟨B,H₀,Hs,env,sr,q⟩:=q;refine⟨B,H₀,Hs,env,sr,(aw.bind q).imp (λo ho=>?_) λe he=>he⟩;cases o with
 | nx P6=>exact fun σ' P9 H' RI=>⟨B,H₀,P9,P6,RI,ho⟩
 |_=>exact ho.elim
end
section
variable{E:XK}{st:List Stmt}{g:af->M (List PV)}
end
variable{ps:List Str}{body:List Stmt}
def GC{K:U5}{k:Nat}{f:Addr}{name qual:Str}{params:Arguments}{scope:Scope}{dV kV doc pm Qf ct oc:Value}{an od:Option Addr}{Sm:Array (Option Value)}{N:List Str}{g:af->M (List PV)}(lk:K.lookup f=some ⟨oc,od,.func (WA name qual params body scope dV kV doc pm an Qf ct),Sm⟩)(QI:Xy K Qf qual=true)(S:cH N ps scope)(hb:∀(A:Around)(outer:List Env)(s:Shared)(H:Hp)(E:XK),cj k (A.deeper (envOfC qual scope s.heap.objs.size f Qf))->kr ((jO (bW P w) P w K mg base N qual scope f Qf A outer s H E).out λ_=>E) body (tR E g)):aW P w K mg base (bW P w) (k+1) f (WA name qual params body scope dV kV doc pm an Qf ct) ps (ML ps.length λps=>g (hU N.length ps)):=by
 refine xi lk QI S (λvs H Q E h=>h.1) λA outer s H vs Q E hr hs=>⟨_,hb A outer s H E hr,?_⟩
 obtain⟨_,Hs,RN,sm,r,h⟩:=hs;exact⟨Hs,H,Hs,_,SR.start sm r,h⟩
variable{sem:List PV->M (List PV)}{fd:FuncData}
section
variable{k n:Nat}{f:Addr}{p pos:Pos}{es:List Expr}{fs:af->M (List PV)}
def lC(o:List PV->M (List PV))(fs:af->M (List PV)):af->M (List PV):=λenv=>(fs env).bind o
def Df{r:List V->Hp->VK->Prop}{o:List PV->M (List PV)}{id:String}(hc:cQ X (.builtin id) r)(hv:HU E r o)(hg:Gl X x)(hm:X.mg x=none)(hx:bootBuiltins x=some (.builtin id))(ha:PA X (e::es) (tL E fs))(hn:autoParam (x ≠ "__name__") aD._auto_1)(RA:autoParam ↑7 aD._auto_1)(he:autoParam ↑0 aR._auto_1)(QF:autoParam ↑2 aR._auto_1):PE X (.Call (.Name x p) (e::es) [] pos) (tO E (lC o fs)) :=
 (lK hc hg hm hx ha hn RA he QF).imp fun σ H Q q=>cN (K:=KO Q) KO.gr q λB H₀ Hs H1 env p v sr rp hp=>hv σ Hs H1 p v Q sr.gr.sub rp hp
end
section
variable{E:XK}{pos apos Qj:Pos}
def J3(i:Nat):af->M Out:=λenv=>(ownAt i env).bind λ_=>M.ok (.nx (env.set i (some (.ow []))))
def KP(hi:X.N[i]?=some x)(hv:AK X.env.scope x)(hd:autoParam ↑7 aD._auto_1)(QI:autoParam ↑6 aD._auto_1)(Q5:autoParam (attributeBase (.Name x px) "clear" X.env (eval (.Name x px) X.env)=eval (.Name x px) X.env) aR._auto_1)(Q6:autoParam ((apos.endLine==Qj.line)=true) aR._auto_1)(hs:autoParam (swapsWith (.Call (.Attribute (.Name x px) "clear" apos) [] [] Qj) none pos.line X.env=pure false) aR._auto_1):PS X (.Expr (.Call (.Attribute (.Name x px) "clear" apos) [] [] Qj) pos) (tS E (J3 i)):=by
 refine(oG (KA Ze PySem.F.slot_list_clear PySem.F.type_list_clear CC (ji hi hv hd QI) Q5 Q6) hs).imp λD σ H q=>?_;obtain⟨B,H₀,Hs,env,sr,q⟩:=q;obtain⟨xs,ex,hp⟩:=aw.own (aw.bind q);obtain⟨a,vs,h1,h2,h3,h4,h5⟩:=sr.ow i xs ex;exact⟨.ref a,h1,.inl ⟨rfl,vs,gR.of h2⟩,a,vs,rfl,rfl,h2,hp σ Hs _ (sr.put ex h1 .nil)⟩
end
def CF(n:Nat)(sem:List PV->M (List PV))(ps:List PV):M (List PV):=cX (ps.length=n) (sem ps)
structure LR (P:Program) (w:World) (K:U5) (mg:Str->Option Value) (base:Heap) (n:Nat) (x:Str) (m:Nat) (sem:List PV->M (List PV)):Prop where
 ex:∃(f:Addr)(fd:FuncData)(ps:List Str),mg x=some (.ref f)/\Xc K (.ref f)=true/\ps.length=m/\Binds K fd ps []/\aW P w K mg base (bW P w) n f fd ps (ML m sem)
def LR.Dt{n m k:Nat}{es:List Expr}{fs:af->M (List PV)}{p pos:Pos}(F:LR X.prog X.w X.K X.mg X.base n x m sem)(hr:cj k X.A)(hn:n<=k)(hg:Gl X x)(O:gD X E)(ha:PA X (e::es) (tL E fs))(RA:autoParam ↑7 aD._auto_1)(he:autoParam ↑0 aR._auto_1)(QF:autoParam ↑2 aR._auto_1):PE X (.Call (.Name x p) (e::es) [] pos) (tO E (lC (CF m sem) fs)):=by
 obtain⟨f,fd,ps,h1,h2,h3,h4,h5⟩:=F.ex;refine(vo h5 (hr.mono hn) hg h1 h2 h4 .nil O ha RA he QF).imp fun σ H Q q=>cN (K:=KO Q) KO.gr q λB H₀ Hs H1 env RN v sr rp hp=>?_;obtain⟨hl,hp⟩:=aw.cX hp;rw[Ww];exact⟨by rwa[<- rp.length],Hs,RN,sr.gr.sub,rp,hp⟩
def bg.okN{K:U5}{qual:Str}{st:Stmt}{dv:Value}{f:Addr}{N:List Str}{k:Nat}{g:af->M (List PV)}(F:bg K x qual st dv f fd)(S:cH N ps (aZ st))(hb:∀(Qf:Value)(A:Around)(outer:List Env)(s:Shared)(H:Hp)(E:XK),cj k (A.deeper (envOfC qual (aZ st) s.heap.objs.size f Qf))->gD ((jO (bW P w) P w K mg base N qual (aZ st) f Qf A outer s H E).out λ_=>E) (λ_=>E)->kr ((jO (bW P w) P w K mg base N qual (aZ st) f Qf A outer s H E).out λ_=>E) (d_ st) (tR E g)):aW P w K mg base (bW P w) (k+1) f fd ps (ML ps.length λps=>g (hU N.length ps)):=by
 obtain⟨oc,od,kV,doc,pm,an,Qf,ct,Sm,rfl,lk,QI⟩:=F.ex;exact GC lk QI S λA outer s H E hr=>hb Qf A outer s H E hr (DS rfl rfl)
section
variable{B H₀ P9 H':Hp}{env:af}{as:List Addr}
end
variable{js:List Nat}{ts:List Str}
section
variable{g:TG}{set:PV->af->M af}{fo:af->M (List PV)}{fs:List Str}
end
section
variable{ih:Nat}{D:Addr}{as:List Addr}{zs:List PV}{vs:List V}{B H₀ P9 H':Hp}{env:af}
end
section
variable{E:XK}{Rm:Stmt}{e2 e3 e4:Expr}{rest:List Stmt}{ih ig:Nat}{g:TG}{set:PV->af->M af}{fo:af->M (List PV)}{g2:af->M PV}{u3:af->M Bool}{fb f:af->M Out}{Qe RJ Q3:Stmt}
end
mutual
def vk:PV->Bool
 | .jX _=>false
 | .tup xs=>pV xs
 | .lst xs=>pV xs
 | .obj _ fs=>oU fs
 | .exc _ (some fs)=>oU fs
 | .nB _=>false
 |_=>true
def pV:List PV->Bool
 | []=>true
 |p::r=>vk p&&pV r
def oU:List (Str×PV)->Bool
 | []=>true
 |p::r=>vk p.2&&oU r
end
mutual
theorem Rep.kM{Hs:Hp}{a:Addr}{ob:Obj}{ws:List V}(ha:Hs a=some (.j4 ob (.lst ws))):∀{p:PV}{v:V},Rep Hs p v->vk p=true->Rep (rem Hs a) p v
 | _,_,.c_,_=>.c_
 | _,_,.bl b,_=>.bl b
 | _,_,.int b,_=>.int b
 | _,_,.str b,_=>.str b
 | _,_,.fn b,_=>.fn b
 | _,_,.tup h r,n=>.tup (by rwa[iz (λz=>by rw[z,ha] at h;cases h)]) (r.kM ha n)
 | _,_,.lst h r,n=>.lst (by rwa[iz (λz=>by rw[z,ha] at h;cases h)]) (r.kM ha n)
 | _,_,.obj h r,n=>.obj (by rwa[iz (λz=>by rw[z,ha] at h;cases h)]) (r.kM ha n)
 | _,_,.xn h,n=>.xn (by rwa[iz (λz=>by rw[z,ha] at h;cases h)])
 | _,_,.ya h h2 r,n=>.ya (by rwa[iz (λz=>by rw[z,ha] at h;cases h)]) (by rwa[iz (λz=>by rw[z,ha] at h2;cases h2)]) (r.kM ha n)
 | _,_,.emp h,n=>.emp (by rwa[iz (λz=>by rw[z,ha] at h;cases h)])
 | _,_,.jX _ _,n=>by cases n
 |_,_,.nB _ _,n=>by cases n
theorem aL.kM{Hs:Hp}{a:Addr}{ob:Obj}{ws:List V}(ha:Hs a=some (.j4 ob (.lst ws))):∀{p:List PV}{v:List V},aL Hs p v->pV p=true->aL (rem Hs a) p v
 | _,_,.nil,_=>.nil
 | _,_,.cons h r,n=>by
  have n':=Ye.mp (show (vk _&&pV _)=true from n);exact .cons (h.kM ha n'.1) (r.kM ha n'.2)
theorem gO.kM{Hs:Hp}{a:Addr}{ob:Obj}{ws:List V}(ha:Hs a=some (.j4 ob (.lst ws))):∀{p:List (Str×PV)}{v:List (Str×V)},gO Hs p v->oU p=true->gO (rem Hs a) p v
 | _,_,.nil,_=>.nil
 | _,_,.cons h r,n=>by
  have n':=Ye.mp (show (vk _&&oU _)=true from n);exact .cons (h.kM ha n'.1) (r.kM ha n'.2)
end
section
variable{a:Addr}
end
section
variable{o:Expr}{es:List Expr}{pos p:Pos}{k:Nat}{g:af->M PV}{fs:af->M (List PV)}{L:List (Addr×(List PV->M PV))}{K:U5}
end
end L2
namespace HT
open PySem PyProof.Rows
def qP(lt:Nat->Nat->Bool):Nat->Nat->Nat->Nat
 | 0,_,j=>j
 |n+1,i,j=>if lt i j then qP lt n (i+1) i else qP lt n (i+1) j
section
variable{prog:Program}{w:World}{A:Around}{E:Value->Shared->Prop}{I S ax:Addr}{R:Result->Shared->Prop}{items:Array Value}{lt:Nat->Nat->Bool}
theorem x9(hn:ax≠I)(hs:S≠I/\S≠ax)(hh:A.handled=none):∀(m i j:Nat)(t:Shared)(n:Nat)(v:Value),items.size=i+m->items[j]?=some v->j<i ->t.heap.get? S=some { cls:=.type "list",dict:=none,data:=.seq #[v,v] n,slots:=#[] }->(t.heap.IsListIter I ax i/\t.heap.IsList ax items) ->(∀i j u v h' tk,items[i]?=some u->items[j]?=some v->(∀c o,c≠I->c≠S->t.heap.get? c=some o->h'.get? c=some o)->∀Q E,Q (.bool (lt i j)) { t with heap:=h',toks:=tk }->wpAny ↑11 A.in1 (richCompare .Lt u v) Q E { t with heap:=h',toks:=tk }) ->(∀v h' tk,items[qP lt m i j]?=some v->(∀c o,c≠I->c≠S->t.heap.get? c=some o->h'.get? c=some o)->R (.ok (.ret v)) { t with heap:=h',toks:=tk }) ->codeAny ↑11 A (.builtin "min.loop" ⟨[.ref I,.none,.ref S],[]⟩) R t
 | 0,i,j,t,n,v,hsz,hv,hj,hS,hi,hc,h=>by
  have W:=acj (prog:=prog) (w:=w) (A:=A.in1) hh I ax hn items;obtain rfl:i=items.size:=by lia
  refine abA F.entry_min_loop ?_;rw[ZT F.plain_min_loop _];show wpAny _ A.in1 (seqItems? (.ref S) >>= _) _ _ t;refine TZ (VW hS rfl ?_);show wpAny _ A.in1 (tryCatch (pyNext (.ref I)) _ >>= _) _ _ t;refine TZ (aar (W.done t _ _ hi λh' tk Rw=>?_));have Sq:=Rw S _ (by simp[hs.1]) hS;show wpAny _ A.in1 (updateSeq S (λ_=>#[]) >>= _) _ _ _;refine TZ ?_;refine X8 Sq rfl (TZ (Xf (U7 ?_)));exact h v _ tk hv λc o h1 h2 e=>(Vv _ _ (WW h2)).trans (Rw c o (by simp[h1]) e)
 | m+1,i,j,t,n,v,hsz,hv,hj,hS,hi,hc,h=>by
  have W:=acj (prog:=prog) (w:=w) (A:=A.in1) hh I ax hn items;have RQ:(toString "min" ++ toString ".loop" : String)="min.loop" := by decide
  refine abA F.entry_min_loop ?_;rw[ZT F.plain_min_loop _];show wpAny _ A.in1 (seqItems? (.ref S) >>= _) _ _ t;refine TZ (VW hS rfl ?_);show wpAny _ A.in1 (tryCatch (pyNext (.ref I)) _ >>= _) _ _ t;refine TZ (aar (W.item i t _ _ ⋯ hi λx h' tk hP Tj Rw=>?_));have Sq:=Rw S _ (by simp[hs.1]) hS;show wpAny _ A.in1 (tryCatch (holding [x,x] (richCompare .Lt x v >>= _)) _ >>= _) _ _ _;refine TZ (aar (Wx (TZ (hc i j x v h' tk hP hv (λc o h1 h2 e=>Rw c o (by simp[h1]) e) _ _ ?_))));refine TZ (Wx (Xa ?_));refine TZ (Xf (U7 ?_));rw[qP] at h;cases k:lt i j with
  | true =>
   rw[k,if_pos rfl] at h;simp only[if_true];refine TZ ?_;refine X8 Sq rfl (TZ (Xf ?_));rw[RQ];refine U7 ⟨ZO F.plain_min_loop _,x9 hn hs hh m (i+1) i _ _ x ⋯ hP ⋯ (V1 _ Sq rfl) (W.frame _ _ _ Tj λc hb o e=>?_) (λi' j' u' v' h2 S5 e1 e2 k2=>?_) λv' h2 S5 e1 k2=>?_⟩
   .exact(Vv _ _ (λz:S=c=>by subst z;simp at hb;rcases hb with z|z;exact hs.1 z;exact hs.2 z)).trans e
   .exact hc i' j' u' v' h2 S5 e1 e2 λc o h1 h3 e=>k2 c o h1 h3 ((Vv _ _ (WW h3)).trans (Rw c o (by simp[h1]) e))
   .exact h v' h2 S5 e1 λc o h1 h3 e=>k2 c o h1 h3 ((Vv _ _ (WW h3)).trans (Rw c o (by simp[h1]) e))
  | false =>
   rw[k,if_neg ↑12] at h;simp only[V7,if_false];refine TZ (Xf ?_);rw[RQ];exact U7 ⟨ZO F.plain_min_loop _,x9 hn hs hh m (i+1) j _ _ v ⋯ hv ⋯ Sq Tj (λi' j' u' v' h2 S5 e1 e2 k2=>hc i' j' u' v' h2 S5 e1 e2 λc o h1 h3 e=>k2 c o h1 h3 (Rw c o (by simp[h1]) e)) λv' h2 S5 e1 k2=>h v' h2 S5 e1 λc o h1 h3 e=>k2 c o h1 h3 (Rw c o (by simp[h1]) e)⟩
theorem Bf{t:Shared}{n:Nat}(hn:ax≠I)(hs:S≠I/\S≠ax)(hh:A.handled=none)(h0:0<items.size)(hS:t.heap.get? S=some { cls:=.type "list",dict:=none,data:=.seq #[] n,slots:=#[] })(hi:t.heap.IsListIter I ax 0/\t.heap.IsList ax items)(hc:∀i j u v h' tk,items[i]?=some u->items[j]?=some v->(∀c o,c≠I->c≠S->t.heap.get? c=some o->h'.get? c=some o)->∀Q E,Q (.bool (lt i j)) { t with heap:=h',toks:=tk }->wpAny ↑11 A.in1 (richCompare .Lt u v) Q E { t with heap:=h',toks:=tk })(h:∀v h' tk,items[qP lt (items.size-1) 1 0]?=some v->(∀c o,c≠I->c≠S->t.heap.get? c=some o->h'.get? c=some o)->R (.ok (.ret v)) { t with heap:=h',toks:=tk }):codeAny ↑11 A (.builtin "min.loop" ⟨[.ref I,.none,.ref S],[]⟩) R t:=by
 have W:=acj (prog:=prog) (w:=w) (A:=A.in1) hh I ax hn items;have RQ:(toString "min" ++ toString ".loop" : String)="min.loop" := by decide
 refine abA F.entry_min_loop ?_;rw[ZT F.plain_min_loop _];show wpAny _ A.in1 (seqItems? (.ref S) >>= _) _ _ t;refine TZ (VW hS rfl ?_);show wpAny _ A.in1 (tryCatch (pyNext (.ref I)) _ >>= _) _ _ t;refine TZ (aar (W.item 0 t _ _ h0 hi λv h' tk hP Tj Rw=>?_));have Sq:=Rw S _ (by simp[hs.1]) hS;show wpAny _ A.in1 (updateSeq S (λ_=>#[v,v]) >>= _) _ _ _;refine TZ ?_;refine X8 Sq rfl ?_;rw[RQ];refine U7 ⟨ZO F.plain_min_loop _,x9 (lt:=lt) hn hs hh (items.size-1) 1 0 _ _ v ⋯ hP ↑12 (V1 _ Sq rfl) (W.frame _ _ _ Tj λc hb o e=>?_) (λi j u v h2 S5 e1 e2 k2=>?_) λv h2 S5 e1 k2=>?_⟩
 .exact(Vv _ _ (λz:S=c=>by subst z;simp at hb;rcases hb with z|z;exact hs.1 z;exact hs.2 z)).trans e
 .exact hc i j u v h2 S5 e1 e2 λc o h1 h3 e=>k2 c o h1 h3 ((Vv _ _ (WW h3)).trans (Rw c o (by simp[h1]) e))
 .exact h v h2 S5 e1 λc o h1 h3 e=>k2 c o h1 h3 ((Vv _ _ (WW h3)).trans (Rw c o (by simp[h1]) e))
def Gj{s:Shared}{Q:Value->Shared->Prop}{l:Addr}(hl:s.heap.IsList l items)(h0:0<items.size)(hh:A.handled=none)(hc:∀i j u v h' tk,items[i]?=some u->items[j]?=some v->(∀c o,s.heap.get? c=some o->h'.get? c=some o)->∀Q E,Q (.bool (lt i j)) { s with heap:=h',toks:=tk }->wpAny ↑11 A.in1 (richCompare .Lt u v) Q E { s with heap:=h',toks:=tk })(h:∀v h' tk,items[qP lt (items.size-1) 1 0]?=some v->(∀c o,s.heap.get? c=some o->h'.get? c=some o)->Q v { s with heap:=h',toks:=tk }):wpAny ↑11 A (call (.builtin "min") [.ref l]) Q E s:=by
 have RQ:(toString "min" ++ toString ".loop" : String)="min.loop" := by decide
 obtain⟨ob,eo,_⟩:=id hl;have QP:l<s.heap.objs.size:=Vb eo;refine call_function_tree F.kind_min F.plain_min F.entry_min (F.args_min1 _) ?_;show wpAny _ A.in1 (aab "min" ["key","default"] 0 ⟨[],[]⟩ >>= _) _ _ s;refine TZ (abQ (show aab "min" ["key","default"] 0 ⟨[],[]⟩=pure [none,none] from rfl) ?_);refine TZ (U7 ?_);refine TZ (YE hl ?_);refine TZ (Wd ?_);rw[RQ];have hsz:(s.heap.push { cls:=.type "list_iterator",data:=.fields #[.ref l,.int 0 0] }).objs.size=s.heap.objs.size+1:=V5 ..;have n1:l≠s.heap.objs.size:=Vm QP;have n2:s.heap.objs.size+1≠s.heap.objs.size:=aaV _;have n3:s.heap.objs.size+1≠l:=WX (aaH QP);refine U7 ⟨ZO F.plain_min_loop _,Bf (lt:=lt) (I:=s.heap.objs.size) (ax:=l) (items:=items) n1 ⟨by rwa[hsz],by rwa[hsz]⟩ hh h0 (U_ _ rfl) ⟨⟨_,U3 _ (U_ _ rfl),rfl,rfl⟩,(hl.push _).push _⟩ (λi j u v h' tk e1 e2 k'=>?_) λv h' tk e1 k'=>?_⟩
 .exact hc i j u v h' tk e1 e2 λc o e=>k' c o (Vm (Vb e)) (by rw[hsz];exact Vm (aaH (Vb e))) (U3 _ (U3 _ e))
 .exact h v h' tk e1 λc o e=>k' c o (Vm (Vb e)) (by rw[hsz];exact Vm (aaH (Vb e))) (U3 _ (U3 _ e))
end
end HT
namespace L2
open PySem PySem.Spec PyProof.Rows
def ze:List (List Int)->List Int
 | []=>[]
 |x::r=>r.foldl (λb y=>if HT.lexLt y b then y else b) x
theorem pN(ks:List (List Int)):∀(m i j:Nat),ks.length=i+m->j<ks.length->HT.qP (λi j=>HT.lexLt (ks.getD i []) (ks.getD j [])) m i j<ks.length/\ks.getD (HT.qP (λi j=>HT.lexLt (ks.getD i []) (ks.getD j [])) m i j) []=(ks.drop i).foldl (λb y=>if HT.lexLt y b then y else b) (ks.getD j [])
 | 0,i,j,hl,hj=>by
  rw[Yv ⋯];exact⟨hj,rfl⟩
 | m+1,i,j,hl,hj=>by
  have hi:i<ks.length:=by lia
  have e:ks[i]=ks.getD i []:=by rw[Va,U4 hi];rfl
  rw[Xh hi,ZY,HT.qP,e];cases k:HT.lexLt (ks.getD i []) (ks.getD j []) with
  | true=>rw[if_pos rfl,if_pos rfl];exact pN ks m (i+1) i ⋯ hi
  |false=>rw[if_neg ↑12,if_neg ↑12];exact pN ks m (i+1) j ⋯ hj
def vM:List PV->M PV
 | [.lst xs]=>match pT xs with
  | some (k::ks)=>M.ok (.tup ((ze (k::ks)).map PV.int))
  | _=>none
 |_=>none
def Ia(K:U5):List V->Hp->VK->Prop:=λxs H Q=>∃(l:Addr)(as:List Addr)(ks:List (List Int)),xs=[.ref l]/\gR K H l (as.map V.ref)/\as.length=ks.length/\(∀i a,as[i]?=some a->H a=some (.tup ((ks.getD i []).map V.int)))/\0<as.length ∧
 ∀a,as[HT.qP (λi j=>HT.lexLt (ks.getD i []) (ks.getD j [])) (as.length-1) 1 0]?=some a->Q (.ref a) H
variable{X:Cx}
def AU(hc:X.calm=true)(hu:X.A.units+64<cLine):cQ X (.builtin "min") (Ia X.K):=by
 intro PZ s σ H xs us Q I r h;obtain⟨l,as,ks,rfl,hq,hl,ha,h0,q⟩:=h;cases r with
 | cons r1 r2 =>
  cases r2;cases (show _=Vf l from r1);obtain⟨P7,rv,p,hz⟩:=I.list hq;obtain rfl:=mj rv;have at_:∀{i:Nat}{u:Value},(as.map Vf).toArray[i]?=some u->∃a,as[i]?=some a/\u=.ref a:=λ{i u} e=>by
   rw[abE,VD] at e;cases e2:as[i]? with
   | none=>rw[e2] at e;cases e
   | some a=>rw[e2] at e;cases e;exact⟨a,rfl,rfl⟩
  refine HT.Gj (lt:=λi j=>HT.lexLt (ks.getD i []) (ks.getD j [])) p.isList (by simpa using h0) (I.ok.hd hc) (λi j u v h' tk e1 e2 kp Q' E' hq=>?_) λv h' tk e1 kp=>?_
  .obtain⟨a,ea,rfl⟩:=at_ e1;obtain⟨b,eb,rfl⟩:=at_ e2;have I':=I.kept (t':=tk) kp;obtain⟨P7,r1,p1,_⟩:=I'.tuple (gm.of (ha i a ea));obtain⟨QU,r2,p2,_⟩:=I'.tuple (gm.of (ha j b eb));have i1:IntsAre P7.toArray.toList (ks.getD i []):=intsAre_of r1;have i2:IntsAre QU.toArray.toList (ks.getD j []):=intsAre_of r2;exact HT.xS (A:=X.A.in1) p1 p2 i1 i2 (by show X.A.units+1<cLine;lia) hq
  .obtain⟨a,ea,rfl⟩:=at_ e1;exact⟨.ref a,H,I.kept kp,rfl,q a (by simpa using ea)⟩
theorem Gi{K:U5}{E:St->XK}:jP E (Ia K) vM:=by
 intro σ Hs H ps vs Q s r h;unfold vM at h
 split at h
 .rename_i xs
  split at h
  .rename_i k ks hk;cases r with
   | cons r1 r2 =>
    cases r2;cases r1 with
    | @lst l _ vs hl hx =>
     obtain⟨as,rfl,el,hz⟩:=mr hx hk;have at_:∀i a,as[i]?=some a->Hs a=some (.tup (((k::ks).getD i []).map V.int)):=λi a e=>by
      have hi:=(VI.mp e).1;have:=hz a ((k::ks).getD i []) (Vh.mpr ⟨i,by rw[We];lia,by
       rw[Xl,Va,U4 ⋯];rw[(VI.mp e).2];rfl⟩)
      first|exact this.1|exact this
     refine⟨l,as,k::ks,rfl,gR.of (s _ _ hl),el,λi a e=>s _ _ (at_ i a e),by rw[el];exact Zu _,λa e=>?_⟩;obtain⟨b1,b2⟩:=pN (k::ks) ((k::ks).length-1) 1 0 (by simp;lia) (Zu _);rw[el] at e;have:=at_ _ a e;rw[b2] at this;exact h (.ref a) Hs H (.refl s) (.tup this (aL.tF _))
  .exact h.elim
 .exact h.elim
variable{α β:Type}
variable{x0:Option SV}{f:af->M PV}
variable{p:PV}
variable{b:af->M Out}{u:af->M Bool}
variable{k:Nat}{i:Int}
variable{j:Int}
variable{xs:List PV}
variable{body:af->M Out}
variable{n:Nat}
section
open PySem.SeqAt (shaped noMix noMixAll)
def M.aV(a:α)(f:α->M β):M.bind (M.ok a) f=f a:=V2 rfl rfl
def M.Du(e:EX)(f:α->M β):M.bind (some (Except.error e)) f=some (.error e):=V2 rfl rfl
def M.bind_none(f:α->M β):M.bind none f=none:=V2 rfl rfl
def M.bind_some(a:α)(f:α->M β):M.bind (some (Except.ok a)) f=f a:=V2 rfl rfl
def M.bind_assoc{γ:Type}(x:M α)(f:α->M β)(g:β->M γ):M.bind (M.bind x f) g=M.bind x λa=>M.bind (f a) g:=by
 cases x with
 | none=>rfl
 |some x=>cases x<;>rfl
def ar{c:Prop}[Decidable c]{x:M α}(h:c):cX c x=x:=if_pos h
def J6(a:α):LK (M.ok a)=M.ok a:=V2 rfl rfl
def AH(x:PV):fZ (some x)=M.ok x:=V2 rfl rfl
def wR(g:af->M Out)(env:af):CH g (.nx env)=g env:=V2 rfl rfl
def vQ(g:af->M Out)(p:PV):CH g (.rt p)=M.ok (.rt p):=V2 rfl rfl
def F_(b:Bool):xB (.bl b)=M.ok b:=V2 rfl rfl
def GS(p:PV):Jd (.rt p)=M.ok p:=V2 rfl rfl
def F9(e:af):Jd (.nx e)=M.ok .c_:=V2 rfl rfl
def tI(xs:List Int):PV:=.tup (xs.map PV.int)
def lI(xs:List Int):PV:=.lst (xs.map PV.int)
def FK(xs:List Int):bL (tI xs)=some (xs.map PV.int):=V2 rfl rfl
def FI(xs:List Int):bL (lI xs)=some (xs.map PV.int):=V2 rfl rfl
def CU(xs:List PV):bL (.tup xs)=some xs:=V2 rfl rfl
def pC(xs:List PV):bL (.lst xs)=some xs:=V2 rfl rfl
def Ea(xs:List PV):bL (.jX xs)=some xs:=V2 rfl rfl
def FU(xs:List Int):uP (tI xs)=M.ok (.int xs.length):=by simp[uP,tI,bL,fZ]
def E3(xs:List Int):uP (lI xs)=M.ok (.int xs.length):=by simp[uP,lI,bL,fZ]
def DC(xs:List PV):uP (.tup xs)=M.ok (.int xs.length):=V2 rfl rfl
def By(xs:List PV):uP (.lst xs)=M.ok (.int xs.length):=V2 rfl rfl
def DE(xs:List PV):uP (.jX xs)=M.ok (.int xs.length):=V2 rfl rfl
def vI(xs:List Int):xx [.lst (xs.map PV.int)]=M.ok (.int xs.sum):=by simp[xx,Nf,mw,fZ]
def vS(xs:List Bool):wj [.lst (xs.map PV.bl)]=M.ok (.bl (xs.all id)):=by simp[wj,all1,v9,fZ]
def fk{inj h:α->PV}{rest:af}(xs:List α)(H:∀a∈xs,f (some (.sh (inj a))::rest)=M.ok (h a)):bD (bB 0) none f (xs.map inj) (x0::rest)=M.ok (xs.map h):=by
 induction xs generalizing x0 with
 | nil=>rfl
 | cons a r ih =>
  rw[Vu,bD];show M.bind (M.ok ((x0::rest).set 0 (some (.sh (inj a))))) _=_;rw[M.aV,Xm];show M.bind (f _) _=_;rw[H a Vl,M.aV,ih λb hb=>H b (Vi _ hb)];rfl
def iG{p q h:α->PV}{rest:af}{x1:Option SV}(xs:List α)(H:∀a∈xs,f (some (.sh (p a))::some (.sh (q a))::rest)=M.ok (h a)):bD (cL 0 1) none f (xs.map λa=>.tup [p a,q a]) (x0::x1::rest)=M.ok (xs.map h):=by
 induction xs generalizing x0 x1 with
 | nil=>rfl
 | cons a r ih =>
  rw[Vu,bD];show M.bind (M.ok (((x0::x1::rest).set 0 (some (.sh (p a)))).set 1 (some (.sh (q a))))) _=_;rw[M.aV,Xm,Za,Xm];show M.bind (f _) _=_;rw[H a Vl,M.aV,ih λb hb=>H b (Vi _ hb)];rfl
def C1{p q s h:α->PV}{rest:af}{x1 x2:Option SV}(xs:List α)(H:∀a∈xs,f (some (.sh (p a))::some (.sh (q a))::some (.sh (s a))::rest)=M.ok (h a)):bD (kG 0 1 2) none f (xs.map λa=>.tup [p a,q a,s a]) (x0::x1::x2::rest)=M.ok (xs.map h):=by
 induction xs generalizing x0 x1 x2 with
 | nil=>rfl
 | cons a r ih =>
  rw[Vu,bD];show M.bind (M.ok ((((x0::x1::x2::rest).set 0 (some (.sh (p a)))).set 1 (some (.sh (q a)))).set 2 (some (.sh (s a))))) _=_;rw[M.aV,Xm,Za,Xm,Za,Za,Xm];show M.bind (f _) _=_;rw[H a Vl,M.aV,ih λb hb=>H b (Vi _ hb)];rfl
def gX{f:α->PV}{g:β->PV}{q:PV}(xs:List α)(ys:List β)(hp:bL p=some (xs.map f))(hq:bL q=some (ys.map g)):zip2 [p,q]=M.ok ((xs.zip ys).map λz=>.tup [f z.1,g z.2]):=by
 simp only[zip2,hp,hq];congr 2;rw[List.zipWith_map,List.zip_eq_zipWith,List.map_zipWith]
def lL{γ:Type}{f:α->PV}{g:β->PV}{h:γ->PV}{q r:PV}(xs:List α)(ys:List β)(zs:List γ)(hp:bL p=some (xs.map f))(hq:bL q=some (ys.map g))(hr:bL r=some (zs.map h)):vD [p,q,r]=M.ok ((xs.zip (ys.zip zs)).map λz=>.tup [f z.1,g z.2.1,h z.2.2]):=by
 simp only[vD,hp,hq,hr];congr 2;clear hp hq hr
 induction xs generalizing ys zs with
 | nil=>cases ys<;>cases zs<;>rfl
 | cons a r ih =>
  cases ys with
  | nil=>rfl
  | cons b s =>
   cases zs with
   | nil=>rfl
   |cons c t=>simp only[Vu,jB,Wq,ih]
def zU{f:α->PV}(xs:List α):h9 (xs.map f)=(xs.zipIdx).map λz=>.tup [.int (z.2:Int),f z.1]:=by
 unfold h9;rw[List.mapIdx_eq_zipIdx_map,List.zipIdx_map,VC];rfl
theorem wc{set:PV->af->M af}{body:af->M Out}{α:Type}{inj:α->PV}(J:List α->af->Prop)(H:∀a r env,J (a::r) env->∃e' P6,set (inj a) env=M.ok e'/\body e'=M.ok (.nx P6)/\J r P6):∀(xs:List α)(env:af),J xs env->∃P6,jM set body (xs.map inj) env=M.ok (.nx P6)/\J [] P6
 | [],env,h=>⟨env,rfl,h⟩
 | a::r,env,h=>by
  obtain⟨e',P6,h1,h2,h3⟩:=H a r env h;obtain⟨Sx,h4,h5⟩:=wc J H r P6 h3;refine⟨Sx,?_,h5⟩;rwa[Vu,jM,h1,M.aV,h2,M.aV]
theorem mU(J:af->Prop)(m:af->Nat)(H:∀env,J env->(u env=M.ok false)\/(u env=M.ok true/\∃P6,b env=M.ok (.nx P6)/\J P6/\m P6<m env))(env:af)(h:J env):∃P6,i7 u b env=M.ok (.nx P6)/\J P6/\u P6=M.ok false:=by
 have key:∀(n:Nat)(env:af),J env->m env<n->∃P6,cJ u b n env=M.ok (.nx P6)/\J P6/\u P6=M.ok false:=by
  intro n
  induction n with
  | zero=>intro env _ hn;lia
  | succ n ih =>
   intro env h hn;rcases H env h with hu|⟨hu,P6,hb,hj,hm⟩
   .exact⟨env,by rw[cJ,hu,M.aV];rfl,h,hu⟩
   .obtain⟨Sx,h1,h2,h3⟩:=ih P6 hj ⋯;exact⟨Sx,by rwa[cJ,hu,M.aV,if_pos rfl,hb,M.aV],h2,h3⟩
 obtain⟨P6,h1,h2,h3⟩:=key (m env+1) env h (Xj _);refine⟨P6,?_,h2,h3⟩;rw[Ba (n:=m env+1) (by rw[h1];exact λz=>nomatch z),h1]
theorem log2_small(h:i.natAbs<2^k)(hk:k<=9000):i.natAbs.log2<67108864:=by
 by_cases z:i.natAbs=0
 .rw[z];decide
 .have:=(ac4 z).mpr h;lia
def bu{l:Nat}(hi:i.natAbs<2^k)(hj:j.natAbs<2^l)(hk:autoParam (k<=9000) aD._auto_1)(hl:autoParam (l<=9000) aD._auto_1):b_ (.int i) (.int j)=M.ok (.int (i*j)):=by
 rw[b_,ar ⟨log2_small hi hk,log2_small hj hl⟩]
theorem sZ(h0:j≠0)(h:j.natAbs<2^9000):bZ (.int i) (.int j)=M.ok (.int (i.fdiv j)):=by
 show cX _ _=_;refine ar (decide_eq_true ⟨h0,(ac4 ⋯).mpr h⟩)
def Ct(h0:j≠0):dI (.int i) (.int j)=M.ok (.int (i.fmod j)):=by
 show cX _ _=_;exact ar (decide_eq_true h0)
theorem bh(h0:0<j)(h:j<2^64):bZ (.int i) (.int j)=M.ok (.int (i/j)):=by
 rw[sZ ⋯ (Vo (show j.natAbs<2^64 by lia) (Wh ↑12 ↑12)),YK _ ⋯]
theorem bw(h0:0<j):dI (.int i) (.int j)=M.ok (.int (i%j)):=by
 rw[Ct ⋯,Int.fmod_eq_emod_of_nonneg _ ⋯]
def bV{j:Nat}{x:PV}(hs:bL p=some xs)(h:xs[j]?=some x):a_ p (.int (j:Int))=M.ok x:=by
 cases p with
 | tup ys=>cases hs;simp only[a_,tQ h,fZ]
 | lst ys=>cases hs;simp only[a_,tQ h,fZ]
 | jX ys=>cases hs;simp only[a_,tQ h,fZ]
 |_=>cases hs
section
variable{b:String->Bool}{ob oe:Addr->Option Bool}
def IU(xs:List Int):EL b ob oe (tI xs)=M.ok (.bl (b "tuple")):=V2 rfl rfl
def Ja(xs:List Int):EL b ob oe (lI xs)=M.ok (.bl (b "list")):=V2 rfl rfl
def Gq(xs:List PV):EL b ob oe (.tup xs)=M.ok (.bl (b "tuple")):=V2 rfl rfl
def Fn(xs:List PV):EL b ob oe (.lst xs)=M.ok (.bl (b "list")):=V2 rfl rfl
def FL(i:Int):EL b ob oe (.int i)=M.ok (.bl (b "int")):=V2 rfl rfl
def JJ(i:Bool):EL b ob oe (.bl i)=M.ok (.bl (b "bool")):=V2 rfl rfl
def Fs:EL b ob oe .c_=M.ok (.bl (b "NoneType")):=V2 rfl rfl
def Fb(x:Str):EL b ob oe (.str x)=M.ok (.bl (b "str")):=V2 rfl rfl
def E_:EL b ob oe .emp=M.ok (.bl (b "dict")):=V2 rfl rfl
end
def E4(i j:Int):oo (.int i) (.int j)=M.ok (.bl (!decide (i=j))):=by
 simp only[oo,mI,dat,EV,shaped,WV,Xs,noMix];rw[ar ⟨rfl,rfl,trivial⟩];unfold same;rw[M.aV];congr
def FY(i j:Int):oJ (.int i) (.int j)=M.ok (.bl (decide (i=j))):=by
 simp only[oJ,mI,dat,EV,shaped,WV,Xs,noMix];rw[ar ⟨rfl,rfl,trivial⟩];unfold same;rw[M.aV];congr
def Lm(i j:Bool):oo (.bl i) (.bl j)=M.ok (.bl (!decide (i=j))):=by
 simp only[oo,mI,dat,EV,shaped,WV,Xs,noMix];rw[ar ⟨rfl,rfl,trivial⟩];unfold same;rw[M.aV];congr
def JN(i j:Bool):oJ (.bl i) (.bl j)=M.ok (.bl (decide (i=j))):=by
 simp only[oJ,mI,dat,EV,shaped,WV,Xs,noMix];rw[ar ⟨rfl,rfl,trivial⟩];unfold same;rw[M.aV];congr
def mN(xs:List Int):mQ (xs.map PV.int)=some (xs.map Xn):=by
 induction xs with
 | nil=>rfl
 |cons a r ih=>simp[mQ,dat,ih]
def jT(xs:List Int):Zv (xs.map Xn)=true:=by
 induction xs with
 | nil=>rfl
 |cons a r ih=>simp[Zv,WV,ih]
def kR(xs:List Int):Z2 (xs.map Xn)=0:=by
 induction xs with
 | nil=>rfl
 |cons a r ih=>simp[Z2,Xs,ih]
theorem noMix_ints:∀(xs ys:List Int),noMixAll (xs.map Xn) (ys.map Xn)=true
 | [],[]=>by simp[noMixAll]
 | [],_::_=>by simp[noMixAll]
 | _::_,[]=>by simp[noMixAll]
 |a::r,b::s=>by simp[noMixAll,noMix,noMix_ints r s]
theorem same_ints:∀(xs ys:List Int),sameAll (xs.map Xn) (ys.map Xn)=decide (xs=ys)
 | [],[]=>by simp[sameAll]
 | [],_::_=>by simp[sameAll]
 | _::_,[]=>by simp[sameAll]
 | a::r,b::s=>by
  simp only[Vu,sameAll,same_ints r s];unfold same;rw[Z0];simp
def mO(xs:List (List Int)):mQ (xs.map tI)=some (xs.map λr=>.tuple (r.map Xn)):=by
 induction xs with
 | nil=>rfl
 |cons a r ih=>simp[mQ,dat,tI,mN] at ih ⊢;simp[ih]
def jQ(xs:List (List Int)):Zv (xs.map λr=>.tuple (r.map Xn))=true:=by
 induction xs with
 | nil=>rfl
 |cons a r ih=>simp[Zv,WV,ih,jT]
def fD(xs:List (List Int)):Z2 (xs.map λr=>.tuple (r.map Xn))<=1:=by
 induction xs with
 | nil=>exact Vd _
 |cons a r ih=>simp[Z2,Xs,kR,ih]
theorem i_:∀(xs ys:List (List Int)),noMixAll (xs.map λr=>.tuple (r.map Xn)) (ys.map λr=>.tuple (r.map Xn))=true
 | [],[]=>by simp[noMixAll]
 | [],_::_=>by simp[noMixAll]
 | _::_,[]=>by simp[noMixAll]
 |a::r,b::s=>by simp[noMixAll,noMix,noMix_ints,i_ r s]
theorem j_:∀(xs ys:List (List Int)),sameAll (xs.map λr=>.tuple (r.map Xn)) (ys.map λr=>.tuple (r.map Xn))=decide (xs=ys)
 | [],[]=>by simp[sameAll]
 | [],_::_=>by simp[sameAll]
 | _::_,[]=>by simp[sameAll]
 | a::r,b::s=>by
  simp only[Vu,sameAll,j_ r s];unfold same;rw[same_ints,Z0];simp
def DJ(xs ys:List Int):oo (tI xs) (tI ys)=M.ok (.bl (!decide (xs=ys))):=by
 simp only[oo,mI,dat,tI,mN,Y8,EV];rw[ar (by simp[shaped,WV,Xs,jT,kR,noMix,noMix_ints])];unfold same;rw[same_ints];rfl
def E6(i j:Int):EY (.int i) (.int j)=M.ok (.bl (decide (i<j))):=V2 rfl rfl
def F3(i j:Int):FG (.int i) (.int j)=M.ok (.bl (decide (i<=j))):=V2 rfl rfl
def FR(i j:Int):ET (.int i) (.int j)=M.ok (.bl (decide (j<i))):=V2 rfl rfl
def G4(i j:Int):LQ (.int i) (.int j)=M.ok (.bl (decide (j<=i))):=V2 rfl rfl
def BX(i j:Int):eh (.int i) (.int j)=M.ok (.int (i+j)):=V2 rfl rfl
def Dj(i j:Int):n_ (.int i) (.int j)=M.ok (.int (i-j)):=V2 rfl rfl
theorem dY{n:Int}(h:0<=n)(h2:n<2^62):k8 [.int n]=M.ok ((Ve n.toNat).map λ(i:Nat)=>.int (i:Int)):=by
 show cX (-(2^62)<=n/\n<2^62) _=_;rw[ar ⋯];simp
def dy{set:PV->af->M af}{inj:α->PV}{k:Out->M β}{r:M β}(xs:List α)(J:List α->af->Prop){env:af}(h:J xs env)(H:∀a r env,J (a::r) env->∃e' P6,set (inj a) env=M.ok e'/\body e'=M.ok (.nx P6)/\J r P6)(hk:∀P6,J [] P6->k (.nx P6)=r):M.bind (jM set body (xs.map inj) env) k=r:=by
 obtain⟨P6,e,h'⟩:=wc J H xs env h;rw[e,M.aV];exact hk P6 h'
def xU{k:Out->M β}{r:M β}(J:af->Prop)(m:af->Nat){env:af}(h:J env)(H:∀env,J env->(u env=M.ok false)\/(u env=M.ok true/\∃P6,b env=M.ok (.nx P6)/\J P6/\m P6<m env))(hk:∀P6,J P6->u P6=M.ok false->k (.nx P6)=r):M.bind (i7 u b env) k=r:=by
 obtain⟨P6,e,h',h2⟩:=mU J m H env h;rw[e,M.aV];exact hk P6 h' h2
def aS(h:n<=1000):n<=sizeLine:=X_ (mz h)
def tupK(ps:List PV):M PV:=cX (ps.length<=sizeLine) (M.ok (.tup ps))
def lstK(ps:List PV):M PV:=cX (ps.length<=sizeLine) (M.ok (.lst ps))
def Hd(fs:af->M (List PV))(env:af):iP fs env=(fs env).bind tupK:=rfl
def F8(fs:af->M (List PV))(env:af):qj fs env=(fs env).bind lstK:=rfl
def Kr:tupK []=M.ok (.tup []):=ar (aS (show 0<=1000 by decide))
def Je:lstK []=M.ok (.lst []):=ar (aS (show 0<=1000 by decide))
def Jx(a:PV):tupK [a]=M.ok (.tup [a]):=ar (aS (show 1<=1000 by decide))
def K6(a:PV):lstK [a]=M.ok (.lst [a]):=ar (aS (show 1<=1000 by decide))
def Ko(a b:PV):tupK [a,b]=M.ok (.tup [a,b]):=ar (aS (show 2<=1000 by decide))
def JQ(a b:PV):lstK [a,b]=M.ok (.lst [a,b]):=ar (aS (show 2<=1000 by decide))
def Kt(a b c:PV):tupK [a,b,c]=M.ok (.tup [a,b,c]):=ar (aS (show 3<=1000 by decide))
def JL(a b c:PV):lstK [a,b,c]=M.ok (.lst [a,b,c]):=ar (aS (show 3<=1000 by decide))
def La(a b c d:PV):tupK [a,b,c,d]=M.ok (.tup [a,b,c,d]):=ar (aS (show 4<=1000 by decide))
def IW(a b c d:PV):lstK [a,b,c,d]=M.ok (.lst [a,b,c,d]):=ar (aS (show 4<=1000 by decide))
def IP(a b c d e:PV):tupK [a,b,c,d,e]=M.ok (.tup [a,b,c,d,e]):=ar (aS (show 5<=1000 by decide))
def JR(a b c d e:PV):lstK [a,b,c,d,e]=M.ok (.lst [a,b,c,d,e]):=ar (aS (show 5<=1000 by decide))
def J5(a b c d e f:PV):tupK [a,b,c,d,e,f]=M.ok (.tup [a,b,c,d,e,f]):=ar (aS (show 6<=1000 by decide))
def Km(a b c d e f:PV):lstK [a,b,c,d,e,f]=M.ok (.lst [a,b,c,d,e,f]):=ar (aS (show 6<=1000 by decide))
end
def hV(m:M α)(Q:α->Prop):Prop:=∃a,m=M.ok a/\Q a
section
variable{γ:Type}{Q Q':α->Prop}{m:M α}
def hV.eq{a:α}(h:hV m λx=>x=a):m=M.ok a:=by obtain⟨b,e,rfl⟩:=h;exact e
def Tn(J:af->Prop)(B:af->Prop)(R:PV->Prop):Out->Prop
 | .nx e=>J e
 | .ct e=>J e
 | .bk e=>B e
 |.rt p=>R p
theorem hV.zj{set:PV->af->M af}{body:af->M Out}{inj:γ->PV}{B:af->Prop}{R:PV->Prop}(J:List γ->af->Prop)(H:∀a r env,J (a::r) env->hV (M.bind (set (inj a) env) body) (Tn (J r) B R)):∀(xs:List γ)(env:af),J xs env->hV (jM set body (xs.map inj) env) λo=>(∃e,o=.nx e/\(J [] e\/B e))\/∃p,o=.rt p/\R p
 | [],env,h=>⟨_,rfl,.inl ⟨_,rfl,.inl h⟩⟩
 | a::r,env,h=>by
  obtain⟨o,e,q⟩:=H a r env h;rw[Vu,jM,<- M.bind_assoc,e,M.aV];cases o with
  | nx e'=>exact hV.zj J H r e' q
  | ct e'=>exact hV.zj J H r e' q
  | bk e'=>exact⟨_,rfl,.inl ⟨_,rfl,.inr q⟩⟩
  |rt p=>exact⟨_,rfl,.inr ⟨_,rfl,q⟩⟩
def hV.loop{R:β->Prop}{set:PV->af->M af}{inj:γ->PV}{k:Out->M β}{xs:List γ}{env:af}(J:List γ->af->Prop)(h:J xs env)(H:∀a r env,J (a::r) env->hV (M.bind (set (inj a) env) body) (Tn (J r) (λ_=>False) λ_=>False))(hk:∀P6,J [] P6->hV (k (.nx P6)) R):hV (M.bind (jM set body (xs.map inj) env) k) R:=by
 obtain⟨o,e,q⟩:=hV.zj J H xs env h;rw[e,M.aV];rcases q with ⟨e',rfl,q|q⟩|⟨p,_,q⟩
 .exact hk e' q
 .exact q.elim
 .exact q.elim
def hV.Np{R:β->Prop}{set:PV->af->M af}{inj:γ->PV}{k:Out->M β}{xs:List γ}{env:af}(J:List γ->af->Prop)(h:J xs env)(H:∀a r env,J (a::r) env->hV (M.bind (set (inj a) env) body) (Tn (J r) (λe=>hV (k (.nx e)) R) λp=>hV (k (.rt p)) R))(hk:∀P6,J [] P6->hV (k (.nx P6)) R):hV (M.bind (jM set body (xs.map inj) env) k) R:=by
 obtain⟨o,e,q⟩:=hV.zj J H xs env h;rw[e,M.aV];rcases q with ⟨e',rfl,q|q⟩|⟨p,rfl,q⟩
 .exact hk e' q
 .exact q
 .exact q
end
def Nk(i:Nat)(env:af)(xs:List PV)(p:PV):M Out:=if xs.length<sizeLine then M.ok (.nx (env.set i (some (.ow (xs++[p]))))) else none
def uJ(i:Nat)(f:af->M PV)(env:af):nR i f env=(ownAt i env).bind λxs=>(f env).bind λp=>Nk i env xs p:=by
 unfold nR ownAt;rcases env[i]? with _|_|(_|_|_)<;>rfl
def vb{i:Nat}{env:af}(h:xs.length<1000):Nk i env xs p=M.ok (.nx (env.set i (some (.ow (xs++[p]))))):=if_pos (mz (X_ h))
def qy(C:Addr)(m:Str)(sem:List PV->M PV)(p:PV)(x:M (List PV)):M PV:=match p with
 | .obj C' fl=>cX (C'=C/\fl.lookup m=none) (x.bind λps=>sem (.obj C' fl::ps))
 |_=>none
def dq(C:Addr)(m:Str)(sem:List PV->M PV)(g:af->M PV)(fs:af->M (List PV))(env:af):bF C m sem g fs env=(g env).bind λp=>qy C m sem p (fs env):=rfl
variable{sem:List PV->M PV}{C:Addr}
def iJ{m:Str}{fl:List (Str×PV)}{x:M (List PV)}(h:fl.lookup m=none):qy C m sem (.obj C fl) x=x.bind λps=>sem (.obj C fl::ps):=ar ⟨rfl,h⟩
def CY(ok:Addr->Bool)(f:Str)(p:PV):M PV:=match p with
 | .obj C fs=>cX (ok C=true) (fZ (fs.lookup f))
 |_=>none
def j9(ok:Addr->Bool)(f:Str)(g:af->M PV)(env:af):eW ok f g env=(g env).bind (CY ok f):=rfl
def qI{ok:Addr->Bool}{f:Str}{fs:List (Str×PV)}{x:PV}(h:ok C=true)(hl:fs.lookup f=some x):CY ok f (.obj C fs)=M.ok x:=by
 show cX _ _=_;rw[ar h,hl];rfl
def JB(xs ys:List Int):oJ (lI xs) (lI ys)=M.ok (.bl (decide (xs=ys))):=by
 simp only[oJ,mI,dat,lI,mN,Y8,EV];rw[ar (by simp[abl,WV,Xs,jT,kR,abV,noMix_ints])];unfold same;rw[same_ints];rfl
theorem Ae(xs ys:List (List Int)):oJ (.lst (xs.map tI)) (.lst (ys.map tI))=M.ok (.bl (decide (xs=ys))):=by
 simp only[oJ,mI,dat,mO,Y8,EV];have h1:=fD xs;have h2:=fD ys;rw[ar (by simp[abl,WV,Xs,jQ,abV,i_];lia)];unfold same;rw[j_];rfl
def Ai(xs:List Int)(x:Int):xs.map PV.int++[.int x]=(xs++[x]).map PV.int:=by simp
def uQ{f:α->PV}(xs:List α)(h:bL p=some (xs.map f)):EU [p]=M.ok (xs.zipIdx.map λz=>.tup [.int (z.2:Int),f z.1]):=by
 show Oy p=_;unfold Oy;rw[h];show M.ok (h9 _)=_;rw[zU]
def Ji(xs:List Int):EU [lI xs]=M.ok (xs.zipIdx.map λz=>.tup [.int (z.2:Int),.int z.1]):=uQ xs rfl
def ot{f:α->PV}(xs:List α):EU [.lst (xs.map f)]=M.ok (xs.zipIdx.map λz=>.tup [.int (z.2:Int),f z.1]):=uQ xs rfl
def O4{us:List α}(h:us.length=1):∃a,us=[a]:=by
 cases us with
 | nil=>cases h
 | cons a t=>cases t with
  | nil=>exact⟨a,rfl⟩
  |cons b t=>cases h
def ln2{us:List α}(h:us.length=2):∃a b,us=[a,b]:=by
 cases us with
 | nil=>cases h
 |cons a t=>obtain⟨b,rfl⟩:=O4 (YS h);exact⟨a,b,rfl⟩
def Pe{us:List α}(h:us.length=3):∃a b c,us=[a,b,c]:=by
 cases us with
 | nil=>cases h
 |cons a t=>obtain⟨b,c,rfl⟩:=ln2 (YS h);exact⟨a,b,c,rfl⟩
def Pj{us:List α}(h:us.length=4):∃a b c d,us=[a,b,c,d]:=by
 cases us with
 | nil=>cases h
 |cons a t=>obtain⟨b,c,d,rfl⟩:=Pe (YS h);exact⟨a,b,c,d,rfl⟩
def zk(K:U5):Bool:=K.all λp=>match p.2.cls with
 | .type t=>t != "list"
 |_=>true
def Ey{K:U5}(h:zk K=true){a:Addr}{o:Obj}(e:K.lookup a=some o):o.cls≠.type "list" := by
 induction K with
 | nil=>cases e
 | cons p r ih =>
  obtain⟨b,u⟩:=p;rw[zk,List.all_cons,Wg] at h;rw[W7] at e;cases q:a==b with
  | true =>
   rw[q] at e;cases e;intro z;have h1:=h.1;simp only[z] at h1;exact absurd h1 ↑12
  |false=>rw[q] at e;exact ih h.2 e
theorem sF{H:Hp}:∀ns:List Int,aL H (ns.map PV.int) (ns.map V.int)
 | []=>.nil
 |i::r=>.cons (.int i) (sF r)
variable{x:Str}
def xw{l:PySem.W.OpenLaw}{q:Program}{loose:List Str}{XP:(Str->Option Value)->Heap->Prop}{YP:World->Heap->Prop}{d:DefRec}{K:Params->U5}(hn:l.most=some n)(TV:n<=sizeLine)(hdf:d.params.defaults=[])(hr:cj k callerA)(hY:∀(w:World)(h:Heap),YP w h->(K w.params).In h)(hK:∀w:World,zk (K w.params)=true)(F:∀(w:World)(mg:Str->Option Value)(fa:Addr)(h:Heap),(K w.params).In h->h.Ns mainGlobals mg->mg d.name=some (.ref fa) ->∃ fd:FuncData,(∀(s:Shared)(u:Value),BindsTo s fd ⟨[u],[]⟩ [(x,u)]) ∧∀base:Heap,(K w.params).In base->base.Ns mainGlobals mg->aW l.prog w (K w.params) mg base (bW l.prog w) k fa fd [x] (dR 1 sem))(T4:∀ns:List Int,ns.length<=n->(∀i∈ns,Z8 i<=1048576)->sem [.jX (ns.map PV.int)]=M.ok (.bl true)):PySem.W.WalkO q loose XP YP l.row.toRowW d [] (λf vs=>PySem.call f vs):=by
 intro w s₀ s₁ mg mb G Y fa o pm cd doc dV kV ho hd QI hD hmg hg args vals as A4 hlay hrd hwl R0;obtain rfl:dV=.none:=PySem.W.Dflts.none hD hdf;obtain rfl:kV=.none:=PySem.W.Dflts.noKw hD;obtain⟨a,vs,ns,rfl,rfl,hobj,hints,hlen⟩:=Att.zD hn A4 hwl;have Ux:∀i∈ns,Z8 i<=1048576:=λi hi=>by
  have h1:=PySem.W.layableW_arg hlay _ (Vs.mpr rfl);have h2:=PySem.W.layableW_item h1 (.int i) (VH.mpr ⟨i,hi,rfl⟩);exact intBits_le_of_layable h2
 have KX:=hY w _ Y;obtain⟨fd,hb,hF⟩:=F w mg fa _ KX G.T.g hmg;have hs:=T4 ns hlen Ux;refine PySem.W.enter_call (abd (EC KX G.T.g G.T.b G.T.builtins G.T.nolimit hg hobj hints (Vz hlen TV) hr hF hb (λH hO hS=>⟨rfl,H,[.jX (ns.map PV.int)],λ_ _ e=>e,?_,?_⟩) λH e s' z=>?_) λr s' hq=>?_)
 .rcases hS with (hS|⟨ob,hS⟩)|⟨ob,P7,m,e1,e2,_⟩
  .rcases hO a with z|⟨ob,xs,z⟩
   .rw[z] at hS;cases hS
   .rw[z] at hS;cases hS
  .exact .cons (.jX hS (sF ns)) .nil
  .exact absurd e2 (Ey (hK w) e1)
 .rw[hs];intro v P9 H' g r;cases r;rfl
 .obtain⟨ea,T,C,dd,Hc,_,_,_,_,_,_,_,_,z⟩:=z;exact z
 .obtain⟨rfl,h2,h3,h4⟩:=hq;exact⟨.inl ⟨.bool true,.bool true,[],rfl,λ_=>rfl,.bool true,Att.Ac l _,λ_=>⟨List.Pairwise.nil,λ_ hm=>(nomatch hm)⟩⟩,h2,h3,h4⟩
abbrev Bh(x q:Str)(t:Stmt)(s:Value)(c:Addr):FuncData:=WA x q (ir t) (d_ t) (aZ t) .none .none .none s none (.ref c) .none
def bg.of{K:U5}{q:Str}{t:Stmt}{dv kV doc pm:Value}{an:Option Addr}{Qf ct:Value}{f:Addr}(h1:K.lookup f=some ⟨.type "function",none,.func (WA x q (ir t) (d_ t) (aZ t) dv kV doc pm an Qf ct),⟨[]⟩⟩)(h2:Xy K Qf q=true)(h3:Xc K (.ref f)=true):bg K x q t dv f (WA x q (ir t) (d_ t) (aZ t) dv kV doc pm an Qf ct):=⟨⟨_,_,_,_,_,_,_,_,_,rfl,h1,h2⟩,h3⟩
section
variable{P:List α->Prop}
def Pp(h:∀a,P [a]):∀us,us.length=1->P us:=λus hl=>by obtain⟨a,rfl⟩:=O4 hl;exact h a
def Pa(h:∀a b,P [a,b]):∀us,us.length=2->P us:=λus hl=>by obtain⟨a,b,rfl⟩:=ln2 hl;exact h a b
end
def cH.of{N P:List Str}{sc:Scope}(h1:autoParam (sc.kind=.function) aR._auto_1)(h2:autoParam (sc.isCoroutine=false) aR._auto_1)(h3:autoParam (sc.isGenerator=false) aR._auto_1)(h4:autoParam (N.Nodup) aN._auto_1)(h5:autoParam (N.take P.length=P) aR._auto_1)(h6:autoParam (∀x∈P,sc.names.lookup x=some .local\/sc.names.lookup x=some .cell) aN._auto_1)(h7:autoParam (∀y∈sc.names,y.2≠.free) aN._auto_1):cH N P sc:=⟨h1,h2,h3,h4,h5,h6,h7⟩
def aQ{pos:Pos}{i:Nat}(hN:X.N.Nodup)(hi:autoParam (X.N[i]?=some x) aR._auto_1)(hx:autoParam (Loc X.env.scope x) aG._auto_1)(hf:autoParam ↑1 aG._auto_1):PG X (.Name x pos) (aJ i):=Fc hN hi hx hf
def E2:Nat->(List Value->Prop)->Prop
 | 0,P=>P []
 |n+1,P=>∀a,E2 n λl=>P (a::l)
theorem tM:∀{n:Nat}{P:List Value->Prop},E2 n P->∀us:List Value,us.length=n->P us
 | 0,_,h,[],_=>h
 |n+1,_,h,a::r,e=>tM (h a) r (YS e)
variable{ps:List Str}{mg:Str->Option Value}
section
variable{K:U5}{h:Heap}{q:Str}{t:Stmt}{m:Nat}{tO:List PV->M (List PV)}
def iV(P:Program)(w:World)(base:Heap)(X:K.In h)(G:h.Ns mainGlobals mg)(a c:Addr)(s:Value)(ok:bg K x q t .none a (Bh x q t s c)->aW P w K mg base (bW P w) n a (Bh x q t s c) ps (dR m (br m sem)))(h1:autoParam (K.lookup a=some ⟨.type "function",none,.func (Bh x q t s c),⟨[]⟩⟩) aK._auto_1)(h2:autoParam (Xy K (.ref c) q=true) aK._auto_1)(h3:autoParam (Xc K (.ref a)=true) aK._auto_1)(h4:autoParam (PySem.W.nsIn K mainGlobals x=some (some (.ref a))) aK._auto_1)(h5:autoParam (ps.length=m) aR._auto_1)(h6:E2 ps.length λus=>bindArgs (Bh x q t s c) ⟨us,[]⟩=pure (ps.zip us):=by (repeat intro _);rfl):dM P w K mg base n x m sem :=
 ⟨⟨a,_,ps,adj X G h4,h3,h5,.all (tM h6),ok (.of h1 h2 h3)⟩⟩
def ER(P:Program)(w:World)(base:Heap)(cc:mf K C)(a c:Addr)(s:Value)(ok:bg K x q t .none a (Bh x q t s c)->aW P w K mg base (bW P w) n a (Bh x q t s c) ps (dR m (br m sem)))(h1:autoParam (K.lookup a=some ⟨.type "function",none,.func (Bh x q t s c),⟨[]⟩⟩) aK._auto_1)(h2:autoParam (Xy K (.ref c) q=true) aK._auto_1)(h3:autoParam (Xc K (.ref a)=true) aK._auto_1)(h4:autoParam (V_ K (.ref C) x=some (some (.ref a))) aK._auto_1)(h5:autoParam (aa7 K (.ref a)=true) aK._auto_1)(h6:E2 ps.length λus=>bindArgs (Bh x q t s c) ⟨us,[]⟩=pure (ps.zip us):=by (repeat intro _);rfl):kf P w K mg base C n x m sem :=
 ⟨⟨a,_,ps,cc,⟨h4,h5,h3⟩,.all (tM h6),ok (.of h1 h2 h3)⟩⟩
end
def bg.gi{P:Program}{w:World}{K:U5}{base:Heap}{qual:Str}{st:Stmt}{dv:Value}{f:Addr}{fd:FuncData}{g:af->M Out}(F:bg K x qual st dv f fd)(N:List Str)(hb:N.Nodup->∀(Qf:Value)(A:Around)(outer:List Env)(s:Shared)(H:Hp)(E:XK),cj k (A.deeper (envOfC qual (aZ st) s.heap.objs.size f Qf))->gD ((jO (bW P w) P w K mg base N qual (aZ st) f Qf A outer s H E).out λ_=>E) (λ_=>E)->kr ((jO (bW P w) P w K mg base N qual (aZ st) f Qf A outer s H E).out λ_=>E) (d_ st) (tS E g))(S:cH N ps (aZ st):=by exact .of):aW P w K mg base (bW P w) (k+1) f fd ps (dR ps.length (br ps.length (aC N.length g))):=F.Pq S (hb S.nd)
end L2
namespace xf
open PySem L2 PyProof.Rows
def az:Addr:=427
def au:Addr:=244
abbrev cI(i:Int):af->M PV:=λ_=>M.ok (.int i)
def jl:af->M Out :=
 (aq (retS (Bs (FP (λa=>oR a "int") vC vC (aa 0)) (Iq (FP (λa=>oR a "bool") vC vC (aa 0)))))
 av)
def fw:List PV->M PV:=br 1 (aC 1 jl)
def jS:af->M Out :=
 (aq (ng (Kf (lq (eM (FP (λa=>["list","tuple"].any λt=>oR a t) vC vC (aa 0)))) (eM (aj oo (ai dU (ae (aa 0) ao)) (aa 1)))) (aq (retS (λ_=>M.ok (.bl false)))
 av) av)
 (aq (retS (ai wj (ae (bQ (bN (itemsOf (aa 0)) (bB 0) none (ai fw (ae (aa 0) ao)) 1 [])) ao)))
 av))
def f7:List PV->M PV:=br 2 (aC 2 jS)
def jY:af->M Out :=
 (aq (bo 2 (iP (ae (aa 0) (ae (cI 1) (ae (cI 0) ao)))))
 (aq (bo 3 (iP (ae (aa 1) (ae (cI 0) (ae (cI 1) ao)))))
 (aq (i7 (eM (aj oo (aj a_ (aa 3) (cI 0)) (cI 0))) (aq (bo 4 (aj bZ (aj a_ (aa 2) (cI 0)) (aj a_ (aa 3) (cI 0))))
 (aq (bo 5 (iP (ae (aj n_ (aj a_ (aa 2) (cI 0)) (aj b_ (aa 4) (aj a_ (aa 3) (cI 0)))) (ae (aj n_ (aj a_ (aa 2) (cI 1)) (aj b_ (aa 4) (aj a_ (aa 3) (cI 1)))) (ae (aj n_ (aj a_ (aa 2) (cI 2)) (aj b_ (aa 4) (aj a_ (aa 3) (cI 2)))) ao)))))
 (aq (bo 2 (aa 3))
 (aq (bo 3 (aa 5))
 av)))))
 (aq (ng (eM (aj EY (aj a_ (aa 2) (cI 0)) (cI 0))) (aq (retS (iP (ae (lT (aj a_ (aa 2) (cI 0))) (ae (lT (aj a_ (aa 2) (cI 1))) (ae (lT (aj a_ (aa 2) (cI 2))) ao)))))
 av) av)
 (aq (retS (aa 2))
 av)))))
def f_:List PV->M PV:=br 2 (aC 6 jY)
def fU:af->M Out :=
 (aq (bo 1 (cI 1))
 (aq (iE (itemsOf (aa 0)) (bB 2) (aq (bo 1 (aj b_ (aj bZ (aa 1) (aj a_ (ai f_ (ae (aa 1) (ae (aa 2) ao))) (cI 0))) (aa 2)))
 av))
 (aq (retS (aa 1))
 av)))
def fS:List PV->M PV:=br 1 (aC 3 fU)
def gJ:af->M Out :=
 (aq (bo 1 (cI 1))
 (aq (iE (itemsOf (aa 0)) (bB 2) (aq (bo 1 (aj b_ (aa 1) (aa 2)))
 av))
 (aq (retS (aa 1))
 av)))
def gu:List PV->M PV:=br 1 (aC 3 gJ)
def jr:af->M Out :=
 (aq (retS (ai cW (ae (bQ (bN (jE k8 (ae (aa 0) ao)) (bB 0) none (AZ (eM (aj oJ (aa 0) (aa 1))) (cI 1) (cI 0)) 1 [1])) ao)))
 av)
def jd:List PV->M PV:=br 2 (aC 2 jr)
def jm:af->M Out :=
 (aq (retS (aj dI (ai xx (ae (bQ (bN (jE zip2 (ae (aa 0) (ae (aa 1) ao))) (cL 0 1) none (aj b_ (aa 0) (aa 1)) 2 [])) ao)) (aa 2)))
 av)
def jg:List PV->M PV:=br 3 (aC 3 jm)
def eD:af->M Out :=
 (aq (retS (Bs (ai fw (ae (aa 0) ao)) (kT FG FG (aa 1) (aa 0) (aa 2))))
 av)
def dh:List PV->M PV:=br 3 (aC 3 eD)
def gH:af->M Out :=
 (aq (ng (eM (aj ET (ai dU (ae (aa 0) ao)) (cI 6))) (aq (λ_=>none)
 av) av)
 (aq (ng (eM (aj oJ (ai dU (ae (aa 0) ao)) (cI 0))) (aq (λ_=>none)
 av) av)
 (aq (iE (jE EU (ae (aa 0) ao)) (cL 1 2) (aq (ng (lq (eM (ai dh (ae (aa 2) (ae (cI 2) (ae (cI 360) ao)))))) (aq (λ_=>none)
 av) av)
 av))
 av)))
def gy:List PV->M PV:=br 1 (aC 3 gH)
def fM:af->M Out :=
 (aq (ng (eM (aj ET (ai dU (ae (aa 0) ao)) (cI 8))) (aq (λ_=>none)
 av) av)
 (aq (iE (jE EU (ae (aa 0) ao)) (cL 2 3) (aq (ng (lq (eM (ai f7 (ae (aa 3) (ae (aa 1) ao))))) (aq (λ_=>none)
 av) av)
 av))
 av))
def fW:List PV->M PV:=br 2 (aC 4 fM)
def eT:af->M Out :=
 (aq (ng (eM (aj xu (aa 1) (λ_=>M.ok .c_))) (aq (retS (aj b_ (iP (ae (cI 1) ao)) (ai dU (ae (aa 0) ao))))
 av) av)
 (aq (iE (jE k8 (ae (ai (BZ λi j=>if j>i then j else i) (ae (ai dU (ae (aa 0) ao)) (ae (ai dU (ae (aa 1) ao)) ao))) ao)) (bB 2) (aq (ng (Kf (eM (aj LQ (aa 2) (ai dU (ae (aa 0) ao)))) (eM (aj LQ (aa 2) (ai dU (ae (aa 1) ao))))) (aq (λ_=>none)
 av) av)
 (aq (ng (lq (eM (ai dh (ae (aj a_ (aa 1) (aa 2)) (ae (cI 1) (ae (cI 1000) ao)))))) (aq (λ_=>none)
 av) av)
 av)))
 (aq (retS (ai cW (ae (aa 1) ao)))
 av)))
def cU:List PV->M PV:=br 2 (aC 3 eT)
def ki:af->M Out :=
 (aq (retS (ai cW (ae (bQ (bN (jE zip2 (ae (aa 0) (ae (aa 1) ao))) (cL 0 1) none (aj dI (aa 0) (aa 1)) 2 [])) ao)))
 av)
def i4:List PV->M PV:=br 2 (aC 2 ki)
def lN:af->M Out :=
 (aq (retS (ai cW (ae (bQ (bN (jE zip2 (ae (aa 0) (ae (aa 2) ao))) (cL 0 1) none (aj eh (aj b_ (aa 2) (aa 0)) (aj b_ (aa 3) (aa 1))) 2 [1,3])) ao)))
 av)
def ko:List PV->M PV:=br 4 (aC 4 lN)
def eY:af->M Out :=
 (aq (bo 5 (ai ko (ae (aj a_ (aa 1) (cI 0)) (ae (aa 2) (ae (aj a_ (aa 3) (cI 0)) (ae (aa 4) ao))))))
 (aq (retS (iP (ae (ai i4 (ae (aa 5) (ae (aa 0) ao))) (ae (ai ko (ae (aj a_ (aa 1) (cI 1)) (ae (aa 2) (ae (aj a_ (aa 3) (cI 1)) (ae (aa 4) ao))))) ao))))
 av))
def dE:List PV->M PV:=br 5 (aC 6 eY)
def eE:af->M Out :=
 (aq (bo 3 (aj a_ (aj a_ (aj a_ (aa 1) (aa 2)) (cI 0)) (aa 2)))
 (aq (retS (AZ (eM (aj oJ (aa 3) (cI 0))) (aj a_ (aa 0) (aa 2)) (aa 3)))
 av))
def du:List PV->M PV:=br 3 (aC 4 eE)
def jv:af->M Out :=
 (aq (nN 3 (kE ao))
 (aq (iE (jE EU (ae (aa 1) ao)) (cL 4 5) (aq (bo 6 (ai du (ae (aa 0) (ae (aa 1) (ae (aa 4) ao)))))
 (aq (bo 7 (aj a_ (aj a_ (aa 2) (cI 0)) (aa 4)))
 (aq (bo 8 (ai f_ (ae (aa 6) (ae (aa 7) ao))))
 (aq (nR 3 (ai dE (ae (aa 0) (ae (aa 5) (ae (aj a_ (aa 8) (cI 1)) (ae (aa 2) (ae (aj a_ (aa 8) (cI 2)) ao)))))))
 (aq (bo 2 (ai dE (ae (aa 0) (ae (aa 2) (ae (aj bZ (aa 6) (aj a_ (aa 8) (cI 0))) (ae (aa 5) (ae (lT (aj bZ (aa 7) (aj a_ (aa 8) (cI 0)))) ao)))))))
 av))))))
 (aq (rL [3] (retS (iP (ae (aa 3) (ae (aj a_ (aa 2) (cI 1)) ao)))))
 av)))
def jw:List PV->M PV:=br 3 (aC 9 jv)
def iN:af->M Out :=
 (aq (iE (jE A7 (ae (aa 3) (ae (ai dU (ae (aa 0) ao)) ao))) (bB 4) (aq (bo 5 (aj bZ (aj a_ (aj a_ (aa 2) (cI 0)) (aa 4)) (ai du (ae (aa 0) (ae (aa 1) (ae (aa 4) ao))))))
 (aq (bo 2 (ai dE (ae (aa 0) (ae (aa 2) (ae (cI 1) (ae (aj a_ (aa 1) (aa 4)) (ae (lT (aa 5)) ao)))))))
 av)))
 (aq (retS (aa 2))
 av))
def fm:List PV->M PV:=br 4 (aC 6 iN)
def jj:af->M Out :=
 (aq (iE (jE Ar (ae (aj n_ (ai dU (ae (aa 1) ao)) (cI 1)) (ae (lT (cI 1)) (ae (lT (cI 1)) ao)))) (bB 2) (aq (bo 3 (aj a_ (aa 1) (aa 2)))
 (aq (bo 0 (ai ko (ae (aa 0) (ae (cI 1) (ae (aa 3) (ae (lT (aj bZ (aj a_ (aa 0) (aa 2)) (aj a_ (aa 3) (aa 2)))) ao))))))
 av)))
 (aq (retS (aa 0))
 av))
def ju:List PV->M PV:=br 2 (aC 4 jj)
def h_:af->M Out :=
 (aq (ng (eM (aj EY (aa 1) (ai dU (ae (aa 0) ao)))) (aq (retS (aj a_ (aa 0) (aa 1)))
 av) av)
 (aq (retS (aj dI (aj b_ (aj eh (aa 1) (cI 2)) (cI 104729)) (cI 65537)))
 av))
def eI:List PV->M PV:=br 2 (aC 2 h_)
def fq:af->M Out :=
 (aq (bo 2 (aj dI (aj eh (aj eh (aj b_ (aj dI (aa 0) (cI 2147483647)) (cI 48271)) (aj b_ (cI 7919) (aa 1))) (cI 13)) (cI 2147483629)))
 (aq (bo 2 (aj dI (aj eh (aj eh (aj b_ (aa 2) (aa 2)) (aj b_ (cI 104729) (aa 1))) (cI 7)) (cI 2147483587)))
 (aq (retS (aj dI (aj b_ (aa 2) (aa 2)) (cI 2147483579)))
 av)))
def bT:List PV->M PV:=br 2 (aC 3 fq)
def dO:af->M Out :=
 (aq (nN 2 (kE ao))
 (aq (iE (itemsOf (aa 1)) (bB 3) (aq (nR 2 (aj dI (aa 0) (aa 3)))
 (aq (bo 0 (aj bZ (aa 0) (aa 3)))
 av)))
 (aq (rL [2] (retS (ai cW (ae (aa 2) ao))))
 av)))
def c8:List PV->M PV:=br 2 (aC 4 dO)
def gK:af->M Out :=
 (aq (ng (eM (aj oJ (aj dI (aa 0) (cI 2)) (cI 0))) (aq (retS (bQ (bN (itemsOf (ai c8 (ae (aj bZ (aa 0) (cI 6)) (ae (aj b_ (qj (ae (cI 4) ao)) (aj eh (cI 1) (aj dI (aj bZ (aa 0) (cI 2)) (cI 3)))) ao)))) (bB 0) none (aj eh (cI 2) (aa 0)) 1 [])))
 av) av)
 (aq (retS (bQ (bN (jE k8 (ae (aj eh (cI 1) (aj dI (aj bZ (aa 0) (cI 2)) (cI 3))) ao)) (bB 0) none (aj eh (cI 2) (aj dI (ai bT (ae (aj bZ (aa 1) (cI 6)) (ae (aa 0) ao))) (cI 4))) 1 [0])))
 av))
def gz:List PV->M PV:=br 1 (aC 1 gK)
def gE:af->M Out :=
 (aq (ng (eM (aj oJ (aj dI (aa 0) (cI 2)) (cI 0))) (aq (retS (ai c8 (ae (aj bZ (aa 0) (cI 2)) (ae (aa 1) ao))))
 av) av)
 (aq (retS (ai cW (ae (bQ (bN (jE EU (ae (aa 1) ao)) (cL 0 1) none (aj dI (aj bZ (aj dI (ai bT (ae (aj bZ (aa 2) (cI 2)) (ae (aa 0) ao))) (aj b_ (cI 2) (aa 1))) (cI 2)) (aa 1)) 2 [0])) ao)))
 av))
def dF:List PV->M PV:=br 2 (aC 2 gE)
def fJ:af->M Out :=
 (aq (Li 2 (ai cW (ae (aj b_ (qj (ae (cI 0) ao)) (ai dU (ae (aa 0) ao))) ao)) (λ_=>M.ok (.bl true)))
 (aq (nN 3 (xo 2))
 (aq (bo 4 (cI 0))
 (aq (i7 (nu 3 (eM (aj EY (aa 4) (ai dU (ae (aa 3) ao))))) (aq (iE (itemsOf (aa 1)) (bB 5) (aq (bo 6 (nI 3 (ai cW (ae (bQ (bN (jE vD (ae (aj a_ (aa 3) (aa 4)) (ae (aa 5) (ae (aa 0) ao)))) (kG 0 1 2) none (aj dI (aj eh (aa 0) (aa 1)) (aa 2)) 3 [])) ao))))
 (aq (ng (eM (MV true 2 (aa 6))) (aq (Bw 2 (aa 6) (λ_=>M.ok (.bl true)))
 (aq (nR 3 (aa 6))
 av)) av)
 av)))
 (aq (bo 4 (aj eh (aa 4) (cI 1)))
 av)))
 (aq (NL 2 (retS (aa 2)))
 av)))))
def dS:List PV->M PV:=br 2 (aC 7 fJ)
def gM:af->M Out :=
 (aq (nN 2 (kE ao))
 (aq (iE (jE k8 (ae (ai dU (ae (aa 0) ao)) ao)) (bB 3) (aq (bo 4 (bQ (bN (anyOf (aa 1)) (bB 0) (some (zP (eM (aj ET (aj a_ (aa 0) (aa 1)) (cI 0))) (eM (aj oJ (ai w4 (ae (m9 (aa 0) G7 (lp (aa 1))) ao)) (aj b_ (qj (ae (cI 0) ao)) (aa 1)))))) (aa 0) 1 [3])))
 (aq (ng (eM (aj oo (aa 4) (qj ao))) (aq (nR 2 (ai vM (ae (aa 4) ao)))
 av) av)
 av)))
 (aq (rL [2] (retS (ai cW (ae (aa 2) ao))))
 av)))
def e_:List PV->M PV:=br 2 (aC 5 gM)
def i6:af->M Out :=
 (aq (bo 1 (qj (ae (iP ao) ao)))
 (aq (iE (itemsOf (aa 0)) (bB 2) (aq (nN 3 (kE ao))
 (aq (iE (itemsOf (aa 1)) (bB 4) (aq (xr 3 (bQ (bN (jE k8 (ae (aa 2) ao)) (bB 0) none (aj eh (aa 1) (iP (ae (aa 0) ao))) 1 [4])))
 av))
 (aq (rL [3] (bo 1 (aa 3)))
 av))))
 (aq (retS (aa 1))
 av)))
def jf:List PV->M PV:=br 1 (aC 5 i6)
def gG:af->M Out :=
 (aq (bo 1 (cI 1))
 (aq (iE (itemsOf (aa 0)) (bB 2) (aq (bo 3 (aa 1))
 (aq (bo 4 (aa 2))
 (aq (i7 (eM (aj ET (aa 4) (cI 0))) (aq (Fv 3 4 (ae (aa 4) (ae (aj dI (aa 3) (aa 4)) ao)))
 av))
 (aq (bo 1 (aj b_ (aj bZ (aa 1) (aa 3)) (aa 2)))
 av)))))
 (aq (retS (aa 1))
 av)))
def gC:List PV->M PV:=br 1 (aC 5 gG)
def gN:af->M Out :=
 (aq (bo 3 (ai gC (ae (aa 2) ao)))
 (aq (retS (aj dI (ai xx (ae (bQ (bN (jE vD (ae (aa 0) (ae (aa 1) (ae (aa 2) ao)))) (kG 0 1 2) none (aj b_ (aj b_ (aa 0) (aa 1)) (aj bZ (aa 3) (aa 2))) 3 [3])) ao)) (aa 3)))
 av))
def gQ:List PV->M PV:=br 3 (aC 4 gN)
def gA:af->M Out :=
 (aq (iE (itemsOf (aa 1)) (bB 3) (aq (ng (eM (aj oo (ai gQ (ae (aa 0) (ae (aa 3) (ae (aa 2) ao)))) (cI 0))) (aq (retS (λ_=>M.ok (.bl false)))
 av) av)
 av))
 (aq (retS (λ_=>M.ok (.bl true)))
 av))
def cT:List PV->M PV:=br 3 (aC 4 gA)
def je:af->M Out :=
 (aq (l4 (ai gy (ae (aa 1) ao)))
 (aq (l4 (ai fW (ae (aa 2) (ae (ai dU (ae (aa 1) ao)) ao))))
 (aq (k4 0 au "dial_sizes" (ai cW (ae (aa 1) ao)))
 (aq (k4 0 au "lever_settings" (ai cW (ae (bQ (bN (itemsOf (aa 2)) (bB 0) none (ai i4 (ae (aa 0) (ae (aa 1) ao))) 1 [1])) ao)))
 (aq (k4 0 au "lever_prices" (ai cU (ae (aa 2) (ae (aa 3) ao))))
 (aq (k4 0 au "least_round" (ai fS (ae (aa 1) ao)))
 av))))))
def cS:Addr->List PV->M (List (Str×PV)):=uB 4 (zz 4 je au)
def aX:af->M Out :=
 (aq (retS (eW (λc=>c==au) "dial_sizes" (aa 0)))
 av)
def aT:List PV->M PV:=br 1 (aC 1 aX)
def cm:af->M Out :=
 (aq (retS (eW (λc=>c==au) "lever_settings" (aa 0)))
 av)
def bH:List PV->M PV:=br 1 (aC 1 cm)
def eV:af->M Out :=
 (aq (retS (eW (λc=>c==au) "lever_prices" (aa 0)))
 av)
def dj:List PV->M PV:=br 1 (aC 1 eV)
def dc:af->M Out :=
 (aq (retS (eW (λc=>c==au) "least_round" (aa 0)))
 av)
def cK:List PV->M PV:=br 1 (aC 1 dc)
def dP:af->M Out :=
 (aq (bo 1 (bF au "sizes" aT (eW (λc=>c==az) "vault" (aa 0)) ao))
 (aq (retS (ai cW (ae (bQ (bN (jE k8 (ae (ai dU (ae (aa 1) ao)) ao)) (bB 0) none (ai du (ae (aa 2) (ae (eW (λc=>c==az) "made_rows" (aa 1)) (ae (aa 0) ao)))) 1 [0,1])) ao)))
 av))
def dX:List PV->M PV:=br 1 (aC 2 dP)
def eX:af->M Out :=
 (aq (retS (bQ (bN (itemsOf (eW (λc=>c==az) "made_rows" (aa 0))) (bB 0) none (aj a_ (aa 0) (cI 0)) 1 [])))
 av)
def e7:List PV->M PV:=br 1 (aC 1 eX)
def fL:af->M Out :=
 (aq (retS (ai cW (ae (bQ (bN (jE EU (ae (eW (λc=>c==az) "idle_rows" (aa 0)) ao)) (cL 0 1) none (aj a_ (aa 1) (aa 0)) 2 [])) ao)))
 av)
def fN:List PV->M PV:=br 1 (aC 1 fL)
def iM:af->M Out :=
 (aq (retS (aj b_ (iP (ae (cI 0) ao)) (ai dU (ae (bF au "sizes" aT (aa 0) ao) ao))))
 av)
def gY:List PV->M PV:=br 1 (aC 1 iM)
def gF:af->M Out :=
 (aq (bo 2 (bF au "sizes" aT (aa 0) ao))
 (aq (ng (Kf (lq (eM (FP (λa=>oR a "tuple") vC vC (aa 1)))) (lq (eM (ai f7 (ae (aa 1) (ae (ai dU (ae (aa 2) ao)) ao)))))) (aq (retS (λ_=>M.ok (.bl false)))
 av) av)
 (aq (retS (ai wj (ae (bQ (bN (jE zip2 (ae (aa 1) (ae (aa 2) ao))) (cL 0 1) none (kT FG EY (cI 0) (aa 0) (aa 1)) 2 [])) ao)))
 av)))
def gL:List PV->M PV:=br 2 (aC 3 gF)
def cP:af->M Out :=
 (aq (ng (lq (eM (ai gL (ae (aa 0) (ae (aa 1) ao))))) (aq (λ_=>none)
 av) av)
 av)
def ck:List PV->M PV:=br 2 (aC 2 cP)
def oE:af->M Out :=
 (aq (bo 4 (bQ (bN (jE zip2 (ae (aa 1) (ae (aa 2) ao))) (cL 0 1) none (aj eh (aa 0) (aj b_ (aa 2) (aa 1))) 2 [3])))
 (aq (retS (ai i4 (ae (aa 4) (ae (bF au "sizes" aT (aa 0) ao) ao))))
 av))
def lB:List PV->M PV:=br 4 (aC 5 oE)
def oN:af->M Out :=
 (aq (l4 (ai ck (ae (aa 0) (ae (aa 1) ao))))
 (aq (l4 (ai ck (ae (aa 0) (ae (aa 2) ao))))
 (aq (bo 3 (bF au "around" cK (aa 0) ao))
 (aq (bo 4 (bQ (bN (jE zip2 (ae (aa 1) (ae (bF au "sizes" aT (aa 0) ao) ao))) (cL 0 1) none (aj b_ (aa 0) (aj bZ (aa 2) (aa 1))) 2 [3])))
 (aq (retS (ai jg (ae (aa 4) (ae (aa 2) (ae (aa 3) ao)))))
 av)))))
def om:List PV->M PV:=br 3 (aC 5 oN)
def g9:af->M Out :=
 (aq (retS (iP (ae (aa 1) (ae (aj b_ (iP (ae (cI 0) ao)) (ai dU (ae (bF au "levers" bH (aa 0) ao) ao))) ao))))
 av)
def fy:List PV->M PV:=br 2 (aC 2 g9)
def fP:af->M Out :=
 (aq (bo 2 (bF au "levers" bH (aa 0) ao))
 (aq (retS (iP (ae (aj a_ (aa 2) (aa 1)) (ae (ai jd (ae (ai dU (ae (aa 2) ao)) (ae (aa 1) ao))) ao))))
 av))
def fK:List PV->M PV:=br 2 (aC 3 fP)
def gI:af->M Out :=
 (aq (ng (Kf (eM (aj oo (bF au "sizes" aT (aa 0) ao) (ai cW (ae (aa 1) ao)))) (eM (aj oo (bF au "prices" dj (aa 0) ao) (aj b_ (iP (ae (cI 1) ao)) (ai dU (ae (aa 2) ao)))))) (aq (retS (λ_=>M.ok (.bl false)))
 av) av)
 (aq (retS (aj oJ (bF au "levers" bH (aa 0) ao) (aa 2)))
 av))
def e6:List PV->M PV:=br 3 (aC 3 gI)
def jc:af->M Out :=
 (aq (bo 2 (bF au "sizes" aT (aa 1) ao))
 (aq (bo 3 (bQ (bN (itemsOf (aa 2)) (bB 0) none (ai fy (ae (aa 1) (ae (ai gY (ae (aa 1) ao)) ao))) 1 [1])))
 (aq (nN 4 (kE ao))
 (aq (iE (jE k8 (ae (ai dU (ae (bF au "levers" bH (aa 1) ao) ao)) ao)) (bB 5) (aq (bo 6 (ai jw (ae (aa 2) (ae (aa 3) (ae (ai fK (ae (aa 1) (ae (aa 5) ao))) ao)))))
 (aq (bo 3 (aj a_ (aa 6) (cI 0)))
 (aq (nR 4 (nI 4 (ai ju (ae (aj a_ (aa 6) (cI 1)) (ae (aa 4) ao)))))
 av))))
 (aq (k4 0 az "vault" (aa 1))
 (aq (k4 0 az "made_rows" (bQ (bN (jE EU (ae (aa 3) ao)) (cL 0 1) none (ai fm (ae (aa 2) (ae (aa 3) (ae (aa 1) (ae (aj eh (aa 0) (cI 1)) ao))))) 2 [2,3])))
 (aq (rL [4] (k4 0 az "idle_rows" (aa 4)))
 av)))))))
def eg:Addr->List PV->M (List (Str×PV)):=uB 2 (zz 7 jc az)
def cx:af->M Out :=
 (aq (l4 (ai ck (ae (eW (λc=>c==az) "vault" (aa 0)) (ae (aa 1) ao))))
 (aq (retS (ai fm (ae (bF au "sizes" aT (eW (λc=>c==az) "vault" (aa 0)) ao) (ae (eW (λc=>c==az) "made_rows" (aa 0)) (ae (ai fy (ae (eW (λc=>c==az) "vault" (aa 0)) (ae (aa 1) ao))) (ae (cI 0) ao))))))
 av))
def cz:List PV->M PV:=br 2 (aC 2 cx)
def fV:af->M Out :=
 (aq (retS (aj a_ (bF az "brought_down" cz (aa 0) (ae (aa 1) ao)) (cI 0)))
 av)
def fH:List PV->M PV:=br 2 (aC 2 fV)
def cV:af->M Out :=
 (aq (bo 2 (bF au "sizes" aT (eW (λc=>c==az) "vault" (aa 0)) ao))
 (aq (ng (lq (eM (ai dh (ae (aa 1) (ae (cI 0) (ae (aj n_ (ai dU (ae (aa 2) ao)) (cI 1)) ao)))))) (aq (λ_=>none)
 av) av)
 (aq (bo 3 (bQ (bN (jE zip2 (ae (aa 2) (ae (bF az "steps" dX (aa 0) ao) ao))) (cL 0 1) none (aj bZ (aa 0) (aa 1)) 2 [])))
 (aq (nN 4 (Lz (qj (ae (cI 0) ao)) (ai dU (ae (aa 2) ao))))
 (aq (Nd 4 (aa 1) (aj dI (aj a_ (aa 3) (aa 1)) (aj a_ (aa 2) (aa 1))))
 (aq (iE (jE Ar (ae (aj n_ (aa 1) (cI 1)) (ae (lT (cI 1)) (ae (lT (cI 1)) ao)))) (bB 5) (aq (bo 6 (nI 4 (ai om (ae (eW (λc=>c==az) "vault" (aa 0)) (ae (ai cW (ae (aa 4) ao)) (ae (aj a_ (aj a_ (eW (λc=>c==az) "made_rows" (aa 0)) (aa 5)) (cI 0)) ao))))))
 (aq (bo 7 (aj bZ (bF au "around" cK (eW (λc=>c==az) "vault" (aa 0)) ao) (aj a_ (aa 3) (aa 5))))
 (aq (Nd 4 (aa 5) (aj dI (lT (aj bZ (aa 6) (aa 7))) (aj a_ (aa 3) (aa 5))))
 av))))
 (aq (rL [4] (retS (ai cW (ae (aa 4) ao))))
 av)))))))
def bx:List PV->M PV:=br 2 (aC 8 cV)
def cO:af->M (List PV) :=
 (vx (l4 (ai ck (ae (aa 0) (ae (aa 1) ao))))
 (vx (bo 2 (ai (ff az eg []) (ae (aa 0) ao)))
 (vx (ng (eM (aj ET (ai gu (ae (bF az "spans" fN (aa 2) ao) ao)) (λ_=>M.ok (.int 1024)))) (aq (λ_=>none)
 av) av)
 (vx (bo 3 (qj (ae (bF az "least" fH (aa 2) (ae (aa 1) ao)) ao)))
 (vx (iE (jE vD (ae (bF au "sizes" aT (aa 0) ao) (ae (bF az "steps" dX (aa 2) ao) (ae (bF az "rows" e7 (aa 2) ao) ao)))) (kG 4 5 6) (aq (nN 7 (kE ao))
 (aq (iE (jE k8 (ae (aj bZ (aa 4) (aa 5)) ao)) (bB 8) (aq (xr 7 (bQ (bN (itemsOf (aa 3)) (bB 0) none (ai lB (ae (aa 1) (ae (aa 0) (ae (aa 2) (ae (aa 3) ao))))) 1 [0,6,8])))
 av))
 (aq (rL [7] (bo 3 (aa 7)))
 av))))
 (lC zd (ae (aa 3) ao)))))))
def eU:List PV->M (List PV):=CF 2 (λps=>cO (hU 9 ps))
def lU:af->M Out :=
 (aq (bo 1 (ai gY (ae (aa 0) ao)))
 (aq (retS (ai (ff au cS [.c_]) (ae (bF au "sizes" aT (aa 0) ao) (ae (bQ (bN (itemsOf (bF az "rows" e7 (ai (ff az eg []) (ae (aa 0) ao)) ao)) (bB 0) (some (eM (aj oo (aa 0) (aa 1)))) (aa 0) 1 [1])) ao))))
 av))
def md:List PV->M PV:=br 1 (aC 2 lU)
def jW:af->M Out :=
 (aq (bo 1 (ai (ff az eg []) (ae (aa 0) ao)))
 (aq (bo 2 (bF au "sizes" aT (aa 0) ao))
 (aq (retS (ai md (ae (ai (ff au cS [.c_]) (ae (aa 2) (ae (bQ (bN (jE k8 (ae (ai dU (ae (aa 2) ao)) ao)) (bB 0) none (bF az "weights_at" bx (aa 1) (ae (aa 0) ao)) 1 [1])) ao))) ao)))
 av)))
def jV:List PV->M PV:=br 1 (aC 3 jW)
def dC:af->M (List PV) :=
 (lC eU (ae (ai jV (ae (aa 0) ao)) (ae (ai gY (ae (aa 0) ao)) ao)))
def e9:List PV->M (List PV):=CF 1 (λps=>dC (hU 1 ps))
def iq:af->M Out :=
 (aq (nN 2 (lC e9 (ae (aa 0) ao)))
 (aq (ng (Kf (lq (nu 2 (eM (FP (λa=>oR a "list") vC vC (aa 2))))) (nu 2 (eM (aj oo (aa 2) (aa 1))))) (aq (retS (λ_=>M.ok (.bl false)))
 av) av)
 (aq (J3 2)
 (aq (retS (aj oJ (bQ (lC e9 (ae (aa 0) ao))) (aa 1)))
 av))))
def ip:List PV->M PV:=br 2 (aC 3 iq)
def Ej:af->M Out :=
 (aq (bo 1 (ai gz (ae (ai eI (ae (aa 0) (ae (cI 0) ao))) ao)))
 (aq (bo 2 (bQ (bN (itemsOf (m9 (aa 0) (lp (cI 1)) (lp (cI 9)))) (bB 0) none (ai dF (ae (aa 0) (ae (aa 1) ao))) 1 [1])))
 (aq (bo 3 (ai (ff au cS []) (ae (aa 1) (ae (aa 2) (ae (bQ (bN (jE k8 (ae (ai dU (ae (aa 2) ao)) ao)) (bB 0) none (aj eh (cI 1) (aj dI (ai bT (ae (ai eI (ae (aa 1) (ae (cI 0) ao))) (ae (aj eh (cI 90) (aa 0)) ao))) (cI 1000))) 1 [0])) ao)))))
 (aq (bo 4 (ai dS (ae (aa 1) (ae (aa 2) ao))))
 (aq (bo 5 (ai jf (ae (aa 1) ao)))
 (aq (bo 6 (bQ (bN (itemsOf (aa 5)) (bB 0) (some (eM (ai cT (ae (aa 0) (ae (aa 2) (ae (aa 1) ao)))))) (aa 0) 1 [1,2])))
 (aq (ng (lq (eM (ai e6 (ae (ai md (ae (aa 3) ao)) (ae (aa 1) (ae (ai e_ (ae (aa 1) (ae (aa 4) ao))) ao)))))) (aq (retS (λ_=>M.ok (.bl false)))
 av) av)
 (aq (ng (lq (eM (ai e6 (ae (ai jV (ae (aa 3) ao)) (ae (aa 1) (ae (ai e_ (ae (aa 1) (ae (aa 6) ao))) ao)))))) (aq (retS (λ_=>M.ok (.bl false)))
 av) av)
 (aq (retS (Bs (ai ip (ae (aa 3) (ae (aa 6) ao))) (aj oJ (aj b_ (ai dU (ae (aa 6) ao)) (ai Gs (ae (aa 4) ao))) (ai dU (ae (aa 5) ao)))))
 av)))))))))
def sd:List PV->M PV:=br 1 (aC 7 Ej)
end xf
namespace xf
open PySem L2 PyProof.Rows
local macro_rules|`(tactic| walk_at "s")=>`(tactic| exact⟨rfl,rfl,rfl,by decide +kernel,rfl,by decide +kernel,by decide +kernel⟩)
local macro_rules|`(tactic| walk_at "l")=>`(tactic| first|exact .inl rfl|exact .inr rfl)
local macro_rules|`(tactic| walk_at "pp")=>do
 let mut st:Array (Array Lean.Term):=#[#[]]
 for k in "( kr _ _ ( tS _ ( aq _ _ ) ) ) ( DB 0 0 ) ( kr _ _ ( tS _ av ) ) ( G3 ) ( PE _ _ ( tE _ ( aa _ ) ) ) ( vr _ ) ( PA _ _ ( tL _ ( ae _ _ ) ) ) ( Fx 0 0 0 ) ( PA _ _ ( tL _ ao ) ) ( Ld ) ( PE _ _ ( tE _ ( aj eh _ _ ) ) ) ( pO E9 Jn 0 0 ) ( PE _ _ ( tE _ ( aj n_ _ _ ) ) ) ( pO J8 K3 0 0 ) ( PE _ _ ( tE _ ( aj b_ _ _ ) ) ) ( pO Ft Kc 0 0 ) ( PE _ _ ( tE _ ( aj bZ _ _ ) ) ) ( pO Bt DG 0 0 ) ( PE _ _ ( tE _ ( aj dI _ _ ) ) ) ( pO F0 Fo 0 0 ) ( PE _ _ ( tE _ ( aj a_ _ _ ) ) ) ( Lr 0 0 0 ) ( PT _ _ ( tT _ ( eM ( aj oJ _ _ ) ) ) ) ( kY ( Cb ( cj.units 1 ) ) HM 0 0 ( eR _ ) ) ( PE _ _ ( tE _ ( aj oJ _ _ ) ) ) ( k_ ( Cb ( cj.units 1 ) ) HM 0 0 ( eR _ ) ) ( PT _ _ ( tT _ ( eM ( aj oo _ _ ) ) ) ) ( kY ( DI ( cj.units 1 ) ) HC 0 0 ( eR _ ) ) ( PE _ _ ( tE _ ( aj oo _ _ ) ) ) ( k_ ( DI ( cj.units 1 ) ) HC 0 0 ( eR _ ) ) ( PT _ _ ( tT _ ( eM ( aj EY _ _ ) ) ) ) ( kY DN yh 0 0 ( eR _ ) ) ( PE _ _ ( tE _ ( aj EY _ _ ) ) ) ( k_ DN yh 0 0 ( eR _ ) ) ( PT _ _ ( tT _ ( eM ( aj FG _ _ ) ) ) ) ( kY vn pW 0 0 ( eR _ ) ) ( PE _ _ ( tE _ ( aj FG _ _ ) ) ) ( k_ vn pW 0 0 ( eR _ ) ) ( PT _ _ ( tT _ ( eM ( aj ET _ _ ) ) ) ) ( kY H_ CI 0 0 ( eR _ ) ) ( PE _ _ ( tE _ ( aj ET _ _ ) ) ) ( k_ H_ CI 0 0 ( eR _ ) ) ( PT _ _ ( tT _ ( eM ( aj LQ _ _ ) ) ) ) ( kY Hj Cv 0 0 ( eR _ ) ) ( PE _ _ ( tE _ ( aj LQ _ _ ) ) ) ( k_ Hj Cv 0 0 ( eR _ ) ) ( PT _ _ ( tT _ ( eM ( aj xu _ _ ) ) ) ) ( kY Br EK 0 0 ( eR _ ) ) ( PE _ _ ( tE _ ( aj xu _ _ ) ) ) ( k_ Br EK 0 0 ( eR _ ) ) ( PT _ _ ( tT _ ( lq _ ) ) ) ( Lp 0 ) ( PT _ _ ( tT _ ( eM ( ai _ _ ) ) ) ) ( tJ 0 ) ( PT _ _ ( tT _ ( eM ( FP _ _ _ _ ) ) ) ) ( tJ 0 ) ( PT _ _ ( tT _ ( eM ( bF _ _ _ _ _ ) ) ) ) ( tJ 0 ) ( PT _ _ ( tT _ ( eM ( aa _ ) ) ) ) ( tJ 0 ) ( PS _ _ ( tS _ ( retS _ ) ) ) ( I_ 0 ) ( PS _ _ ( tS _ ( ng _ _ _ ) ) ) ( MG 0 0 0 ) ( PS _ _ ( tS _ ( nR _ _ ) ) ) ( AM rfl 5 0 ) ( PS _ _ ( tS _ ( nN _ _ ) ) ) ( GJ 1 rfl 4 0 ) ( PE _ _ ( tO _ ( kE _ ) ) ) ( Jz 0 ) ( PS _ _ ( tS _ ( rL _ _ ) ) ) ( J_ _ 0 ) ( PS _ _ ( tS _ ( l4 _ ) ) ) ( GZ 0 ) ( PE _ _ ( tE _ ( iP _ ) ) ) ( Kh 0 ) ( PE _ _ ( tE _ ( qj _ ) ) ) ( Kg 0 ) ( PE _ _ ( tE _ ( lT _ ) ) ) ( JF 0 ) ( PE _ _ ( tE _ ( AZ _ _ _ ) ) ) ( K8 0 0 0 ) ( PE _ _ ( tE _ ( eW _ _ _ ) ) ) ( ID 0 1 rfl ) ( PE _ _ ( tE _ ( ai dU _ ) ) ) ( iO AB IY 2 1 PySem.boot_len 0 ) ( PE _ _ ( tE _ ( ai cW _ ) ) ) ( sY rf DP 2 1 pF 0 ) ( PE _ _ ( tE _ ( ai w4 _ ) ) ) ( sY uc Gh 2 1 oH 0 ) ( PE _ _ ( tE _ ( ai xx _ ) ) ) ( iO ( AL rfl ) JX 2 1 Jj 0 ) ( PE _ _ ( tE _ ( ai wj _ ) ) ) ( iO ( Ab rfl ) J2 2 1 JO 0 ) ( PE _ _ ( tE _ ( ai ( ff _ _ _ ) _ ) ) ) ( Bi.make 1 1 3 2 6 0 ) ( PE _ _ ( tE _ ( ai _ _ ) ) ) ( dM.call 1 1 3 2 6 0 ) ( PE _ _ ( tE _ ( bF _ _ _ _ ao ) ) ) ( kf.LZ 1 1 3 6 0 ) ( PE _ _ ( tE _ ( bF _ _ _ _ _ ) ) ) ( kf.call 1 1 3 6 0 0 )".splitOn " " do
  if k=="(" then st:=st.push #[]
  else
   let t:Lean.Term<-if k==")" then do
     let a:=st.back!
     st:=st.pop
     if a.size==1 then pure a[0]! else `($(a[0]!) $(a.extract 1 a.size)*)
    else if k=="_" then `(_) else if k=="0" then `(?_) else if k=="1" then `(by assumption) else if k=="2" then `(by rfl) else if k=="3" then `(by lia) else if k=="4" then `(by walk_at "l") else if k=="5" then `(by first|exact .inl rfl|exact .inr (.inl rfl)) else if k=="6" then `(by first|assumption|exact yF) else pure (Lean.mkIdent k.toName)
   st:=st.modify (st.size-1) (·.push t)
 let a:=st[0]!
 let mut c:Array (Lean.TSyntax `Lean.Parser.Tactic.tacticSeq):=#[]
 for i in [0:a.size/2] do c:=c.push (<-`(tacticSeq|((with_reducible show $(a[2*i]!));refine $(a[2*i+1]!))))
 `(tactic|all_goals repeat' (first $[|$c]*|((with_reducible show starEach _ _=_);exact Mn rfl)|((with_reducible show PE _ _ (tE _ (λ_=>M.ok (.int _))));first|exact LB|exact oC (Mw (by rfl) (by assumption)) λ_=>.int _)|((with_reducible show PE _ _ (tE _ (λ_=>M.ok (.bl _))));exact Mb)|((with_reducible show PE _ _ (tE _ (λ_=>M.ok .c_)));exact Ig)|((with_reducible show PE _ _ (tE _ (λ_=>M.ok (.str _))));exact pv_str)|((with_reducible show tV _);exact λ_ _=>rfl)|((with_reducible show PS _ _ (tS _ (bo _ _)));refine IH ?_ ?_ ?_ ?_ ?_ ?_;assumption;exact rfl;(first|exact .inl rfl|exact .inr rfl);rotate_left;rfl;(first|exact .inl rfl|exact .inr rfl|assumption))))
def top(i:Nat):Stmt:=PySem.Challenge.pw_dialvault_k42_whole_all_still_weights.main.body.getD i (.Pass ⟨0,0,0,0⟩)
structure Txt (K:U5) (mg:Str->Option Value):Prop where
 MB:mg "all"=none
 CM:mg "bool"=none
 de:mg "enumerate"=none
 HN:mg "int"=none
 dz:mg "isinstance"=none
 HV:mg "len"=none
 ug:mg "list"=none
 Hk:mg "max"=none
 Hv:mg "min"=none
 c9:mg "range"=none
 wM:mg "sorted"=none
 Mc:mg "sum"=none
 uz:mg "tuple"=none
 jU:mg "zip"=none
 rQ:∃u,mg "LEAST_PRICE"=some u/\RelV (.int 1) u
 u5:∃u,mg "LEAST_SIZE"=some u/\RelV (.int 2) u
 uX:∃u,mg "MOST_DIALS"=some u/\RelV (.int 6) u
 rS:∃u,mg "MOST_LEVERS"=some u/\RelV (.int 8) u
 uF:∃u,mg "MOST_PRICE"=some u/\RelV (.int 1000) u
 nX:∃u,mg "MOST_SETTINGS"=some u/\RelV (.int 1024) u
 wZ:∃u,mg "MOST_SIZE"=some u/\RelV (.int 360) u
 oz:mf K az
 lM:mf K au
 hZ:cp K az "idle_rows"
 ik:cp K az "made_rows"
 kD:cp K az "vault"
 gZ:cp K au "dial_sizes"
 gq:cp K au "least_round"
 f6:cp K au "lever_prices"
 eZ:cp K au "lever_settings"
 u6:∀C,(C==au)=true->mf K C/\cp K C "dial_sizes"
 vH:∀C,(C==az)=true->mf K C/\cp K C "idle_rows"
 rh:∀C,(C==au)=true->mf K C/\cp K C "least_round"
 qB:∀C,(C==au)=true->mf K C/\cp K C "lever_prices"
 mM:∀C,(C==au)=true->mf K C/\cp K C "lever_settings"
 vW:∀C,(C==az)=true->mf K C/\cp K C "made_rows"
 Fd:∀C,(C==az)=true->mf K C/\cp K C "vault"
local macro_rules|`(tactic| walk_at "t")=>`(tactic| (have z:=‹Txt _ _›;cases z))
variable{P:Program}{w:World}{K:U5}{mg:Str->Option Value}{base:Heap}{f:Addr}{fd:FuncData}{dv:Value}
def wy(F:bg K "is_whole" "is_whole" (top 9) dv f fd)(T:Txt K mg)  : aW P w K mg base (bW P w) 1 f fd ["thing"] (dR 1 fw) :=
 F.gi ["thing"] λnd _ _ _ _ _ _ hr O=>by
 unfold jl;walk_at "t";walk_at "pp";refine(ye ?_ (xP ?_));walk_at "pp";refine(uI (T := "int") (by rfl) T.dz (j6 (v:=.ty "int") (by rfl) T.HN Jm rfl) ↑12 t_ t_ ?_);walk_at "pp";refine(Ki ?_);walk_at "pp";refine(uI (T := "bool") (by rfl) T.dz (j6 (v:=.ty "bool") (by rfl) T.CM GN rfl) ↑12 t_ t_ ?_);walk_at "pp"
def wY:((["number"]:List Str)++([]:List Str)).Nodup:=by decide +kernel
def AN(F:bg K "is_row" "is_row" (top 10) dv f fd)(T:Txt K mg)(QK:dM P w K mg base 1 "is_whole" 1 (aC 1 jl)):aW P w K mg base (bW P w) 2 f fd ["thing","length"] (dR 2 f7) :=
 F.gi ["thing","length"] λnd _ _ _ _ _ _ hr O=>by
 unfold jS;walk_at "t";walk_at "pp";refine(w5 ?_ (pj ?_)).pt;walk_at "pp";refine(G5 (Ts:=["list","tuple"]) (by rfl) T.dz (D5 (fY (j6 (v:=.ty "list") (by rfl) T.ug oH rfl) (fY (j6 (v:=.ty "tuple") (by rfl) T.uz pF rfl) kW))) (fun σ H R h=>⟨by show 2<=sizeLine;decide,h⟩) ↑12 t_ ?_);walk_at "pp";refine(bY (bp (g:=(aJ 0)) (ts:=["number"]) (fs:=[]) (js:=[]) (cl:=[]) rfl rfl rfl rfl rfl rfl .nil .nil (dr ?_) cy (λ_ _ _ _ _=>(aQ (i:=0) wY)) (λ_=>ba) bq (λ_ _ _ _ _=>?_)));walk_at "pp"
def Ah(F:bg K "common" "common" (top 11) dv f fd)(T:Txt K mg)  : aW P w K mg base (bW P w) 1 f fd ["one","other"] (dR 2 f_) :=
 F.gi ["one","other","row","behind","times","rest"] λnd _ _ _ _ _ _ hr O=>by
 unfold jY;walk_at "t";walk_at "pp";refine(qo O ?_ ?_);walk_at "pp"
def oS(F:bg K "multiple_of" "multiple_of" (top 12) dv f fd)(T:Txt K mg)(Rh:dM P w K mg base 1 "common" 2 (aC 6 jY)):aW P w K mg base (bW P w) 2 f fd ["numbers"] (dR 1 fS) :=
 F.gi ["numbers","multiple","number"] λnd _ _ _ _ _ _ hr O=>by
 unfold fU;walk_at "t";walk_at "pp";refine(bX (g:=(aJ 2)) O rfl (dr ?_) cy (aQ (i:=2) nd) ba ?_);walk_at "pp"
def rD(F:bg K "product_of" "product_of" (top 13) dv f fd)(T:Txt K mg)  : aW P w K mg base (bW P w) 1 f fd ["numbers"] (dR 1 gu) :=
 F.gi ["numbers","product","number"] λnd _ _ _ _ _ _ hr O=>by
 unfold gJ;walk_at "t";walk_at "pp";refine(bX (g:=(aJ 2)) O rfl (dr ?_) cy (aQ (i:=2) nd) ba ?_);walk_at "pp"
def rC:((["other"]:List Str)++(["place"]:List Str)).Nodup:=by decide +kernel
def vO(F:bg K "unit_row" "unit_row" (top 14) dv f fd)(T:Txt K mg)  : aW P w K mg base (bW P w) 1 f fd ["length","place"] (dR 2 jd) :=
 F.gi ["length","place"] λnd _ _ _ _ _ _ hr O=>by
 unfold jr;walk_at "t";walk_at "pp";refine(bY (bp (g:=(aJ 0)) (ts:=["other"]) (fs:=["place"]) (js:=[1]) rfl rfl rfl rfl rfl rfl (.cons rfl .nil) ↑4 (cZ (by rfl) T.c9 ?_) dQ (λ_ _ _ _ _=>(aQ (i:=0) rC)) (λ_=>ba) bq (λ_ _ _ _ _=>?_)));walk_at "pp"
def kJ:((["number","other"]:List Str)++([]:List Str)).Nodup:=by decide +kernel
def wD(F:bg K "rest_sum" "rest_sum" (top 15) dv f fd)(T:Txt K mg)  : aW P w K mg base (bW P w) 1 f fd ["numbers","others","by"] (dR 3 jg) :=
 F.gi ["numbers","others","by"] λnd _ _ _ _ _ _ hr O=>by
 unfold jm;walk_at "t";walk_at "pp";refine(bY (bp (g:=(i9 K 2 (bC (aJ 0) (bC (aJ 1) iY)))) (ts:=["number","other"]) (fs:=[]) (js:=[]) (cl:=[]) rfl rfl rfl rfl rfl rfl .nil .nil (kO (by rfl) T.jU ?_) i0 (λ_ _ _ _ _=>(dH (n:=2) rfl (aM (aQ (i:=0) kJ) (aM (aQ (i:=1) kJ) cG)))) (λ_=>dD) cB (λ_ _ _ _ _=>?_)));walk_at "pp"
def ui(F:bg K "is_within" "is_within" (top 24) dv f fd)(T:Txt K mg)(QK:dM P w K mg base 1 "is_whole" 1 (aC 1 jl)):aW P w K mg base (bW P w) 2 f fd ["thing","least","most"] (dR 3 dh) :=
 F.gi ["thing","least","most"] λnd _ _ _ _ _ _ hr O=>by
 unfold eD;walk_at "t";walk_at "pp";refine(ye ?_ (xP ?_));walk_at "pp";refine(w_ vn pW vn pW ?_ ?_ ?_);walk_at "pp"
def qW(F:bg K "need_sizes" "need_sizes" (top 25) dv f fd)(T:Txt K mg)(Qh:dM P w K mg base 2 "is_within" 3 (aC 3 eD)):aW P w K mg base (bW P w) 3 f fd ["sizes"] (dR 1 gy) :=
 F.gi ["sizes","dial","size"] λnd _ _ _ _ _ _ hr O=>by
 unfold gH;walk_at "t";walk_at "pp";exact fI;walk_at "pp";exact fI;walk_at "pp";refine(bX (g:=(i9 K 2 (bC (aJ 1) (bC (aJ 2) iY)))) O rfl (mi (by rfl) T.de ?_) kj (dH (n:=2) rfl (aM (aQ (i:=1) nd) (aM (aQ (i:=2) nd) cG))) dD ?_);walk_at "pp";exact fI;walk_at "pp"
def pJ(F:bg K "need_levers" "need_levers" (top 26) dv f fd)(T:Txt K mg)(Ri:dM P w K mg base 2 "is_row" 2 (aC 2 jS)):aW P w K mg base (bW P w) 3 f fd ["levers","dials"] (dR 2 fW) :=
 F.gi ["levers","dials","place","lever"] λnd _ _ _ _ _ _ hr O=>by
 unfold fM;walk_at "t";walk_at "pp";exact fI;walk_at "pp";refine(bX (g:=(i9 K 2 (bC (aJ 2) (bC (aJ 3) iY)))) O rfl (mi (by rfl) T.de ?_) kj (dH (n:=2) rfl (aM (aQ (i:=2) nd) (aM (aQ (i:=3) nd) cG))) dD ?_);walk_at "pp";exact fI;walk_at "pp"
def qN(F:bg K "prices_for" "prices_for" (top 27) dv f fd)(T:Txt K mg)(Qh:dM P w K mg base 2 "is_within" 3 (aC 3 eD)):aW P w K mg base (bW P w) 3 f fd ["levers","prices"] (dR 2 cU) :=
 F.gi ["levers","prices","place"] λnd _ _ _ _ _ _ hr O=>by
 unfold eT;walk_at "t";walk_at "pp";refine(bX (g:=(aJ 2)) O rfl (cZ (by rfl) T.c9 ?_) dQ (aQ (i:=2) nd) ba ?_);walk_at "pp";refine(iO (zQ rfl) Fz (by rfl) T.Hk Kz ?_);walk_at "pp";refine(w5 ?_ (pj ?_)).pt;walk_at "pp";exact fI;walk_at "pp";exact fI;walk_at "pp"
def pY:((["number","size"]:List Str)++([]:List Str)).Nodup:=by decide +kernel
def Ez(F:bg K "rests" "rests" (top 28) dv f fd)(T:Txt K mg)  : aW P w K mg base (bW P w) 1 f fd ["numbers","sizes"] (dR 2 i4) :=
 F.gi ["numbers","sizes"] λnd _ _ _ _ _ _ hr O=>by
 unfold ki;walk_at "t";walk_at "pp";refine(bY (bp (g:=(i9 K 2 (bC (aJ 0) (bC (aJ 1) iY)))) (ts:=["number","size"]) (fs:=[]) (js:=[]) (cl:=[]) rfl rfl rfl rfl rfl rfl .nil .nil (kO (by rfl) T.jU ?_) i0 (λ_ _ _ _ _=>(dH (n:=2) rfl (aM (aQ (i:=0) pY) (aM (aQ (i:=1) pY) cG)))) (λ_=>dD) cB (λ_ _ _ _ _=>?_)));walk_at "pp"
def o8:((["one","two"]:List Str)++(["times","others"]:List Str)).Nodup:=by decide +kernel
def BV(F:bg K "mixed" "mixed" (top 36) dv f fd)(T:Txt K mg)  : aW P w K mg base (bW P w) 1 f fd ["row","times","other","others"] (dR 4 ko) :=
 F.gi ["row","times","other","others"] λnd _ _ _ _ _ _ hr O=>by
 unfold lN;walk_at "t";walk_at "pp";refine(bY (bp (g:=(i9 K 2 (bC (aJ 0) (bC (aJ 1) iY)))) (ts:=["one","two"]) (fs:=["times","others"]) (js:=[1,3]) rfl rfl rfl rfl rfl rfl (.cons rfl (.cons rfl .nil)) (.cons rfl rfl ↑9 rfl rfl ↑4) (kO (by rfl) T.jU ?_) i0 (λ_ _ _ _ _=>(dH (n:=2) rfl (aM (aQ (i:=0) o8) (aM (aQ (i:=1) o8) cG)))) (λ_=>dD) cB (λ_ _ _ _ _=>?_)));walk_at "pp"
def rO(F:bg K "mixed_made" "mixed_made" (top 37) dv f fd)(T:Txt K mg)(Rz:dM P w K mg base 1 "mixed" 4 (aC 4 lN))(QN:dM P w K mg base 1 "rests" 2 (aC 2 ki)):aW P w K mg base (bW P w) 2 f fd ["sizes","made","times","other","others"] (dR 5 dE) :=
 F.gi ["sizes","made","times","other","others","doing"] λnd _ _ _ _ _ _ hr O=>by
 unfold eY;walk_at "t";walk_at "pp"
def uD(F:bg K "step_size" "step_size" (top 40) dv f fd)(T:Txt K mg)  : aW P w K mg base (bW P w) 1 f fd ["sizes","made_rows","dial"] (dR 3 du) :=
 F.gi ["sizes","made_rows","dial","notch"] λnd _ _ _ _ _ _ hr O=>by
 unfold eE;walk_at "t";walk_at "pp"
def wW(F:bg K "taken_in" "taken_in" (top 41) dv f fd)(T:Txt K mg)(Qi:dM P w K mg base 1 "step_size" 3 (aC 4 eE))(Rh:dM P w K mg base 1 "common" 2 (aC 6 jY))(Qw:dM P w K mg base 2 "mixed_made" 5 (aC 6 eY)):aW P w K mg base (bW P w) 3 f fd ["sizes","made_rows","left"] (dR 3 jw) :=
 F.gi ["sizes","made_rows","left","wider","dial","made","step","notch","found"] λnd _ _ _ _ _ _ hr O=>by
 unfold jv;walk_at "t";walk_at "pp";refine(bX (g:=(i9 K 2 (bC (aJ 4) (bC (aJ 5) iY)))) O rfl (mi (by rfl) T.de ?_) kj (dH (n:=2) rfl (aM (aQ (i:=4) nd) (aM (aQ (i:=5) nd) cG))) dD ?_);walk_at "pp"
def xT(F:bg K "lowered" "lowered" (top 42) dv f fd)(T:Txt K mg)(Qi:dM P w K mg base 1 "step_size" 3 (aC 4 eE))(Qw:dM P w K mg base 2 "mixed_made" 5 (aC 6 eY)):aW P w K mg base (bW P w) 3 f fd ["sizes","made_rows","made","first"] (dR 4 fm) :=
 F.gi ["sizes","made_rows","made","first","dial","times"] λnd _ _ _ _ _ _ hr O=>by
 unfold iN;walk_at "t";walk_at "pp";refine(bX (g:=(aJ 4)) O rfl (zA (by rfl) T.c9 ?_) Dr (aQ (i:=4) nd) ba ?_);walk_at "pp"
def wI(F:bg K "in_spans" "in_spans" (top 43) dv f fd)(T:Txt K mg)(Rz:dM P w K mg base 1 "mixed" 4 (aC 4 lN)):aW P w K mg base (bW P w) 2 f fd ["pulls","idle_rows"] (dR 2 ju) :=
 F.gi ["pulls","idle_rows","lever","row"] λnd _ _ _ _ _ _ hr O=>by
 unfold jj;walk_at "t";walk_at "pp";refine(bX (g:=(aJ 2)) O rfl (r0 (by rfl) T.c9 ?_) v8 (aQ (i:=2) nd) ba ?_);walk_at "pp"
def u9(F:bg K "_law_cell" "_law_cell" (top 53) dv f fd)(T:Txt K mg)  : aW P w K mg base (bW P w) 1 f fd ["_law_script","_law_k"] (dR 2 eI) :=
 F.gi ["_law_script","_law_k"] λnd _ _ _ _ _ _ hr O=>by
 unfold h_;walk_at "t";walk_at "pp"
def wQ(F:bg K "_law_mix" "_law_mix" (top 54) dv f fd)(T:Txt K mg)  : aW P w K mg base (bW P w) 1 f fd ["_law_cell_here","_law_k"] (dR 2 bT) :=
 F.gi ["_law_cell_here","_law_k","_law_number"] λnd _ _ _ _ _ _ hr O=>by
 unfold fq;walk_at "t";walk_at "pp"
def qf(F:bg K "_law_digits" "_law_digits" (top 55) dv f fd)(T:Txt K mg)  : aW P w K mg base (bW P w) 1 f fd ["_law_cell_here","_law_sizes_here"] (dR 2 c8) :=
 F.gi ["_law_cell_here","_law_sizes_here","_law_row","_law_size"] λnd _ _ _ _ _ _ hr O=>by
 unfold dO;walk_at "t";walk_at "pp";refine(bX (g:=(aJ 3)) O rfl (dr ?_) cy (aQ (i:=3) nd) ba ?_);walk_at "pp"
def nM:((["_law_number"]:List Str)++([]:List Str)).Nodup:=by decide +kernel
def oh:((["_law_k"]:List Str)++(["_law_cell_here"]:List Str)).Nodup:=by decide +kernel
def qZ(F:bg K "_law_sizes" "_law_sizes" (top 56) dv f fd)(T:Txt K mg)(Qq:dM P w K mg base 1 "_law_digits" 2 (aC 4 dO))(Qn:dM P w K mg base 1 "_law_mix" 2 (aC 3 fq)):aW P w K mg base (bW P w) 2 f fd ["_law_cell_here"] (dR 1 gz) :=
 F.gi ["_law_cell_here"] λnd _ _ _ _ _ _ hr O=>by
 unfold gK;walk_at "t";walk_at "pp";refine(bY (bp (g:=(aJ 0)) (ts:=["_law_number"]) (fs:=[]) (js:=[]) (cl:=[]) rfl rfl rfl rfl rfl rfl .nil .nil (dr ?_) cy (λ_ _ _ _ _=>(aQ (i:=0) nM)) (λ_=>ba) bq (λ_ _ _ _ _=>?_)));walk_at "pp";refine(bY (bp (g:=(aJ 0)) (ts:=["_law_k"]) (fs:=["_law_cell_here"]) (js:=[0]) rfl rfl rfl rfl rfl rfl (.cons rfl .nil) ↑4 (cZ (by rfl) T.c9 ?_) dQ (λ_ _ _ _ _=>(aQ (i:=0) oh)) (λ_=>ba) bq (λ_ _ _ _ _=>?_)));walk_at "pp"
def jC:((["_law_k","_law_size"]:List Str)++(["_law_cell_here"]:List Str)).Nodup:=by decide +kernel
def rJ(F:bg K "_law_lever" "_law_lever" (top 57) dv f fd)(T:Txt K mg)(Qq:dM P w K mg base 1 "_law_digits" 2 (aC 4 dO))(Qn:dM P w K mg base 1 "_law_mix" 2 (aC 3 fq)):aW P w K mg base (bW P w) 2 f fd ["_law_cell_here","_law_sizes_here"] (dR 2 dF) :=
 F.gi ["_law_cell_here","_law_sizes_here"] λnd _ _ _ _ _ _ hr O=>by
 unfold gE;walk_at "t";walk_at "pp";refine(bY (bp (g:=(i9 K 2 (bC (aJ 0) (bC (aJ 1) iY)))) (ts:=["_law_k","_law_size"]) (fs:=["_law_cell_here"]) (js:=[0]) rfl rfl rfl rfl rfl rfl (.cons rfl .nil) ↑4 (mi (by rfl) T.de ?_) kj (λ_ _ _ _ _=>(dH (n:=2) rfl (aM (aQ (i:=0) jC) (aM (aQ (i:=1) jC) cG)))) (λ_=>dD) cB (λ_ _ _ _ _=>?_)));walk_at "pp"
def fx:((["_law_here","_law_more","_law_size"]:List Str)++([]:List Str)).Nodup:=by decide +kernel
def qJ(F:bg K "_law_doings" "_law_doings" (top 58) dv f fd)(T:Txt K mg)  : aW P w K mg base (bW P w) 1 f fd ["_law_sizes_here","_law_levers"] (dR 2 dS) :=
 F.gi ["_law_sizes_here","_law_levers","_law_found","_law_line","_law_at","_law_lever_here","_law_one"] λnd _ _ _ _ _ _ hr O=>by
 unfold fJ;walk_at "t";walk_at "pp";refine(FJ (i:=2) hr.LG nd rfl ↑9 ?_ ?_);walk_at "pp";exact(zL (i:=2) rfl (by rfl) T.ug rfl ↑3);walk_at "pp";refine(qo O ?_ ?_);walk_at "pp";refine(va 3 ?_);walk_at "pp";refine(bX (g:=(aJ 5)) O rfl (dr ?_) cy (aQ (i:=5) nd) ba ?_);walk_at "pp";refine(uU 3 ?_);walk_at "pp";refine(bY (bp (g:=(i9 K 3 (bC (aJ 0) (bC (aJ 1) (bC (aJ 2) iY))))) (ts:=["_law_here","_law_more","_law_size"]) (fs:=[]) (js:=[]) (cl:=[]) rfl rfl rfl rfl rfl rfl .nil .nil (t7 (by rfl) T.jU ?_) qE (λ_ _ _ _ _=>(dH (n:=3) rfl (aM (aQ (i:=0) fx) (aM (aQ (i:=1) fx) (aM (aQ (i:=2) fx) cG))))) (λ_=>uq) qk (λ_ _ _ _ _=>?_)));walk_at "pp";refine(Jq (i:=2) (Gm hr.u1) rfl ↑3 ?_ (by rfl));walk_at "pp";refine(Gw (i:=2) hr.u1 rfl ↑3 ?_ ?_);walk_at "pp";refine(MU 2 ?_);walk_at "pp"
def nY:((["_law_one"]:List Str)++(["_law_dial"]:List Str)).Nodup:=by decide +kernel
def rB(F:bg K "_law_steps" "_law_steps" (top 59) dv f fd)(T:Txt K mg)  : aW P w K mg base (bW P w) 1 f fd ["_law_sizes_here","_law_doings_here"] (dR 2 e_) :=
 F.gi ["_law_sizes_here","_law_doings_here","_law_rows","_law_dial","_law_some"] λnd _ _ _ _ _ _ hr O=>by
 unfold gM;walk_at "t";walk_at "pp";refine(bX (g:=(aJ 3)) O rfl (cZ (by rfl) T.c9 ?_) dQ (aQ (i:=3) nd) ba ?_);walk_at "pp";refine(wN (i:=4) (g:=(aJ 0)) (ts:=["_law_one"]) (fs:=["_law_dial"]) (js:=[3]) rfl rfl rfl rfl rfl rfl (.cons rfl .nil) ↑4 (Kk ?_) Hb (λ_ _ _ _ _=>(aQ (i:=0) nY)) (λ_=>ba) bq (λ_ _ _ _ _=>?_) (λ_ _ _ _ _=>?_) nd rfl ↑9);walk_at "pp";refine(KJ ?_ (G0 ?_)).pt;walk_at "pp";refine(sv ?_ Fq (uC ?_));walk_at "pp";refine(iO (AU rfl hr.units) Gi (by rfl) T.Hv Kq ?_);walk_at "pp"
def rG:((["_law_notch"]:List Str)++(["_law_line"]:List Str)).Nodup:=by decide +kernel
def vB(F:bg K "_law_all" "_law_all" (top 60) dv f fd)(T:Txt K mg)  : aW P w K mg base (bW P w) 1 f fd ["_law_sizes_here"] (dR 1 jf) :=
 F.gi ["_law_sizes_here","_law_lines","_law_size","_law_longer","_law_line"] λnd _ _ _ _ _ _ hr O=>by
 unfold i6;walk_at "t";walk_at "pp";refine(bX (g:=(aJ 2)) O rfl (dr ?_) cy (aQ (i:=2) nd) ba ?_);walk_at "pp";refine(bX (g:=(aJ 4)) O rfl (dr ?_) cy (aQ (i:=4) nd) ba ?_);walk_at "pp";refine(sx (i:=3) rfl ↑3 ?_);walk_at "pp";refine(bY (bp (g:=(aJ 0)) (ts:=["_law_notch"]) (fs:=["_law_line"]) (js:=[4]) rfl rfl rfl rfl rfl rfl (.cons rfl .nil) ↑4 (cZ (by rfl) T.c9 ?_) dQ (λ_ _ _ _ _=>(aQ (i:=0) rG)) (λ_=>ba) bq (λ_ _ _ _ _=>?_)));walk_at "pp"
def qU(F:bg K "_law_round" "_law_round" (top 61) dv f fd)(T:Txt K mg)  : aW P w K mg base (bW P w) 1 f fd ["_law_sizes_here"] (dR 1 gC) :=
 F.gi ["_law_sizes_here","_law_found","_law_size","_law_one","_law_other"] λnd _ _ _ _ _ _ hr O=>by
 unfold gG;walk_at "t";walk_at "pp";refine(bX (g:=(aJ 2)) O rfl (dr ?_) cy (aQ (i:=2) nd) ba ?_);walk_at "pp";refine(qo O ?_ ?_);walk_at "pp";refine(K1 (i:=3) (j:=4) rfl nd rfl rfl ↑12 rfl rfl ?_ ?_);walk_at "pp";exact rfl;walk_at "pp"
def gj:((["_law_weight","_law_notch","_law_size"]:List Str)++(["_law_around"]:List Str)).Nodup:=by decide +kernel
def qY(F:bg K "_law_weigh" "_law_weigh" (top 62) dv f fd)(T:Txt K mg)(Q_:dM P w K mg base 1 "_law_round" 1 (aC 5 gG)):aW P w K mg base (bW P w) 2 f fd ["_law_weights","_law_setting","_law_sizes_here"] (dR 3 gQ) :=
 F.gi ["_law_weights","_law_setting","_law_sizes_here","_law_around"] λnd _ _ _ _ _ _ hr O=>by
 unfold gN;walk_at "t";walk_at "pp";refine(bY (bp (g:=(i9 K 3 (bC (aJ 0) (bC (aJ 1) (bC (aJ 2) iY))))) (ts:=["_law_weight","_law_notch","_law_size"]) (fs:=["_law_around"]) (js:=[3]) rfl rfl rfl rfl rfl rfl (.cons rfl .nil) ↑4 (t7 (by rfl) T.jU ?_) qE (λ_ _ _ _ _=>(dH (n:=3) rfl (aM (aQ (i:=0) gj) (aM (aQ (i:=1) gj) (aM (aQ (i:=2) gj) cG))))) (λ_=>uq) qk (λ_ _ _ _ _=>?_)));walk_at "pp"
def qX(F:bg K "_law_still" "_law_still" (top 63) dv f fd)(T:Txt K mg)(Rf:dM P w K mg base 2 "_law_weigh" 3 (aC 4 gN)):aW P w K mg base (bW P w) 3 f fd ["_law_weights","_law_levers","_law_sizes_here"] (dR 3 cT) :=
 F.gi ["_law_weights","_law_levers","_law_sizes_here","_law_lever_here"] λnd _ _ _ _ _ _ hr O=>by
 unfold gA;walk_at "t";walk_at "pp";refine(bX (g:=(aJ 3)) O rfl (dr ?_) cy (aQ (i:=3) nd) ba ?_);walk_at "pp"
def kK:cH ["self","sizes","levers","prices"] ["self","sizes","levers","prices"] (aZ (inClass (top 23) 0)):=.of
def nS:((["lever"]:List Str)++(["sizes"]:List Str)).Nodup:=by decide +kernel
def kI(F:bg K "__init__" "Vault.__init__" (inClass (top 23) 0) dv f fd)(T:Txt K mg)(QL:dM P w K mg base 3 "need_sizes" 1 (aC 3 gH))(QE:dM P w K mg base 3 "need_levers" 2 (aC 4 fM))(QN:dM P w K mg base 1 "rests" 2 (aC 2 ki))(QM:dM P w K mg base 3 "prices_for" 2 (aC 3 eT))(QD:dM P w K mg base 2 "multiple_of" 1 (aC 3 fU)):aW P w K mg base (bW P w) 4 f fd ["self","sizes","levers","prices"] (HB 4 au cS) :=
 F.Pg kK ↑12 λ_ _ _ _ _ _ hr O=>by
 unfold je;have:=kK.nd;have T2:=T;cases T2;walk_at "pp";refine(kQ (i:=0) rfl ↑3 T.lM T.gZ ?_);walk_at "pp";refine(kQ (i:=0) rfl ↑3 T.lM T.eZ ?_);walk_at "pp";refine(bY (bp (g:=(aJ 0)) (ts:=["lever"]) (fs:=["sizes"]) (js:=[1]) rfl rfl rfl rfl rfl rfl (.cons rfl .nil) ↑4 (dr ?_) cy (λ_ _ _ _ _=>(aQ (i:=0) nS)) (λ_=>ba) bq (λ_ _ _ _ _=>?_)));walk_at "pp";refine(kQ (i:=0) rfl ↑3 T.lM T.f6 ?_);walk_at "pp";refine(kQ (i:=0) rfl ↑3 T.lM T.gq ?_);walk_at "pp"
def qp(F:bg K "sizes" "Vault.sizes" (inClass (top 23) 1) dv f fd)(T:Txt K mg)  : aW P w K mg base (bW P w) 1 f fd ["self"] (dR 1 aT) :=
 F.gi ["self"] λnd _ _ _ _ _ _ hr O=>by
 unfold aX;walk_at "t";walk_at "pp"
def nU(F:bg K "levers" "Vault.levers" (inClass (top 23) 2) dv f fd)(T:Txt K mg)  : aW P w K mg base (bW P w) 1 f fd ["self"] (dR 1 bH) :=
 F.gi ["self"] λnd _ _ _ _ _ _ hr O=>by
 unfold cm;walk_at "t";walk_at "pp"
def nZ(F:bg K "prices" "Vault.prices" (inClass (top 23) 3) dv f fd)(T:Txt K mg)  : aW P w K mg base (bW P w) 1 f fd ["self"] (dR 1 dj) :=
 F.gi ["self"] λnd _ _ _ _ _ _ hr O=>by
 unfold eV;walk_at "t";walk_at "pp"
def n8(F:bg K "around" "Vault.around" (inClass (top 23) 4) dv f fd)(T:Txt K mg)  : aW P w K mg base (bW P w) 1 f fd ["self"] (dR 1 cK) :=
 F.gi ["self"] λnd _ _ _ _ _ _ hr O=>by
 unfold dc;walk_at "t";walk_at "pp"
def mY:((["dial"]:List Str)++(["self","sizes"]:List Str)).Nodup:=by decide +kernel
def qx(F:bg K "steps" "Rungs.steps" (inClass (top 44) 1) dv f fd)(T:Txt K mg)(P4:kf P w K mg base au 1 "sizes" 1 (aC 1 aX))(Qi:dM P w K mg base 1 "step_size" 3 (aC 4 eE)):aW P w K mg base (bW P w) 2 f fd ["self"] (dR 1 dX) :=
 F.gi ["self","sizes"] λnd _ _ _ _ _ _ hr O=>by
 unfold dP;walk_at "t";walk_at "pp";refine(bY (bp (g:=(aJ 0)) (ts:=["dial"]) (fs:=["self","sizes"]) (js:=[0,1]) rfl rfl rfl rfl rfl rfl (.cons rfl (.cons rfl .nil)) (.cons rfl rfl ↑9 rfl rfl ↑4) (cZ (by rfl) T.c9 ?_) dQ (λ_ _ _ _ _=>(aQ (i:=0) mY)) (λ_=>ba) bq (λ_ _ _ _ _=>?_)));walk_at "pp"
def nL:((["made"]:List Str)++([]:List Str)).Nodup:=by decide +kernel
def qO(F:bg K "rows" "Rungs.rows" (inClass (top 44) 2) dv f fd)(T:Txt K mg)  : aW P w K mg base (bW P w) 1 f fd ["self"] (dR 1 e7) :=
 F.gi ["self"] λnd _ _ _ _ _ _ hr O=>by
 unfold eX;walk_at "t";walk_at "pp";refine(bY (bp (g:=(aJ 0)) (ts:=["made"]) (fs:=[]) (js:=[]) (cl:=[]) rfl rfl rfl rfl rfl rfl .nil .nil (dr ?_) cy (λ_ _ _ _ _=>(aQ (i:=0) nL)) (λ_=>ba) bq (λ_ _ _ _ _=>?_)));walk_at "pp"
def iH:((["lever","row"]:List Str)++([]:List Str)).Nodup:=by decide +kernel
def oZ(F:bg K "spans" "Rungs.spans" (inClass (top 44) 3) dv f fd)(T:Txt K mg)  : aW P w K mg base (bW P w) 1 f fd ["self"] (dR 1 fN) :=
 F.gi ["self"] λnd _ _ _ _ _ _ hr O=>by
 unfold fL;walk_at "t";walk_at "pp";refine(bY (bp (g:=(i9 K 2 (bC (aJ 0) (bC (aJ 1) iY)))) (ts:=["lever","row"]) (fs:=[]) (js:=[]) (cl:=[]) rfl rfl rfl rfl rfl rfl .nil .nil (mi (by rfl) T.de ?_) kj (λ_ _ _ _ _=>(dH (n:=2) rfl (aM (aQ (i:=0) iH) (aM (aQ (i:=1) iH) cG)))) (λ_=>dD) cB (λ_ _ _ _ _=>?_)));walk_at "pp"
def Aa(F:bg K "nought" "nought" (top 29) dv f fd)(T:Txt K mg)(P4:kf P w K mg base au 1 "sizes" 1 (aC 1 aX)):aW P w K mg base (bW P w) 2 f fd ["vault"] (dR 1 gY) :=
 F.gi ["vault"] λnd _ _ _ _ _ _ hr O=>by
 unfold iM;walk_at "t";walk_at "pp"
def jA:((["notch","size"]:List Str)++([]:List Str)).Nodup:=by decide +kernel
def qT(F:bg K "is_setting" "is_setting" (top 30) dv f fd)(T:Txt K mg)(P4:kf P w K mg base au 1 "sizes" 1 (aC 1 aX))(Ri:dM P w K mg base 2 "is_row" 2 (aC 2 jS)):aW P w K mg base (bW P w) 3 f fd ["vault","thing"] (dR 2 gL) :=
 F.gi ["vault","thing","sizes"] λnd _ _ _ _ _ _ hr O=>by
 unfold gF;walk_at "t";walk_at "pp";refine(w5 ?_ (pj ?_)).pt;walk_at "pp";refine(uI (T := "tuple") (by rfl) T.dz (j6 (v:=.ty "tuple") (by rfl) T.uz pF rfl) ↑12 t_ t_ ?_);walk_at "pp";refine(bY (bp (g:=(i9 K 2 (bC (aJ 0) (bC (aJ 1) iY)))) (ts:=["notch","size"]) (fs:=[]) (js:=[]) (cl:=[]) rfl rfl rfl rfl rfl rfl .nil .nil (kO (by rfl) T.jU ?_) i0 (λ_ _ _ _ _=>(dH (n:=2) rfl (aM (aQ (i:=0) jA) (aM (aQ (i:=1) jA) cG)))) (λ_=>dD) cB (λ_ _ _ _ _=>?_)));walk_at "pp";refine(w_ vn pW DN yh ?_ ?_ ?_);walk_at "pp"
def oa(F:bg K "need_setting" "need_setting" (top 31) dv f fd)(T:Txt K mg)(Rj:dM P w K mg base 3 "is_setting" 2 (aC 3 gF)):aW P w K mg base (bW P w) 4 f fd ["vault","thing"] (dR 2 ck) :=
 F.gi ["vault","thing"] λnd _ _ _ _ _ _ hr O=>by
 unfold cP;walk_at "t";walk_at "pp";exact fI;walk_at "pp"
def qe:((["notch","turn"]:List Str)++(["times"]:List Str)).Nodup:=by decide +kernel
def Dl(F:bg K "added" "added" (top 32) dv f fd)(T:Txt K mg)(P4:kf P w K mg base au 1 "sizes" 1 (aC 1 aX))(QN:dM P w K mg base 1 "rests" 2 (aC 2 ki)):aW P w K mg base (bW P w) 2 f fd ["vault","setting","other","times"] (dR 4 lB) :=
 F.gi ["vault","setting","other","times","numbers"] λnd _ _ _ _ _ _ hr O=>by
 unfold oE;walk_at "t";walk_at "pp";refine(uR (i:=4) (g:=(i9 K 2 (bC (aJ 0) (bC (aJ 1) iY)))) (ts:=["notch","turn"]) (fs:=["times"]) (js:=[3]) rfl rfl rfl rfl rfl rfl (.cons rfl .nil) ↑4 (kO (by rfl) T.jU ?_) i0 (λ_ _ _ _ _=>(dH (n:=2) rfl (aM (aQ (i:=0) qe) (aM (aQ (i:=1) qe) cG)))) (λ_=>dD) cB (λ_ _ _ _ _=>?_) nd rfl ↑9);walk_at "pp"
def qv:((["weight","size"]:List Str)++(["around"]:List Str)).Nodup:=by decide +kernel
def DX(F:bg K "weigh" "weigh" (top 34) dv f fd)(T:Txt K mg)(Qa:dM P w K mg base 4 "need_setting" 2 (aC 2 cP))(Ql:kf P w K mg base au 1 "around" 1 (aC 1 dc))(P4:kf P w K mg base au 1 "sizes" 1 (aC 1 aX))(RE:dM P w K mg base 1 "rest_sum" 3 (aC 3 jm)):aW P w K mg base (bW P w) 5 f fd ["vault","weights","setting"] (dR 3 om) :=
 F.gi ["vault","weights","setting","around","worths"] λnd _ _ _ _ _ _ hr O=>by
 unfold oN;walk_at "t";walk_at "pp";refine(uR (i:=4) (g:=(i9 K 2 (bC (aJ 0) (bC (aJ 1) iY)))) (ts:=["weight","size"]) (fs:=["around"]) (js:=[3]) rfl rfl rfl rfl rfl rfl (.cons rfl .nil) ↑4 (kO (by rfl) T.jU ?_) i0 (λ_ _ _ _ _=>(dH (n:=2) rfl (aM (aQ (i:=0) qv) (aM (aQ (i:=1) qv) cG)))) (λ_=>dD) cB (λ_ _ _ _ _=>?_) nd rfl ↑9);walk_at "pp"
def wL(F:bg K "unpulled" "unpulled" (top 38) dv f fd)(T:Txt K mg)(P_:kf P w K mg base au 1 "levers" 1 (aC 1 cm)):aW P w K mg base (bW P w) 2 f fd ["vault","setting"] (dR 2 fy) :=
 F.gi ["vault","setting"] λnd _ _ _ _ _ _ hr O=>by
 unfold g9;walk_at "t";walk_at "pp"
def qg(F:bg K "pulled_once" "pulled_once" (top 39) dv f fd)(T:Txt K mg)(P_:kf P w K mg base au 1 "levers" 1 (aC 1 cm))(RG:dM P w K mg base 1 "unit_row" 2 (aC 2 jr)):aW P w K mg base (bW P w) 2 f fd ["vault","lever"] (dR 2 fK) :=
 F.gi ["vault","lever","levers"] λnd _ _ _ _ _ _ hr O=>by
 unfold fP;walk_at "t";walk_at "pp"
def rP(F:bg K "_law_clear" "_law_clear" (top 64) dv f fd)(T:Txt K mg)(P4:kf P w K mg base au 1 "sizes" 1 (aC 1 aX))(QV:kf P w K mg base au 1 "prices" 1 (aC 1 eV))(P_:kf P w K mg base au 1 "levers" 1 (aC 1 cm)):aW P w K mg base (bW P w) 2 f fd ["_law_vault","_law_sizes_here","_law_due"] (dR 3 e6) :=
 F.gi ["_law_vault","_law_sizes_here","_law_due"] λnd _ _ _ _ _ _ hr O=>by
 unfold gI;walk_at "t";walk_at "pp";refine(w5 ?_ (pj ?_)).pt;walk_at "pp"
def iF:cH ["self","vault","sizes","made_rows","idle_rows","lever","taken"] ["self","vault"] (aZ (inClass (top 44) 0)):=.of
def n9:((["size"]:List Str)++(["vault"]:List Str)).Nodup:=by decide +kernel
def jD:((["dial","made"]:List Str)++(["sizes","made_rows"]:List Str)).Nodup:=by decide +kernel
def qQ(F:bg K "__init__" "Rungs.__init__" (inClass (top 44) 0) dv f fd)(T:Txt K mg)(P4:kf P w K mg base au 1 "sizes" 1 (aC 1 aX))(QH:dM P w K mg base 2 "nought" 1 (aC 1 iM))(QO:dM P w K mg base 2 "unpulled" 2 (aC 2 g9))(P_:kf P w K mg base au 1 "levers" 1 (aC 1 cm))(Q2:dM P w K mg base 2 "pulled_once" 2 (aC 3 fP))(RF:dM P w K mg base 3 "taken_in" 3 (aC 9 jv))(RD:dM P w K mg base 2 "in_spans" 2 (aC 4 jj))(QX:dM P w K mg base 3 "lowered" 4 (aC 6 iN)):aW P w K mg base (bW P w) 4 f fd ["self","vault"] (HB 2 az eg) :=
 F.Pg iF ↑12 λ_ _ _ _ _ _ hr O=>by
 unfold jc;have:=iF.nd;have T2:=T;cases T2;walk_at "pp";refine(bY (bp (g:=(aJ 0)) (ts:=["size"]) (fs:=["vault"]) (js:=[1]) rfl rfl rfl rfl rfl rfl (.cons rfl .nil) ↑4 (dr ?_) cy (λ_ _ _ _ _=>(aQ (i:=0) n9)) (λ_=>ba) bq (λ_ _ _ _ _=>?_)));walk_at "pp";refine(bX (g:=(aJ 5)) O rfl (cZ (by rfl) T.c9 ?_) dQ (aQ (i:=5) iF.nd) ba ?_);walk_at "pp";refine(uU 4 ?_);walk_at "pp";refine(kQ (i:=0) rfl ↑3 T.oz T.kD ?_);walk_at "pp";refine(kQ (i:=0) rfl ↑3 T.oz T.ik ?_);walk_at "pp";refine(bY (bp (g:=(i9 K 2 (bC (aJ 0) (bC (aJ 1) iY)))) (ts:=["dial","made"]) (fs:=["sizes","made_rows"]) (js:=[2,3]) rfl rfl rfl rfl rfl rfl (.cons rfl (.cons rfl .nil)) (.cons rfl rfl ↑9 rfl rfl ↑4) (mi (by rfl) T.de ?_) kj (λ_ _ _ _ _=>(dH (n:=2) rfl (aM (aQ (i:=0) jD) (aM (aQ (i:=1) jD) cG)))) (λ_=>dD) cB (λ_ _ _ _ _=>?_)));walk_at "pp";refine(kQ (i:=0) rfl ↑3 T.oz T.hZ ?_);walk_at "pp"
def jG(F:bg K "brought_down" "Rungs.brought_down" (inClass (top 44) 5) dv f fd)(T:Txt K mg)(Qa:dM P w K mg base 4 "need_setting" 2 (aC 2 cP))(QO:dM P w K mg base 2 "unpulled" 2 (aC 2 g9))(P4:kf P w K mg base au 1 "sizes" 1 (aC 1 aX))(QX:dM P w K mg base 3 "lowered" 4 (aC 6 iN)):aW P w K mg base (bW P w) 5 f fd ["self","setting"] (dR 2 cz) :=
 F.gi ["self","setting"] λnd _ _ _ _ _ _ hr O=>by
 unfold cx;walk_at "t";walk_at "pp"
def o_(F:bg K "least" "Rungs.least" (inClass (top 44) 6) dv f fd)(T:Txt K mg)(Qr:kf P w K mg base az 5 "brought_down" 2 (aC 2 cx)):aW P w K mg base (bW P w) 6 f fd ["self","setting"] (dR 2 fH) :=
 F.gi ["self","setting"] λnd _ _ _ _ _ _ hr O=>by
 unfold fV;walk_at "t";walk_at "pp"
def fg:((["size","step"]:List Str)++([]:List Str)).Nodup:=by decide +kernel
def kB(F:bg K "weights_at" "Rungs.weights_at" (inClass (top 44) 8) dv f fd)(T:Txt K mg)(P4:kf P w K mg base au 1 "sizes" 1 (aC 1 aX))(Qh:dM P w K mg base 2 "is_within" 3 (aC 3 eD))(Qo:kf P w K mg base az 2 "steps" 1 (aC 2 dP))(Sk:dM P w K mg base 5 "weigh" 3 (aC 5 oN))(Ql:kf P w K mg base au 1 "around" 1 (aC 1 dc)):aW P w K mg base (bW P w) 6 f fd ["self","dial"] (dR 2 bx) :=
 F.gi ["self","dial","sizes","fills","weights","ahead","weighed","share"] λnd _ _ _ _ _ _ hr O=>by
 unfold cV;walk_at "t";walk_at "pp";exact fI;walk_at "pp";refine(uR (i:=3) (g:=(i9 K 2 (bC (aJ 0) (bC (aJ 1) iY)))) (ts:=["size","step"]) (fs:=[]) (js:=[]) (cl:=[]) rfl rfl rfl rfl rfl rfl .nil .nil (kO (by rfl) T.jU ?_) i0 (λ_ _ _ _ _=>(dH (n:=2) rfl (aM (aQ (i:=0) fg) (aM (aQ (i:=1) fg) cG)))) (λ_=>dD) cB (λ_ _ _ _ _=>?_) nd rfl ↑9);walk_at "pp";refine(Ka ?_ ?_);walk_at "pp";refine(Hr (i:=4) rfl ↑3 ?_ ?_);walk_at "pp";refine(bX (g:=(aJ 5)) O rfl (r0 (by rfl) T.c9 ?_) v8 (aQ (i:=5) nd) ba ?_);walk_at "pp";refine(uU 4 ?_);walk_at "pp";refine(Hr (i:=4) rfl ↑3 ?_ ?_);walk_at "pp"
def cq:cH ["vault","setting","rungs","settings","size","step","row","wider","times"] ["vault","setting"] (aZ (top 47)):=.of
def l9:((["reached"]:List Str)++(["vault","row","times"]:List Str)).Nodup:=by decide +kernel
def nP(F:bg K "all_together" "all_together" (top 47) dv f fd)(T:Txt K mg)(Qt:kf P w K mg base az 1 "rows" 1 (aC 1 eX))(Qo:kf P w K mg base az 2 "steps" 1 (aC 2 dP))(P4:kf P w K mg base au 1 "sizes" 1 (aC 1 aX))(Sj:dM P w K mg base 2 "added" 4 (aC 5 oE))(QY:kf P w K mg base az 6 "least" 2 (aC 2 fV))(QZ:kf P w K mg base az 1 "spans" 1 (aC 1 fL))(Rk:dM P w K mg base 1 "product_of" 1 (aC 3 gJ))(Qd:Bi P w K mg base az 4 "Rungs" 2 [] eg)(Qa:dM P w K mg base 4 "need_setting" 2 (aC 2 cP)):aW P w K mg base (bW P w) 7 f fd ["vault","setting"] (ML 2 (λps=>cO (hU 9 ps))) :=
 F.okN cq λ_ _ _ _ _ _ hr O=>by
 unfold cO;have:=cq.nd;have T2:=T;cases T2;walk_at "pp";refine(iQ ?_   (iQ ?_   (iQ ?_   (iQ ?_   (iQ ?_   (wH ?_))))));walk_at "pp";exact fI;walk_at "pp";refine(bX (g:=(i9 K 3 (bC (aJ 4) (bC (aJ 5) (bC (aJ 6) iY))))) O rfl (t7 (by rfl) T.jU ?_) qE (dH (n:=3) rfl (aM (aQ (i:=4) cq.nd) (aM (aQ (i:=5) cq.nd) (aM (aQ (i:=6) cq.nd) cG)))) uq ?_);walk_at "pp";refine(bX (g:=(aJ 8)) O rfl (cZ (by rfl) T.c9 ?_) dQ (aQ (i:=8) cq.nd) ba ?_);walk_at "pp";refine(sx (i:=7) rfl ↑3 ?_);walk_at "pp";refine(bY (bp (g:=(aJ 0)) (ts:=["reached"]) (fs:=["vault","row","times"]) (js:=[0,6,8]) rfl rfl rfl rfl rfl rfl (.cons rfl (.cons rfl (.cons rfl .nil))) (.cons rfl rfl ↑9 rfl rfl (.cons rfl rfl ↑9 rfl rfl ↑4)) (dr ?_) cy (λ_ _ _ _ _=>(aQ (i:=0) l9)) (λ_=>ba) bq (λ_ _ _ _ _=>?_)));walk_at "pp";refine(Df AI GH (by rfl) T.wM zR ?_);walk_at "pp"
def yu:((["row"]:List Str)++(["none"]:List Str)).Nodup:=by decide +kernel
def Ew(F:bg K "clear" "clear" (top 49) dv f fd)(T:Txt K mg)(QH:dM P w K mg base 2 "nought" 1 (aC 1 iM))(Qd:Bi P w K mg base az 4 "Rungs" 2 [] eg)(Qt:kf P w K mg base az 1 "rows" 1 (aC 1 eX))(P4:kf P w K mg base au 1 "sizes" 1 (aC 1 aX))(Qp:Bi P w K mg base au 4 "Vault" 4 [.c_] cS):aW P w K mg base (bW P w) 6 f fd ["vault"] (dR 1 md) :=
 F.gi ["vault","none"] λnd _ _ _ _ _ _ hr O=>by
 unfold lU;walk_at "t";walk_at "pp";refine(bY (Cd (g:=(aJ 0)) (ts:=["row"]) (fs:=["none"]) (js:=[1]) rfl rfl rfl rfl rfl rfl (.cons rfl .nil) ↑4 (dr ?_) cy (λ_ _ _ _ _=>(aQ (i:=0) yu)) (λ_=>ba) bq (λ_ _ _ _ _=>?_) (λ_ _ _ _ _=>?_)));walk_at "pp"
def wa:((["dial"]:List Str)++(["rungs"]:List Str)).Nodup:=by decide +kernel
def zT(F:bg K "stills" "stills" (top 50) dv f fd)(T:Txt K mg)(Qd:Bi P w K mg base az 4 "Rungs" 2 [] eg)(P4:kf P w K mg base au 1 "sizes" 1 (aC 1 aX))(Qx:kf P w K mg base az 6 "weights_at" 2 (aC 8 cV))(Qp:Bi P w K mg base au 4 "Vault" 4 [.c_] cS)(Ry:dM P w K mg base 6 "clear" 1 (aC 2 lU)):aW P w K mg base (bW P w) 7 f fd ["vault"] (dR 1 jV) :=
 F.gi ["vault","rungs","sizes"] λnd _ _ _ _ _ _ hr O=>by
 unfold jW;walk_at "t";walk_at "pp";refine(bY (bp (g:=(aJ 0)) (ts:=["dial"]) (fs:=["rungs"]) (js:=[1]) rfl rfl rfl rfl rfl rfl (.cons rfl .nil) ↑4 (cZ (by rfl) T.c9 ?_) dQ (λ_ _ _ _ _=>(aQ (i:=0) wa)) (λ_=>ba) bq (λ_ _ _ _ _=>?_)));walk_at "pp"
def kN:cH ["vault"] ["vault"] (aZ (top 51)):=.of
def q_(F:bg K "all_stills" "all_stills" (top 51) dv f fd)(T:Txt K mg)(QH:dM P w K mg base 2 "nought" 1 (aC 1 iM))(Rl:dM P w K mg base 7 "stills" 1 (aC 3 jW))(Qy:LR P w K mg base 7 "all_together" 2 (λps=>cO (hU 9 ps))):aW P w K mg base (bW P w) 8 f fd ["vault"] (ML 1 (λps=>dC (hU 1 ps))) :=
 F.okN kN λ_ _ _ _ _ _ hr O=>by
 unfold dC;have:=kN.nd;have T2:=T;cases T2;walk_at "pp";refine(wH ?_);walk_at "pp";refine(Qy.Dt hr ⋯ (by rfl) O ?_);walk_at "pp"
def tK(F:bg K "_law_told" "_law_told" (top 65) dv f fd)(T:Txt K mg)(Qu:LR P w K mg base 8 "all_stills" 1 (λps=>dC (hU 1 ps))):aW P w K mg base (bW P w) 9 f fd ["_law_vault","_law_due"] (dR 2 ip) :=
 F.gi ["_law_vault","_law_due","_law_found"] λnd _ _ _ _ _ _ hr O=>by
 unfold iq;walk_at "t";walk_at "pp";refine(Qu.Dt hr ⋯ (by rfl) O ?_);walk_at "pp";refine(w5 ?_ (pj ?_)).pt;walk_at "pp";refine(va 2 ?_);walk_at "pp";refine(uI (T := "list") (by rfl) T.dz (j6 (v:=.ty "list") (by rfl) T.ug oH rfl) ↑12 t_ t_ ?_);walk_at "pp";refine(va 2 ?_);walk_at "pp";exact(KP (i:=2) rfl ↑3);walk_at "pp";refine(bY ?_);walk_at "pp";refine(Qu.Dt hr ⋯ (by rfl) O ?_);walk_at "pp"
def DT:((["_law_cell_here"]:List Str)++(["_law_sizes_here"]:List Str)).Nodup:=by decide +kernel
def EB:((["_law_k"]:List Str)++(["_law_script"]:List Str)).Nodup:=by decide +kernel
def Cy:((["_law_weights"]:List Str)++(["_law_sizes_here","_law_levers"]:List Str)).Nodup:=by decide +kernel
def KY(F:bg K "law" "law" (top 66) dv f fd)(T:Txt K mg)(Rq:dM P w K mg base 1 "_law_cell" 2 (aC 2 h_))(Ra:dM P w K mg base 2 "_law_sizes" 1 (aC 1 gK))(Q9:dM P w K mg base 2 "_law_lever" 2 (aC 2 gE))(Qn:dM P w K mg base 1 "_law_mix" 2 (aC 3 fq))(Q7:Bi P w K mg base au 4 "Vault" 4 [] cS)(Q0:dM P w K mg base 1 "_law_doings" 2 (aC 7 fJ))(RC:dM P w K mg base 1 "_law_all" 1 (aC 5 i6))(Rc:dM P w K mg base 3 "_law_still" 3 (aC 4 gA))(Rb:dM P w K mg base 1 "_law_steps" 2 (aC 5 gM))(Ry:dM P w K mg base 6 "clear" 1 (aC 2 lU))(Q8:dM P w K mg base 2 "_law_clear" 3 (aC 3 gI))(Rl:dM P w K mg base 7 "stills" 1 (aC 3 jW))(Rr:dM P w K mg base 9 "_law_told" 2 (aC 3 iq)):aW P w K mg base (bW P w) 10 f fd ["_law_script"] (dR 1 sd) :=
 F.gi ["_law_script","_law_sizes_here","_law_levers","_law_vault","_law_doings_here","_law_every","_law_due"] λnd _ _ _ _ _ _ hr O=>by
 unfold Ej;walk_at "t";walk_at "pp";refine(bY (bp (g:=(aJ 0)) (ts:=["_law_cell_here"]) (fs:=["_law_sizes_here"]) (js:=[1]) rfl rfl rfl rfl rfl rfl (.cons rfl .nil) ↑4 (dr ?_) cy (λ_ _ _ _ _=>(aQ (i:=0) DT)) (λ_=>ba) bq (λ_ _ _ _ _=>?_)));walk_at "pp";refine(sv ?_ (uC ?_) (uC ?_));walk_at "pp";refine(bY (bp (g:=(aJ 0)) (ts:=["_law_k"]) (fs:=["_law_script"]) (js:=[0]) rfl rfl rfl rfl rfl rfl (.cons rfl .nil) ↑4 (cZ (by rfl) T.c9 ?_) dQ (λ_ _ _ _ _=>(aQ (i:=0) EB)) (λ_=>ba) bq (λ_ _ _ _ _=>?_)));walk_at "pp";refine(wN (i:=6) (g:=(aJ 0)) (ts:=["_law_weights"]) (fs:=["_law_sizes_here","_law_levers"]) (js:=[1,2]) rfl rfl rfl rfl rfl rfl (.cons rfl (.cons rfl .nil)) (.cons rfl rfl ↑9 rfl rfl ↑4) (dr ?_) cy (λ_ _ _ _ _=>(aQ (i:=0) Cy)) (λ_=>ba) bq (λ_ _ _ _ _=>?_) (λ_ _ _ _ _=>?_) nd rfl ↑9);walk_at "pp";refine(ye ?_ (xP ?_));walk_at "pp";refine(iO zJ FE (by rfl) T.HV PySem.boot_len ?_);walk_at "pp"
end xf
namespace xf
open PySem L2 PyProof.Rows
open PySem.W (nsIn findIn codeIn keepIn isFn mroIn specialIn takesIn hasDictIn typeIn plainGet plainOver makesIn mg_of mg_none_of fnOf excIn clsIn)
abbrev κ(w:World):U5:=HD.K w.params
variable(w:World)
abbrev Ke:Value:=HD.st "dialvault.wholes" 363
abbrev yS:Value:=HD.st "dialvault.vault" 420
abbrev yv:Value:=HD.st "dialvault.rungs" 570
abbrev yL:Value:=HD.st "law_dialvault_k42_whole_all_still_weights" 769
abbrev PN:Value:=HD.st "dialvault.papers" 562
abbrev md5:Value:=HD.st "dialvault.stills" 748
abbrev PR:Value:=HD.st "dialvault.classes" 738
def dZ:FuncData:=fnOf "__init__" "Vault.__init__" (ir (inClass (top 23) 0)) (d_ (inClass (top 23) 0)) (aZ (inClass (top 23) 0)) (.ref 208) .none .none yS none (.ref 212) .none
def gP:bg (κ w) "__init__" "Vault.__init__" (inClass (top 23) 0) (.ref 208) 213 dZ:=.of ↑10 ↑10 ↑10
def iA:FuncData:=Bh "__init__" "Rungs.__init__" (inClass (top 44) 0) yv 375
def uO:bg (κ w) "__init__" "Rungs.__init__" (inClass (top 44) 0) .none 376 iA:=.of ↑10 ↑10 ↑10
def ur:Binds (κ w) iA ["self","vault"] []:=Binds.all (Pa λ_ _=>rfl)
def gk:FuncData:=Bh "all_together" "all_together" (top 47) PR 435
def jJ:bg (κ w) "all_together" "all_together" (top 47) .none 436 gk:=.of ↑10 ↑10 ↑10
def qm:Binds (κ w) gk ["vault","setting"] []:=Binds.all (Pa λ_ _=>rfl)
def iD:FuncData:=Bh "all_stills" "all_stills" (top 51) md5 452
def lE:bg (κ w) "all_stills" "all_stills" (top 51) .none 453 iD:=.of ↑10 ↑10 ↑10
def tN:Binds (κ w) iD ["vault"] []:=Binds.all (Pp λ_=>rfl)
def xY:FuncData:=Bh "law" "law" (top 66) yL 536
def Mh:bg (κ w) "law" "law" (top 66) .none 537 xY:=.of ↑10 ↑10 ↑10
def dW:mf (κ w) az:=⟨↑10,↑10,↑10,↑10⟩
def eQ:mf (κ w) au:=⟨↑10,↑10,↑10,↑10⟩
def Ml:findIn (κ w) (.ref 427) "idle_rows"=some none:=by kernel_rfl
def LX:findIn (κ w) (.ref 427) "made_rows"=some none:=by kernel_rfl
def Mq:findIn (κ w) (.ref 427) "vault"=some none:=by kernel_rfl
def MT:findIn (κ w) (.ref 244) "dial_sizes"=some none:=by kernel_rfl
def MS:findIn (κ w) (.ref 244) "least_round"=some none:=by kernel_rfl
def MQ:findIn (κ w) (.ref 244) "lever_prices"=some none:=by kernel_rfl
def LU:findIn (κ w) (.ref 244) "lever_settings"=some none:=by kernel_rfl
def NZ:nsIn (κ w) mainGlobals "LEAST_PRICE"=some (some (.int 1 430)):=by kernel_rfl
def OV:nsIn (κ w) mainGlobals "LEAST_SIZE"=some (some (.int 2 424)):=by kernel_rfl
def OQ:nsIn (κ w) mainGlobals "MOST_DIALS"=some (some (.int 6 422)):=by kernel_rfl
def Og:nsIn (κ w) mainGlobals "MOST_LEVERS"=some (some (.int 8 428)):=by kernel_rfl
def Ov:nsIn (κ w) mainGlobals "MOST_PRICE"=some (some (.int 1000 432)):=by kernel_rfl
def Oe:nsIn (κ w) mainGlobals "MOST_SETTINGS"=some (some (.int 1024 740)):=by kernel_rfl
def OL:nsIn (κ w) mainGlobals "MOST_SIZE"=some (some (.int 360 426)):=by kernel_rfl
def M4:(κ w).lookup 208=some (HD.tu [.none]):=by kernel_rfl
def ub:Binds (κ w) dZ ["self","sizes","levers","prices"] []:=(gP w).binds (M4 w) rfl λ_ _ _ _ _ _ us hl=>by obtain⟨a,b,c,d,rfl⟩:=Pj (show _=4 from (by simpa using hl));exact⟨_,rfl,rfl⟩
def rN:Binds (κ w) dZ ["self","sizes","levers","prices"] [.none]:=(gP w).binds (M4 w) rfl λ_ _ _ _ _ _ us hl=>by obtain⟨a,b,c,rfl⟩:=Pe (show _=3 from (by simpa using hl));exact⟨_,rfl,rfl⟩
variable{h:Heap}
def txt{w:World}{mg:Str->Option Value}(X:adh (κ w) h)(G:h.Ns mainGlobals mg):Txt (κ w) mg where
 MB:=mg_none_of X G ↑10
 CM:=mg_none_of X G ↑10
 de:=mg_none_of X G ↑10
 HN:=mg_none_of X G ↑10
 dz:=mg_none_of X G ↑10
 HV:=mg_none_of X G ↑10
 ug:=mg_none_of X G ↑10
 Hk:=mg_none_of X G ↑10
 Hv:=mg_none_of X G ↑10
 c9:=mg_none_of X G ↑10
 wM:=mg_none_of X G ↑10
 Mc:=mg_none_of X G ↑10
 uz:=mg_none_of X G ↑10
 jU:=mg_none_of X G ↑10
 rQ:=⟨_,mg_of X G (NZ w),⟨_,rfl⟩⟩
 u5:=⟨_,mg_of X G (OV w),⟨_,rfl⟩⟩
 uX:=⟨_,mg_of X G (OQ w),⟨_,rfl⟩⟩
 rS:=⟨_,mg_of X G (Og w),⟨_,rfl⟩⟩
 uF:=⟨_,mg_of X G (Ov w),⟨_,rfl⟩⟩
 nX:=⟨_,mg_of X G (Oe w),⟨_,rfl⟩⟩
 wZ:=⟨_,mg_of X G (OL w),⟨_,rfl⟩⟩
 oz:=dW w
 lM:=eQ w
 hZ:=(Ml w)
 ik:=(LX w)
 kD:=(Mq w)
 gZ:=(MT w)
 gq:=(MS w)
 f6:=(MQ w)
 eZ:=(LU w)
 u6:=λC h=>by obtain rfl:=eq_of_beq h;exact⟨eQ w,(MT w)⟩
 vH:=λC h=>by obtain rfl:=eq_of_beq h;exact⟨dW w,(Ml w)⟩
 rh:=λC h=>by obtain rfl:=eq_of_beq h;exact⟨eQ w,(MS w)⟩
 qB:=λC h=>by obtain rfl:=eq_of_beq h;exact⟨eQ w,(MQ w)⟩
 mM:=λC h=>by obtain rfl:=eq_of_beq h;exact⟨eQ w,(LU w)⟩
 vW:=λC h=>by obtain rfl:=eq_of_beq h;exact⟨dW w,(LX w)⟩
 Fd:=λC h=>by obtain rfl:=eq_of_beq h;exact⟨dW w,(Mq w)⟩
def J9{P:Program}{w:World}{mg:Str->Option Value}(X:adh (κ w) h)(G:h.Ns mainGlobals mg)(base:Heap):aW P w (κ w) mg base (bW P w) 10 537 xY ["_law_script"] (dR 1 sd):=by
 have T:=txt X G;have QK:=iV P w base X G 164 163 Ke λD=>wy D T;have Ri:=iV P w base X G 169 168 Ke λD=>AN D T QK;have Rh:=iV P w base X G 176 175 Ke λD=>Ah D T;have QD:=iV P w base X G 183 182 Ke λD=>oS D T Rh;have Rk:=iV P w base X G 190 189 Ke λD=>rD D T;have RG:=iV P w base X G 195 194 Ke λD=>vO D T;have RE:=iV P w base X G 200 199 Ke λD=>wD D T;have Qh:=iV P w base X G 255 254 yS λD=>ui D T QK;have QL:=iV P w base X G 262 261 yS λD=>qW D T Qh;have QE:=iV P w base X G 269 268 yS λD=>pJ D T Ri;have QM:=iV P w base X G 276 275 yS λD=>qN D T Qh;have QN:=iV P w base X G 281 280 yS λD=>Ez D T;have Rz:=iV P w base X G 315 314 yv λD=>BV D T;have Qw:=iV P w base X G 322 321 yv λD=>rO D T Rz QN;have Qi:=iV P w base X G 343 342 yv λD=>uD D T;have RF:=iV P w base X G 350 349 yv λD=>wW D T Qi Rh Qw;have QX:=iV P w base X G 357 356 yv λD=>xT D T Qi Qw;have RD:=iV P w base X G 364 363 yv λD=>wI D T Rz;have Rq:=iV P w base X G 460 459 yL λD=>u9 D T;have Qn:=iV P w base X G 467 466 yL λD=>wQ D T;have Qq:=iV P w base X G 474 473 yL λD=>qf D T;have Ra:=iV P w base X G 479 478 yL λD=>qZ D T Qq Qn;have Q9:=iV P w base X G 484 483 yL λD=>rJ D T Qq Qn;have Q0:=iV P w base X G 489 488 yL λD=>qJ D T;have Rb:=iV P w base X G 494 493 yL λD=>rB D T;have RC:=iV P w base X G 499 498 yL λD=>vB D T;have Q_:=iV P w base X G 506 505 yL λD=>qU D T;have Rf:=iV P w base X G 511 510 yL λD=>qY D T Q_;have Rc:=iV P w base X G 518 517 yL λD=>qX D T Rf;have Q7:Bi P w (κ w) mg base au 4 "Vault" 4 [] cS:=⟨⟨213,dZ,["self","sizes","levers","prices"],[],[],mg_of X G ↑10,⟨↑10,↑10,↑10,↑10⟩,ub w,.nil,λ_=>.nil,kI (gP w) T QL QE QN QM QD⟩⟩
 have Qp:Bi P w (κ w) mg base au 4 "Vault" 4 [.c_] cS:=⟨⟨213,dZ,["self","sizes","levers","prices"],[.none],[.c_],mg_of X G ↑10,⟨↑10,↑10,↑10,↑10⟩,rN w,(.cons rfl .nil),λ_=>(.cons .c_ .nil),kI (gP w) T QL QE QN QM QD⟩⟩
 have P4:=ER P w base (eQ w) 220 219 yS λD=>qp D T;have P_:=ER P w base (eQ w) 227 226 yS λD=>nU D T;have QV:=ER P w base (eQ w) 234 233 yS λD=>nZ D T;have Ql:=ER P w base (eQ w) 241 240 yS λD=>n8 D T;have Qo:=ER P w base (dW w) 381 380 yv λD=>qx D T P4 Qi;have Qt:=ER P w base (dW w) 386 385 yv λD=>qO D T;have QZ:=ER P w base (dW w) 391 390 yv λD=>oZ D T;have QH:=iV P w base X G 288 287 yS λD=>Aa D T P4;have Rj:=iV P w base X G 293 292 yS λD=>qT D T P4 Ri;have Qa:=iV P w base X G 300 299 yS λD=>oa D T Rj;have Sj:=iV P w base X G 305 304 yS λD=>Dl D T P4 QN;have Sk:=iV P w base X G 310 309 PN λD=>DX D T Qa Ql P4 RE;have QO:=iV P w base X G 329 328 yv λD=>wL D T P_;have Q2:=iV P w base X G 336 335 yv λD=>qg D T P_ RG;have Q8:=iV P w base X G 525 524 yL λD=>rP D T P4 QV P_;have Qd:Bi P w (κ w) mg base az 4 "Rungs" 2 [] eg:=⟨⟨376,iA,["self","vault"],[],[],mg_of X G ↑10,⟨↑10,↑10,↑10,↑10⟩,ur w,.nil,λ_=>.nil,qQ (uO w) T P4 QH QO P_ Q2 RF RD QX⟩⟩
 have Qr:=ER P w base (dW w) 405 404 yv λD=>jG D T Qa QO P4 QX;have QY:=ER P w base (dW w) 412 411 yv λD=>o_ D T Qr;have Qx:=ER P w base (dW w) 424 423 yv λD=>kB D T P4 Qh Qo Sk Ql;have Qy:LR P w (κ w) mg base 7 "all_together" 2 (λps=>cO (hU 9 ps)):=⟨⟨436,gk,["vault","setting"],mg_of X G ↑10,(jJ w).kp,rfl,qm w,nP (jJ w) T Qt Qo P4 Sj QY QZ Rk Qd Qa⟩⟩
 have Ry:=iV P w base X G 441 440 md5 λD=>Ew D T QH Qd Qt P4 Qp;have Rl:=iV P w base X G 446 445 md5 λD=>zT D T Qd P4 Qx Qp Ry;have Qu:LR P w (κ w) mg base 8 "all_stills" 1 (λps=>dC (hU 1 ps)):=⟨⟨453,iD,["vault"],mg_of X G ↑10,(lE w).kp,rfl,tN w,q_ (lE w) T QH Rl Qy⟩⟩
 have Rr:=iV P w base X G 532 531 yL λD=>tK D T Qu;exact KY (Mh w) T Rq Ra Q9 Qn Q7 Q0 RC Rc Rb Ry Q8 Rl Rr
def N6:zk (κ w)=true:=by kernel_rfl
def Od:nsIn (κ w) mainGlobals "law"=some (some (.ref 537)):=by kernel_rfl
end xf
open PySem PySem.W
def xf.hold(said:PySem.Challenge.rw_dialvault_k42_whole_all_still_weights.wellSaid=true)(T4:∀ns:List Int,ns.length<=63->(∀i∈ns,Z8 i<=1048576)->xf.sd [.jX (ns.map L2.PV.int)]=L2.M.ok (.bl true)):PySem.Challenge.rw_dialvault_k42_whole_all_still_weights.Holds:=by
 refine holds_law said λsaid=>?_;refine holds_open (q:=HD.vw) (loose:=HD.loose) (Xt:=HD.Xt) (XP:=XL HD.vw []) (Yf:=Hook.obs HD.hook) (Ya:=Hook.val HD.hook) (YP:=Hook.says HD.hook) HD.Nh (Hook.of HD.hook) (Hook.keeps HD.hook) (λs e=>xl_of s (Ye.mp e).1) XL.keeps (by rfl) (by rfl) (by rfl) (λs e=>recFacts_of (Ye.mp e).2) (by rfl) said (by decide +kernel) ⟨rfl,rfl,rfl,rfl,rfl,by decide +kernel⟩ ?hw ?hc
 case hw=>w_witness2
 refine L2.xw (l:=PySem.Challenge.rw_dialvault_k42_whole_all_still_weights) (n:=63) (k:=10) (x := "_law_script") (K:=HD.K) (sem:=xf.sd) rfl ↑12 rfl ⟨rfl,by decide,by decide⟩ (λw h Y=>PySem.W.kIn_of Y) (λw=>xf.N6 w) (λw mg fa h X G hmg=>?_) T4;have e:=hmg.symm.trans (adj X G (xf.Od w));cases e;exact⟨xf.xY,λs v=>.of_eq rfl,λbase X' G'=>xf.J9 X' G' base⟩
namespace Eu
def sA(a b:Int)(hb:b≠0):(a-a.fdiv b*b).natAbs<b.natAbs/\0<=(a-a.fdiv b*b)*b/\(0<=a*b->a.natAbs=(a.fdiv b).natAbs*b.natAbs+(a-a.fdiv b*b).natAbs):=by
 have pos:∀(a b:Int),0<b->(a-a/b*b).natAbs<b.natAbs/\0<=(a-a/b*b)*b/\(0<=a*b->a.natAbs=(a/b).natAbs*b.natAbs+(a-a/b*b).natAbs):=by
  intro a b hb;have e:a-a/b*b=a%b:=by
   have h:=abL a b;rw[W2] at h;lia
  have h0:=VM a (by lia:b≠0);have h1:=Vy a hb;rw[e];refine⟨by lia,Int.mul_nonneg h0 ⋯,λhab=>?_⟩;have ha:0<=a:=by
   rcases abm a 0 with h|h
   .have:=Int.mul_neg_of_neg_of_pos h hb;lia
   .exact h
  have hq:0<=a/b:=Xg ha ⋯;have h2:=abL a b;have h3:((a/b).natAbs*b.natAbs:Nat)=(b*(a/b)).natAbs:=by
   rw[XU,Z_]
  rw[h3];have h4:0<=b*(a/b):=Int.mul_nonneg ⋯ hq;lia
 rcases abm 0 b with h|h
 .rw[YK a ⋯];exact pos a b h
 .have h':0 < -b:=by lia
  have e:a.fdiv b=(-a)/(-b):=by
   rw[<- YK (-a) (by lia:0<=-b),Int.neg_fdiv_neg]
  obtain⟨p1,p2,p3⟩:=pos (-a) (-b) h';have e2:-a-(-a)/(-b)*(-b)=-(a-a.fdiv b*b):=by
   rw[<- e,abW];lia
  rw[e2] at p1 p2 p3;rw[<- e] at p3;simp only[aas,Int.neg_mul_neg] at p1 p2 p3;exact⟨p1,p2,p3⟩
structure St (a b:Int) (r s t r' s' t':Int):Prop where
 c0:r=s*a+t*b
 c1:r'=s'*a+t'*b
 dv:∀d:Int,d∣r->d∣r'->d∣a/\d∣b
 bd:s'.natAbs*r.natAbs+s.natAbs*r'.natAbs<=b.natAbs
 sg:s'=0\/0<=r*r'
 b0:s.natAbs<=b.natAbs+1
 b1:s'.natAbs<=b.natAbs+1
 d0:t.natAbs<=a.natAbs+(b.natAbs+1)*a.natAbs+b.natAbs+1
 d1:t'.natAbs<=a.natAbs+(b.natAbs+1)*a.natAbs+b.natAbs+1
 m0:r.natAbs<=a.natAbs+b.natAbs
 m1:r'.natAbs<=b.natAbs
def start(a b:Int):St a b a 1 0 b 0 1 where
 c0:=by lia
 c1:=by lia
 dv:=λd h1 h2=>⟨h1,h2⟩
 bd:=by simp
 sg:=.inl rfl
 b0:=by lia
 b1:=by lia
 d0:=by simp
 d1:=by lia
 m0:=by lia
 m1:=by lia
def turn{a b r s t r' s' t':Int}(h:St a b r s t r' s' t')(h0:r'≠0):St a b r' s' t' (r-r.fdiv r'*r') (s-r.fdiv r'*s') (t-r.fdiv r'*t')/\(r-r.fdiv r'*r').natAbs<r'.natAbs:=by
 obtain⟨f1,f2,f3⟩:=sA r r' h0;generalize hq:r.fdiv r'=q at *;have hb:b≠0:=by
  intro z;have:=h.m1;lia
 have hr':1<=r'.natAbs:=by lia
 have c1':r-q*r'=(s-q*s')*a+(t-q*t')*b:=by
  rw[h.c0,h.c1,ac6,ac6,Int.mul_add,Xu,Xu];lia
 have bd':(s-q*s').natAbs*r'.natAbs+s'.natAbs*(r-q*r').natAbs<=b.natAbs:=by
  have qM:(s-q*s').natAbs<=s.natAbs+q.natAbs*s'.natAbs:=by
   rw[<- XU];lia
  have hbd:=h.bd;rcases h.sg with z|z
  .subst z;simp only[W3,Zw,Int.natAbs_zero,Nat.zero_mul,abn,abg] at hbd ⊢;exact hbd
  .have e:=f3 z;have k1:(s-q*s').natAbs*r'.natAbs<=(s.natAbs+q.natAbs*s'.natAbs)*r'.natAbs:=YL _ qM;have k2:(s.natAbs+q.natAbs*s'.natAbs)*r'.natAbs+s'.natAbs*(r-q*r').natAbs=s'.natAbs*r.natAbs+s.natAbs*r'.natAbs:=by
    rw[e,ac7,Nat.mul_add,Z_ q.natAbs s'.natAbs,Nat.mul_assoc];lia
   lia
 have b1':(s-q*s').natAbs<=b.natAbs:=by
  have:(s-q*s').natAbs*1<=(s-q*s').natAbs*r'.natAbs:=YZ _ hr';lia
 have mm:(r-q*r').natAbs<=b.natAbs:=by
  have:=h.m1;lia
 have d1':(t-q*t').natAbs<=a.natAbs+(b.natAbs+1)*a.natAbs+b.natAbs+1:=by
  have e:(t-q*t')*b=(r-q*r')-(s-q*s')*a:=by lia
  have e1:((t-q*t')*b).natAbs<=(r-q*r').natAbs+((s-q*s')*a).natAbs:=by lia
  rw[XU,XU] at e1;have k1:(t-q*t').natAbs*1<=(t-q*t').natAbs*b.natAbs:=YZ _ ⋯;have k2:(s-q*s').natAbs*a.natAbs<=(b.natAbs+1)*a.natAbs:=YL _ ⋯;lia
 refine⟨⟨h.c1,c1',λd e1 e2=>?_,bd',?_,h.b1,by lia,h.d1,d1',?_,mm⟩,f1⟩
 .refine h.dv d ?_ e1;have e3:d∣q*r':=Wi e1 (WQ _ _);have e4:=XA e2 e3
  rwa [aat] at e4
 .exact .inr (by rwa[W2])
 .have:=h.m1;lia
def done{a b r s t s' t':Int}(h:St a b r s t 0 s' t'):r∣a/\r∣b:=h.dv r (abo r) (Wv r)
end Eu
namespace Lc
def Cq(ns:List Nat):Nat:=ns.foldl X3 1
theorem yB:∀(ns:List Nat)(m:Nat),m∣ns.foldl X3 m/\(∀n∈ns,n∣ns.foldl X3 m)/\(∀k,m∣k->(∀n∈ns,n∣k)->ns.foldl X3 m∣k)
 | [],m=>⟨Nat.dvd_refl m,(λ_ h=>nomatch h),λk h _=>h⟩
 | n::ns,m=>by
  obtain⟨h1,h2,h3⟩:=yB ns (X3 m n);refine⟨Nat.dvd_trans (Nat.dvd_lcm_left m n) h1,λx hx=>?_,λk hm hk=>?_⟩
  .rcases Vn.mp hx with e|hx
   .rw[e];exact Nat.dvd_trans (Nat.dvd_lcm_right m n) h1
   .exact h2 x hx
  .exact h3 k (ac8 hm (hk n Vl)) λx hx=>hk x (Vi _ hx)
variable{ns:List Nat}
def lcm_dvd{n:Nat}(h:n∈ns):n∣Cq ns:=(yB ns 1).2.1 n h
theorem nG:∀(ns:List Nat)(m:Nat),0<m->(∀n∈ns,0<n)->0<ns.foldl X3 m
 | [],m,h,_=>h
 |n::ns,m,h,hp=>nG ns (X3 m n) (ac9 h (hp n Vl)) λx hx=>hp x (Vi _ hx)
def lcm_pos(h:∀n∈ns,0<n):0<Cq ns:=nG ns 1 ↑12 h
theorem qA(B:Nat):∀(ns:List Nat)(m k:Nat),0<m->m<=2^k->(∀n∈ns,0<n/\n<=2^B)->ns.foldl X3 m<=2^(k+B*ns.length)
 | [],m,k,_,h,_=>by simpa using h
 | n::ns,m,k,h0,h,hp=>by
  have hn:=hp n Vl;have h1:X3 m n<=2^(k+B):=by
   have:X3 m n<=m*n:=aaO (Nat.mul_pos h0 hn.1) (ac8 (acI m n) (acZ n m));rw[abX];exact Vz this (Ys h hn.2)
  have h2:=qA B ns (X3 m n) (k+B) (ac9 h0 hn.1) h1 λx hx=>hp x (Vi _ hx);have e:k+B*(n::ns).length=k+B+B*ns.length:=by
   rw[VF,Nat.mul_succ];lia
  rwa[e]
def El(m n:Nat):m/Nat.gcd m n*n=X3 m n:=by
 unfold X3;rw[Nat.div_mul_right_comm (Nat.gcd_dvd_left m n)]
end Lc
namespace Rg
abbrev bR:=Nat->Int
def aO(s:bR)(D:Nat->bR)(d:Nat):Int:=if D d d=0 then s d else D d d
def G(n:Nat)(s:bR)(D:Nat->bR):Nat->Nat->bR->Prop
 | 0,_,v=>∀i,i<n->s i∣v i
 |k+1,d,v=>aO s D d∣v d/\G n s D k (d+1) λi=>v i-v d/aO s D d*D d i
def U(i:Nat)(c:Int):bR:=λj=>if j=i then c else 0
variable{D:Nat->bR}{s:bR}{n:Nat}
theorem G.ext:∀{k d:Nat}{v w:bR},d+k=n->(∀i,i<n->v i=w i)->G n s D k d v->G n s D k d w
 | 0,d,v,w,_,e,h=>λi hi=>by rw[<- e i hi];exact h i hi
 | k+1,d,v,w,hn,e,h=>by
  have ed:=e d ⋯;refine⟨by rw[<- ed];exact h.1,G.ext ⋯ (λi hi=>?_) h.2⟩;rw[e i hi,ed]
theorem G.add:∀{k d:Nat}{v w:bR},d+k=n->G n s D k d v->G n s D k d w->G n s D k d λi=>v i+w i
 | 0,d,v,w,_,h,h'=>λi hi=>XA (h i hi) (h' i hi)
 | k+1,d,v,w,hn,h,h'=>by
  refine⟨XA h.1 h'.1,G.ext ⋯ (λi hi=>?_) (G.add ⋯ h.2 h'.2)⟩;show _=v i+w i-(v d+w d)/aO s D d*D d i;rw[Int.add_ediv_of_dvd_left h.1,Int.add_mul];lia
theorem G.mul(c:Int):∀{k d:Nat}{v:bR},d+k=n->G n s D k d v->G n s D k d λi=>c*v i
 | 0,d,v,_,h=>λi hi=>Wi (h i hi) (WQ _ _)
 | k+1,d,v,hn,h=>by
  refine⟨Wi h.1 (WQ _ _),G.ext ⋯ (λi hi=>?_) (G.mul c ⋯ h.2)⟩;show _=c*v i-c*v d/aO s D d*D d i;rw[acn c h.1,ac_,Xu]
theorem G.zero:∀{k d:Nat},d+k=n->G n s D k d λ_=>0
 | 0,d,_=>λi _=>Wv _
 |k+1,d,hn=>⟨Wv _,G.ext ⋯ (λi hi=>by simp) (G.zero (k:=k) (d:=d+1) ⋯)⟩
theorem G.skip{v:bR}:∀{j k d:Nat},d+(j+k)=n->(∀i,d<=i->i<d+j->v i=0)->G n s D k (d+j) v->G n s D (j+k) d v
 | 0,k,d,_,_,h=>by rwa[abn]
 | j+1,k,d,hn,hz,h=>by
  rw[show j+1+k=(j+k)+1 by lia];have z:=hz d (U9 _) ⋯;refine⟨by rw[z];exact Wv _,G.ext (v:=v) ⋯ (λi hi=>by rw[z];simp) (G.skip ⋯ (λi h1 h2=>hz i ⋯ ⋯) (by rwa[show d+1+j=d+(j+1) by lia]))⟩
structure Good (n:Nat) (s:bR) (D:Nat->bR):Prop where
 sp:∀i,i<n->0<s i
 ja:∀d,d<n->∀i,i<n->0<=D d i/\D d i<s i
 qM:∀d,d<n->∀i,i<d->D d i=0
 dv:∀d,d<n->aO s D d∣s d
 Ni:∀d k,d+(k+1)=n->G n s D k (d+1) λi=>s d/aO s D d*D d i
variable{d:Nat}
variable{v:bR}{k:Nat}
theorem Good.pos(g:Good n s D)(h:d<n):0<aO s D d/\aO s D d<=s d:=by
 have h1:=g.ja d h d h;have h2:=g.sp d h;unfold aO
 split<;>lia
theorem Good.diag(g:Good n s D)(h:d<n):s d∣D d d-aO s D d:=by
 unfold aO
 split
 .rename_i z;rw[z];exact⟨-1,by lia⟩
 .rw[acJ];exact Wv _
theorem Good.turn(g:Good n s D):∀{k d i:Nat}(c:Int),d+k=n->i<n->G n s D k d (U i (c*s i))
 | 0,d,i,c,_,hi=>λj hj=>by
  unfold U
  split
  .rename_i z;rw[z];exact WQ _ _
  .exact Wv _
 | k+1,d,i,c,hn,hi=>by
  have hd:d<n:=by lia
  by_cases z:i=d
  .subst z;have dv:=g.dv i hi;refine⟨by show _∣U i _ i;rw[U,if_pos rfl];exact Wi dv (WQ _ _),?_⟩;refine G.ext ⋯ (λj hj=>?_) (G.add ⋯ (g.turn (k:=k) (d:=i+1) (i:=i) c ⋯ hi) (G.mul (-c) ⋯ (g.Ni i k hn)));show U i (c*s i) j+-c*(s i/aO s D i*D i j)=U i (c*s i) j-U i (c*s i) i/aO s D i*D i j;rw[show U i (c*s i) i=c*s i by rw[U,if_pos rfl],acn c dv,ZU,Xu];lia
  .have u0:U i (c*s i) d=0:=by rw[U,if_neg (WW z)]
   refine⟨by rw[u0];exact Wv _,G.ext ⋯ (λj hj=>?_) (g.turn (k:=k) (d:=d+1) (i:=i) c ⋯ hi)⟩;rw[u0];simp
def G.oQ{w:bR}(ht:∀i c,i<n->G n s D k d (U i (c*s i)))(hn:d+k=n)(h:∀i,i<n->s i∣w i-v i)(hv:G n s D k d v):G n s D k d w:=by
 have key:∀m,m<=n->G n s D k d λi=>if i<m then w i else v i:=by
  intro m
  induction m with
  | zero=>intro _;exact G.ext hn (λi _=>by simp) hv
  | succ m ih =>
   intro hm;obtain⟨c,hc⟩:=h m ⋯;refine G.ext hn (λi hi=>?_) (G.add hn (ih ⋯) (ht m c ⋯));show (if i<m then w i else v i)+U m (c*s m) i=if i<m+1 then w i else v i;unfold U
   by_cases z:i=m
   .subst z;rw[if_neg ⋯,if_pos rfl,if_pos ⋯,W2 c];lia
   .rw[if_neg z]
    by_cases q:i<m
    .rw[if_pos q,if_pos ⋯];lia
    .rw[if_neg q,if_neg ⋯];lia
 exact G.ext hn (λi hi=>by simp[hi]) (key n (U9 _))
theorem Good.oQ(g:Good n s D){k d:Nat}{v w:bR}(hn:d+k=n)(h:∀i,i<n->s i∣w i-v i)(hv:G n s D k d v):G n s D k d w :=
 G.oQ (λi c hi=>g.turn c hn hi) hn h hv
def Good.sub(g:Good n s D){w:bR}(hn:d+k=n)(hv:G n s D k d v)(hw:G n s D k d w):G n s D k d λi=>v i-w i :=
 G.ext hn (λi _=>by lia) (G.add hn hv (G.mul (-1) hn hw))
theorem Good.own(g:Good n s D)(hn:d+(k+1)=n):G n s D (k+1) d (D d):=by
 have hd:d<n:=by lia
 by_cases z:D d d=0
 .have e:aO s D d=s d:=by unfold aO;rw[if_pos z]
  have c:=g.Ni d k hn;rw[e] at c;refine⟨by rw[z];exact Wv _,G.ext ⋯ (λi hi=>?_) c⟩;rw[z,ab8 (by have:=g.sp d hd;lia)];simp
 .have e:aO s D d=D d d:=by unfold aO;rw[if_neg z]
  refine⟨by rw[e];exact abo _,G.ext ⋯ (λi hi=>?_) (G.zero (k:=k) (d:=d+1) ⋯)⟩;rw[e,ab8 z];lia
theorem Good.row(g:Good n s D)(hd:d<n):∀{k e:Nat},e+k=n->e<=d->G n s D k e (D d):=by
 intro k e hn he;have h:=g.own (d:=d) (k:=n-d-1) ⋯;have:=G.skip (n:=n) (s:=s) (D:=D) (v:=D d) (j:=d-e) (k:=n-d-1+1) (d:=e) ⋯ (λi h1 h2=>g.qM d hd i ⋯) (by rwa[show e+(d-e)=d by lia]);rwa[show d-e+(n-d-1+1)=k by lia] at this
structure Tk (n:Nat) (s:bR) (D D' L:Nat->bR) (u v g:Nat->Int):Prop where
 gp:∀d,d<n->0<g d
 bz:∀d,d<n->u d*aO s D d+v d*L d d=g d
 g1:∀d,d<n->g d∣aO s D d
 g2:∀d,d<n->g d∣L d d
 qK:∀d,d<n->∀i,i<n->D' d i=(u d*D d i+v d*L d i)%s i
 MW:∀d,d<n->∀i,i<n->L (d+1) i=(aO s D d/g d*L d i+-(L d d/g d)*D d i)%s i
 l0:∀i,i<n->0<=L 0 i/\L 0 i<s i
variable{b:Int}
section
variable{D' L:Nat->bR}{u v g:Nat->Int}
theorem dN(a b:Int):b∣a%b-a:=⟨-(a/b),by have:=YT a b;rw[abW];lia⟩
theorem mE(a b:Int):b∣a-a%b:=⟨a/b,by have:=YT a b;lia⟩
theorem Tk.kept(t:Tk n s D D' L u v g)(G:Good n s D):∀d,d<=n->∀i,i<n->0<=L d i/\L d i<s i:=by
 intro d hd i hi;cases d with
 | zero=>exact t.l0 i hi
 | succ d =>
  rw[t.MW d ⋯ i hi];have:=G.sp i hi;exact⟨VM _ ⋯,Vy _ this⟩
theorem kh{a:Int}(h0:0<=a)(h1:a<b)(h:b∣a):a=0:=by
 obtain⟨c,rfl⟩:=h;rcases abm 0 c with hc|hc
 .have:b*1<=b*c:=VA hc ⋯;lia
 .have:b*c<=0:=Zb ⋯ hc;lia
theorem Tk.zero(t:Tk n s D D' L u v g)(G:Good n s D):∀d,d<=n->∀i,i<d->L d i=0:=by
 intro d
 induction d with
 | zero=>intro _ i hi;lia
 | succ d ih =>
  intro hd i hi;have Tx:d<n:=by lia
  have k:=t.kept G (d+1) hd i ⋯;refine kh k.1 k.2 ?_;rw[t.MW d Tx i ⋯];rcases VT i d with h|h
  .rw[ih ⋯ i h,G.qM d Tx i h];simp
  .obtain rfl:i=d:=by lia
   refine Wi ?_ (abo _);obtain⟨c,hc⟩:=G.diag Tx;obtain⟨a,ha⟩:=t.g1 i Tx;obtain⟨b,hb⟩:=t.g2 i Tx;have gp:=t.gp i Tx;have e1:aO s D i/g i=a:=by rw[ha];exact Vr a ⋯
   have e2:L i i/g i=b:=by rw[hb];exact Vr b ⋯
   rw[e1,e2];have e3:a*L i i+-b*D i i=s i*(-b*c):=by
    have:D i i=aO s D i+s i*c:=by lia
    rw[this,ha,hb];grind
   rw[e3,Int.mul_emod_right];exact Wv _
theorem Tk.step(t:Tk n s D D' L u v g)(G:Good n s D)(hd:d<n):aO s D' d=g d:=by
 obtain⟨c,hc⟩:=G.diag hd;have gp:=t.gp d hd;have sp:=G.sp d hd;have st:=G.pos hd;have le:g d<=aO s D d:=ab9 st.1 (t.g1 d hd);have e:D' d d=g d%s d:=by
  rw[t.qK d hd d hd,<- t.bz d hd];have:D d d=aO s D d+s d*c:=by lia
  rw[this,show u d*(aO s D d+s d*c)+v d*L d d=(u d*aO s D d+v d*L d d)+s d*(u d*c) by grind,Int.add_mul_emod_self_left]
 unfold aO;rw[e]
 by_cases z:g d=s d
 .rw[z,Int.emod_self,if_pos rfl]
 .rw[WC ⋯ ⋯,if_neg ⋯]
theorem Tk.main(t:Tk n s D D' L u v g)(Gd:Good n s D):∀k d,d+k=n->(∀w,G n s D k d w->G n s D' k d w)/\G n s D' k d (L d)
 | 0,d,hn=>by
  refine⟨λw h=>h,λi hi=>?_⟩;rw[t.zero Gd d ⋯ i ⋯];exact Wv _
 | k+1,d,hn=>by
  obtain⟨i1,i2⟩:=t.main Gd k (d+1) ⋯;have hd:d<n:=by lia
  have turn:∀i c,i<n->G n s D' k (d+1) (U i (c*s i)):=λi c hi=>i1 _ (Gd.turn c ⋯ hi);have st:=t.step Gd hd;have gp:=t.gp d hd;obtain⟨a,ha⟩:=t.g1 d hd;obtain⟨b,hb⟩:=t.g2 d hd;have e1:aO s D d/g d=a:=by rw[ha];exact Vr a ⋯
  have e2:L d d/g d=b:=by rw[hb];exact Vr b ⋯
  have bz:u d*a+v d*b=1:=by
   have:=t.bz d hd;rw[ha,hb,show u d*(g d*a)+v d*(g d*b)=g d*(u d*a+v d*b) by grind] at this;have h2:g d*(u d*a+v d*b)=g d*1:=by lia
   exact V8 ⋯ h2
  have w1:∀i,i<n->∃c,D' d i=u d*D d i+v d*L d i+s i*c:=λi hi=>by
   obtain⟨c,hc⟩:=dN (u d*D d i+v d*L d i) (s i);exact⟨c,by rw[t.qK d hd i hi];lia⟩
  have w2:∀i,i<n->∃c,L (d+1) i=a*L d i+-b*D d i+s i*c:=λi hi=>by
   obtain⟨c,hc⟩:=dN (a*L d i+-b*D d i) (s i);exact⟨c,by rw[t.MW d hd i hi,e1,e2];lia⟩
  constructor
  .intro w h;obtain⟨h1,h2⟩:=h;refine⟨by rw[st];exact Wi (t.g1 d hd) h1,?_⟩;obtain⟨q,hq⟩:=h1;have sp:=(Gd.pos hd).1;have q1:w d/aO s D d=q:=by rw[hq];exact Vr q ⋯
   have q2:w d/aO s D' d=q*a:=by
    rw[st,hq,ha,show g d*a*q=g d*(q*a) by grind];exact Vr _ ⋯
   rw[q2];rw[q1] at h2;refine G.oQ turn ⋯ (λi hi=>?_) (G.add ⋯ (i1 _ h2) (G.mul (q*-(v d)) ⋯ i2));obtain⟨c1,hc1⟩:=w1 i hi;obtain⟨c2,Sr⟩:=w2 i hi;refine⟨q*(v d*c2-a*c1),?_⟩;rw[hc1,Sr];grind
  .refine⟨by rw[st];exact t.g2 d hd,?_⟩;rw[st,e2];refine G.oQ turn ⋯ (λi hi=>?_) (G.mul (u d) ⋯ i2);obtain⟨c1,hc1⟩:=w1 i hi;obtain⟨c2,Sr⟩:=w2 i hi;refine⟨-(b*c1)-u d*c2,?_⟩;rw[hc1,Sr];grind
theorem Tk.good(t:Tk n s D D' L u v g)(Gd:Good n s D):Good n s D' where
 sp:=Gd.sp
 ja:=λd hd i hi=>by
  rw[t.qK d hd i hi];have:=Gd.sp i hi;exact⟨VM _ ⋯,Vy _ this⟩
 qM:=λd hd i hi=>by
  rw[t.qK d hd i ⋯,Gd.qM d hd i hi,t.zero Gd d ⋯ i hi];simp
 dv:=λd hd=>by
  rw[t.step Gd hd];exact Wi (t.g1 d hd) (Gd.dv d hd)
 Ni:=λd k hn=>by
  have hd:d<n:=by lia
  have h1:=(t.main Gd (k+1) d hn).1 _ (Gd.turn (i:=d) 1 hn hd);have h2:=(t.main Gd k (d+1) ⋯).1 _ (Gd.turn (i:=d) 1 ⋯ hd);have h3:=h1.2;have ud:U d (1*s d) d=s d:=by rw[U,if_pos rfl,Yu]
  rw[ud] at h3;refine G.ext ⋯ (λi hi=>?_) (G.add ⋯ h2 (G.mul (-1) ⋯ h3));show U d (1*s d) i+-1*(U d (1*s d) i-s d/aO s D' d*D' d i)=_;lia
end
variable{W:Nat->bR}
variable{i:Nat}
section
variable{D':Nat->bR}
theorem Good.Gb(Gd:Good n s D)(ja:∀d,d<n->∀i,i<n->0<=D' d i/\D' d i<s i)(qM:∀d,d<n->∀i,i<d->D' d i=0)(dv:∀d,d<n->aO s D' d∣s d)(h:∀k d,d+k=n->∀w,G n s D k d w->G n s D' k d w):Good n s D' where
 sp:=Gd.sp
 ja:=ja
 qM:=qM
 dv:=dv
 Ni:=λd k hn=>by
  have hd:d<n:=by lia
  have h1:=h (k+1) d hn _ (Gd.turn (i:=d) 1 hn hd);have h2:=h k (d+1) ⋯ _ (Gd.turn (i:=d) 1 ⋯ hd);have h3:=h1.2;have ud:U d (1*s d) d=s d:=by rw[U,if_pos rfl,Yu]
  rw[ud] at h3;refine G.ext ⋯ (λi hi=>?_) (G.add ⋯ h2 (G.mul (-1) ⋯ h3));show U d (1*s d) i+-1*(U d (1*s d) i-s d/aO s D' d*D' d i)=_;lia
structure Dn (n:Nat) (s:bR) (D:Nat->bR) (f:Nat) (W:Nat->bR):Prop where
 w0:∀i,i<n->0<=W f i/\W f i<s i
 ws:∀d,f<=d->d<n->∀i,i<n->W (d+1) i=(1*W d i+-(W d d/aO s D d)*D d i)%s i
variable{f:Nat}
theorem Dn.kept(h:Dn n s D f W)(Gd:Good n s D):∀d,f<=d->d<=n->∀i,i<n->0<=W d i/\W d i<s i:=by
 intro d hf hd i hi;rcases VT f d with q|q
 .obtain⟨e,rfl⟩:∃e,d=e+1:=⟨d-1,by lia⟩
  rw[h.ws e ⋯ ⋯ i hi];have:=Gd.sp i hi;exact⟨VM _ ⋯,Vy _ this⟩
 .obtain rfl:d=f:=by lia
  exact h.w0 i hi
theorem Dn.ahead(h:Dn n s D f W)(Gd:Good n s D)(hf:f<=d)(hd:d<n)(hi:i<d):W (d+1) i=W d i:=by
 have k:=h.kept Gd d hf ⋯ i ⋯;rw[h.ws d hf hd i ⋯,Gd.qM d hd i hi,W3,Yw,Yu,WC k.1 k.2]
theorem Dn.at_(h:Dn n s D f W)(Gd:Good n s D)(hf:f<=d)(hd:d<n):W (d+1) d=W d d%aO s D d:=by
 have k:=h.kept Gd d hf ⋯ d hd;have p:=Gd.pos hd;rw[h.ws d hf hd d hd];have e:=YT (W d d) (aO s D d);have q0:=VM (W d d) (show aO s D d≠0 by lia);have q1:=Vy (W d d) p.1
 by_cases z:D d d=0
 .have st:aO s D d=s d:=by unfold aO;rw[if_pos z]
  rw[z,st,WC k.1 k.2,W3,Yw,Yu,WC k.1 k.2]
 .have st:aO s D d=D d d:=by unfold aO;rw[if_neg z]
  rw[<- st,show 1*W d d+-(W d d/aO s D d)*aO s D d=W d d%aO s D d by rw[e];grind];exact WC q0 ⋯
theorem Dn.low(h:Dn n s D f W)(Gd:Good n s D):∀d,f<=d->d<=n->∀e,f<=e->e<d->0<=W d e/\W d e<aO s D e:=by
 intro d
 induction d with
 | zero=>intro _ _ e _ he;lia
 | succ d ih =>
  intro hf hd e he hed;rcases VT e d with q|q
  .rw[h.ahead Gd ⋯ ⋯ q];exact ih ⋯ ⋯ e he q
  .obtain rfl:e=d:=by lia
   have p:=Gd.pos (show e<n by lia);rw[h.at_ Gd he ⋯];exact⟨VM _ ⋯,Vy _ p.1⟩
theorem Dn.front(h:Dn n s D f W)(Gd:Good n s D):∀d,f<=d->d<=n->∀i,i<f->W d i=W f i:=by
 intro d
 induction d with
 | zero=>intro h1 _ i hi;lia
 | succ d ih =>
  intro hf hd i hi;rcases VT d f with q|q
  .rw[show d+1=f by lia]
  .rw[h.ahead Gd q ⋯ ⋯];exact ih q ⋯ i hi
theorem Dn.away(h:Dn n s D f W)(Gd:Good n s D):∀d,f<=d->d<=n->∀k,f+k=n->G n s D k f λi=>W f i-W d i:=by
 intro d
 induction d with
 | zero =>
  intro hf _ k hn;obtain rfl:f=0:=by lia
  exact G.ext hn (λi _=>by lia) (G.zero hn)
 | succ d ih =>
  intro hf hd k hn;rcases VT d f with q|q
  .rw[show d+1=f by lia];exact G.ext hn (λi _=>by lia) (G.zero hn)
  .refine Gd.oQ hn (λi hi=>?_) (G.add hn (ih q ⋯ k hn) (G.mul (W d d/aO s D d) hn (Gd.row (show d<n by lia) hn q)));rw[h.ws d q ⋯ i hi];have:=mE (1*W d i+-(W d d/aO s D d)*D d i) (s i);obtain⟨c,hc⟩:=this;exact⟨c,by rw[<- hc];grind⟩
theorem G.small(Gd:Good n s D):∀k d (v:bR),d+k=n->(∀i,i<n->0<=v i/\v i<s i)->(∀i,d<=i->i<n->v i<aO s D i)->G n s D k d v->∀i,i<n->v i=0
 | 0,d,v,hn,h0,_,g,i,hi=>kh (h0 i hi).1 (h0 i hi).2 (g i hi)
 | k+1,d,v,hn,h0,h1,g,i,hi=>by
  have z:v d=0:=kh (h0 d ⋯).1 (h1 d (U9 _) ⋯) g.1;refine G.small Gd k (d+1) v ⋯ h0 (λj hj=>h1 j ⋯) (G.ext ⋯ (λj hj=>?_) g.2) i hi;rw[z];simp
theorem wA(Gd:Good n s D)(W:Nat->Nat->bR)(hW:∀d,d<n->Dn n s D (d+1) (W d))(h0:∀d,d<n->∀i,i<n->W d (d+1) i=D d i)(hD:∀d,d<n->∀i,i<n->D' d i=W d n i):Good n s D'/\(∀d,d<n->aO s D' d=aO s D d)/\(∀d,d<n->∀e,d<e->e<n->D' d e<aO s D e)/\(∀d,d<n->D' d d=0->∀i,i<n->D' d i=0)/\(∀k d,d+k=n->∀w,G n s D k d w->G n s D' k d w):=by
 have dg:∀d,d<n->∀i,i<=d->D' d i=D d i:=λd hd i hi=>by
  rw[hD d hd i ⋯,(hW d hd).front Gd n ⋯ (U9 _) i ⋯,h0 d hd i ⋯]
 have st:∀d,d<n->aO s D' d=aO s D d:=λd hd=>by
  unfold aO;rw[dg d hd d (U9 _)]
 have UR:∀k d,d+k=n->∀w,G n s D k d w->G n s D' k d w:=by
  intro k
  induction k with
  | zero=>intro d _ w h;exact h
  | succ k ih =>
   intro d hn w h;have hd:d<n:=by lia
   refine⟨by rw[st d hd];exact h.1,ih (d+1) ⋯ _ ?_⟩;rw[st d hd];refine G.ext ⋯ (λi hi=>?_) (G.add ⋯ h.2 (G.mul (w d/aO s D d) ⋯ ((hW d hd).away Gd n ⋯ (U9 _) k ⋯)));show w i-w d/aO s D d*D d i+w d/aO s D d*(W d (d+1) i-W d n i)=_;rw[h0 d hd i hi,hD d hd i hi];grind
 have good:Good n s D':=Gd.Gb (λd hd i hi=>by rw[hD d hd i hi];exact(hW d hd).kept Gd n ⋯ (U9 _) i hi) (λd hd i hi=>by rw[dg d hd i ⋯];exact Gd.qM d hd i hi) (λd hd=>by rw[st d hd];exact Gd.dv d hd) UR;have lt:∀d,d<n->∀e,d<e->e<n->D' d e<aO s D e:=λd hd e he hen=>by
  rw[hD d hd e hen];exact((hW d hd).low Gd n ⋯ (U9 _) e ⋯ hen).2
 refine⟨good,st,lt,λd hd z=>?_,UR⟩;have h1:=good.own (d:=d) (k:=n-d-1) ⋯;have h2:=h1.2;refine G.small good (n-d-1) (d+1) (D' d) ⋯ (good.ja d hd) (λi h1 h2=>by rw[st i h2];exact lt d hd i ⋯ h2) (G.ext ⋯ (λi hi=>?_) h2);rw[z];simp
end
def bO:Nat->(Nat->Int)->Int
 | 0,_=>0
 |m+1,f=>bO m f+f m
theorem gc(a b:Int)(f g h:Nat->Int):∀m,(∀l,l<m->h l=a*f l+b*g l)->bO m h=a*bO m f+b*bO m g
 | 0,_=>by simp[bO]
 | m+1,e=>by
  rw[bO,bO,bO,gc a b f g h m λl hl=>e l ⋯,e m ⋯];grind
theorem fc{f g:Nat->Int}:∀{m:Nat},(∀l,l<m->f l=g l)->bO m f=bO m g
 | 0,_=>rfl
 |m+1,e=>by rw[bO,bO,fc λl hl=>e l ⋯,e m ⋯]
theorem gS:∀m,bO m (λ_=>0)=0
 | 0=>rfl
 |m+1=>by rw[bO,gS m];rfl
theorem eG(k:Nat)(a:Int):∀m,k<m->∀f:Nat->Int,(∀l,l<m->f l=if l=k then a else 0)->bO m f=a
 | 0,h,_,_=>by lia
 | m+1,h,f,e=>by
  rw[bO]
  by_cases z:k=m
  .subst z;rw[fc (g:=λ_=>0) λl hl=>by rw[e l ⋯,if_neg ⋯],gS,e k ⋯,if_pos rfl];lia
  .rw[eG k a m ⋯ f λl hl=>e l ⋯,e m ⋯,if_neg ⋯];lia
def Led(n:Nat)(s:bR)(m:Nat)(A:Nat->bR)(v P:bR):Prop:=∀i,i<n->s i∣v i-bO m λl=>P l*A l i
variable{m:Nat}
theorem Led.mix{A:Nat->bR}{w x P Q R:bR}{a:Int}(h1:Led n s m A v P)(h2:Led n s m A w Q)(hx:∀i,i<n->s i∣x i-(a*v i+b*w i))(hR:∀l,l<m->R l=a*P l+b*Q l):Led n s m A x R:=λi hi=>by
 obtain⟨c1,e1⟩:=h1 i hi;obtain⟨c2,e2⟩:=h2 i hi;obtain⟨c3,e3⟩:=hx i hi;rw[gc a b (λl=>P l*A l i) (λl=>Q l*A l i) (λl=>R l*A l i) m λl hl=>by rw[hR l hl];grind];exact⟨a*c1+b*c2+c3,by grind⟩
def aE:Nat->(Nat->Int)->Int
 | 0,_=>1
 |m+1,f=>aE m f*f m
theorem mR{f g h:Nat->Int}:∀{m:Nat},(∀l,l<m->f l=g l*h l)->aE m f=aE m g*aE m h
 | 0,_=>rfl
 |m+1,e=>by rw[aE,aE,aE,mR λl hl=>e l ⋯,e m ⋯];grind
theorem eJ{f g:Nat->Int}:∀{m:Nat},(∀l,l<m->f l=g l)->aE m f=aE m g
 | 0,_=>rfl
 |m+1,e=>by rw[aE,aE,eJ λl hl=>e l ⋯,e m ⋯]
theorem c7{f:Nat->Int}:∀{m:Nat},(∀l,l<m->0<f l)->0<aE m f
 | 0,_=>(by decide:(0:Int)<1)
 |m+1,e=>ada (c7 λl hl=>e l ⋯) (e m ⋯)
def vf(xs:List Int):bR:=λi=>xs.getD i 0
variable{xs:List Int}
def aP(h:i<xs.length):vf xs i=xs[i]:=by
 unfold vf;rw[Va,U4 h];rfl
def xy(h:xs.length<=i):vf xs i=0:=by
 unfold vf;rw[Va,ZD h];rfl
def oj(xs:List Int)(a:Int)(ys:List Int)(b:Int):List Int:=(xs.zip ys).map λz=>a*z.1+b*z.2
def AG(xs PY:List Int):List Int:=(xs.zip PY).map λz=>z.1%z.2
variable{ys:List Int}
def bU{a:Int}:(oj xs a ys b).length=min xs.length ys.length:=by simp[oj]
def iI:(AG xs ys).length=min xs.length ys.length:=by simp[AG]
theorem fu{a:Int}(h1:i<xs.length)(h2:i<ys.length):vf (oj xs a ys b) i=a*vf xs i+b*vf ys i:=by
 rw[aP (by rw[bU];lia),aP h1,aP h2];simp[oj]
theorem jz(h1:i<xs.length)(h2:i<ys.length):vf (AG xs ys) i=vf xs i%vf ys i:=by
 rw[aP (by rw[iI];lia),aP h1,aP h2];simp[AG]
def pq(hl:xs.length=ys.length)(h:∀i,i<xs.length->vf xs i=vf ys i):xs=ys:=by
 refine ac0 hl λi h1 h2=>?_;have:=h i h1
 rwa [aP h1,aP h2] at this
def fF(n:Nat)(i:Nat):vf (U6 n 0) i=0:=by
 rcases VT i n with h|h
 .rw[aP (by simpa using h)];simp
 .rw[xy (by simpa using h)]
def Bd(B:Nat)(xs:List Int):Prop:=∀x∈xs,x.natAbs<2^B
def Bd.mono{B C:Nat}(h:Bd B xs)(hc:B<=C):Bd C xs:=λx hx=>Vo (h x hx) (Wh ↑12 hc)
theorem Bd.vf{B:Nat}{xs:List Int}(h:Bd B xs)(i:Nat):(vf xs i).natAbs<2^B:=by
 rcases VT i xs.length with q|q
 .rw[aP q];exact h _ (Vx q)
 .rw[xy q];exact X9 B
def xZ{a:Int}{A B:Nat}(ha:a.natAbs<2^A)(hb:b.natAbs<2^B):(a*b).natAbs<2^(A+B):=by
 rw[XU,abX];have h0:0<2^A:=X9 A;have h1:0<2^B:=X9 B;exact Nat.mul_lt_mul_of_lt_of_le ha (X_ hb) h1
theorem JI{a:Int}{A:Nat}(ha:a.natAbs<2^A)(hb:b.natAbs<2^A):(a+b).natAbs<2^(A+1):=by
 rw[abp];lia
def Bd.mix{A B:Nat}{a:Int}(hx:Bd B xs)(hy:Bd B ys)(ha:a.natAbs<2^A)(hb:b.natAbs<2^A):Bd (A+B+1) (oj xs a ys b):=by
 intro z hz;obtain⟨w,hw,rfl⟩:=VH.mp hz;have:=WL (a:=w.1) (b:=w.2) hw;exact JI (xZ ha (hx _ this.1)) (xZ hb (hy _ this.2))
abbrev Row:=List Int×List Int
def row(rows:List Row)(d:Nat):Row:=rows.getD d ([],[])
def DD(rows:List Row):Nat->bR:=λd=>vf (row rows d).1
def PP(rows:List Row):Nat->bR:=λd=>vf (row rows d).2
structure Wf (n m:Nat) (rows:List Row):Prop where
 len:rows.length=n
 l1:∀r∈rows,r.1.length=n
 l2:∀r∈rows,r.2.length=m
variable{rows:List Row}
def fE(h:d<rows.length):row rows d=rows[d]:=by
 unfold row;rw[Va,U4 h];rfl
def Wf.lV(w:Wf n m rows)(h:d<n):(row rows d).1.length=n:=by
 rw[fE (by rwa[w.len])];exact w.l1 _ (Vx _)
def Wf.at2(w:Wf n m rows)(h:d<n):(row rows d).2.length=m:=by
 rw[fE (by rwa[w.len])];exact w.l2 _ (Vx _)
def qL(PY:List Int)(r:Row)(a:Int)(q:Row)(b:Int):Row:=(AG (oj r.1 a q.1 b) PY,oj r.2 a q.2 b)
def aA(c:Int->Int->Int×Int)(PY:List Int)(rows:List Row)(left:Row):Nat->Row
 | 0=>left
 | d+1 =>
  let l:=aA c PY rows left d
  let st:=aO (vf PY) (DD rows) d
  let nt:=vf l.1 d
  qL PY l (st/(VG st nt:Nat)) (row rows d) (-(nt/(VG st nt:Nat)))
def ee(c:Int->Int->Int×Int)(PY:List Int)(rows:List Row)(left:Row)(d:Nat):Row :=
 let l:=aA c PY rows left d
 let st:=aO (vf PY) (DD rows) d
 let nt:=vf l.1 d
 qL PY (row rows d) (c st nt).1 l (c st nt).2
def cC(c:Int->Int->Int×Int)(PY:List Int)(rows:List Row)(left:Row)(n:Nat):List Row:=(Ve n).map (ee c PY rows left)
variable{left:Row}{PY:List Int}{c:Int->Int->Int×Int}
theorem cY(w:Wf n m rows)(hs:PY.length=n)(h1:left.1.length=n)(h2:left.2.length=m):∀d,d<=n->(aA c PY rows left d).1.length=n/\(aA c PY rows left d).2.length=m
 | 0,_=>⟨h1,h2⟩
 | d+1,hd=>by
  obtain⟨i1,i2⟩:=cY w hs h1 h2 d ⋯;have e1:=w.lV (d:=d) ⋯;have e2:=w.at2 (d:=d) ⋯;simp only[aA,qL];rw[iI,bU,bU];exact⟨by lia,by lia⟩
def j7(h:d<n):row (cC c PY rows left n) d=ee c PY rows left d:=by
 rw[fE (by simp[cC,h])];simp[cC]
theorem CO(w:Wf n m rows)(hs:PY.length=n)(h1:left.1.length=n)(h2:left.2.length=m):Wf n m (cC c PY rows left n):=by
 have key:∀d,d<n->(ee c PY rows left d).1.length=n/\(ee c PY rows left d).2.length=m:=λd hd=>by
  obtain⟨i1,i2⟩:=cY (c:=c) w hs h1 h2 d ⋯;have e1:=w.lV (d:=d) hd;have e2:=w.at2 (d:=d) hd;simp only[ee,qL];rw[iI,bU,bU];exact⟨by lia,by lia⟩
 refine⟨by simp[cC],λr hr=>?_,λr hr=>?_⟩
 .obtain⟨d,hd,rfl⟩:=VH.mp hr;exact(key d (V9.mp hd)).1
 .obtain⟨d,hd,rfl⟩:=VH.mp hr;exact(key d (V9.mp hd)).2
theorem gB{a:Int}(h:0<a):0<(VG a b:Int):=by
 have:=Int.gcd_pos_of_ne_zero_left b (show a≠0 by lia);lia
theorem ME(w:Wf n m rows)(hs:PY.length=n)(h1:left.1.length=n)(h2:left.2.length=m)(Gd:Good n (vf PY) (DD rows))(h0:∀i,i<n->0<=vf left.1 i/\vf left.1 i<vf PY i)(hc:∀d,d<n->(c (aO (vf PY) (DD rows) d) (vf (aA c PY rows left d).1 d)).1*aO (vf PY) (DD rows) d+(c (aO (vf PY) (DD rows) d) (vf (aA c PY rows left d).1 d)).2*vf (aA c PY rows left d).1 d=(VG (aO (vf PY) (DD rows) d) (vf (aA c PY rows left d).1 d):Nat)):Tk n (vf PY) (DD rows) (DD (cC c PY rows left n)) (λd=>vf (aA c PY rows left d).1) (λd=>(c (aO (vf PY) (DD rows) d) (vf (aA c PY rows left d).1 d)).1) (λd=>(c (aO (vf PY) (DD rows) d) (vf (aA c PY rows left d).1 d)).2) (λd=>(VG (aO (vf PY) (DD rows) d) (vf (aA c PY rows left d).1 d):Nat)) where
 gp:=λd hd=>gB (Gd.pos hd).1
 bz:=hc
 g1:=λd hd=>XN ..
 g2:=λd hd=>acK ..
 qK:=λd hd i hi=>by
  obtain⟨i1,i2⟩:=cY (c:=c) w hs h1 h2 d ⋯;have e1:=w.lV (d:=d) hd;show vf (row (cC c PY rows left n) d).1 i=_;rw[j7 hd];simp only[ee,qL];rw[jz (by rw[bU];lia) ⋯,fu ⋯ ⋯];rfl
 MW:=λd hd i hi=>by
  obtain⟨i1,i2⟩:=cY (c:=c) w hs h1 h2 d ⋯;have e1:=w.lV (d:=d) hd;simp only[aA,qL];rw[jz (by rw[bU];lia) ⋯,fu ⋯ ⋯];rfl
 l0:=h0
section
variable{A:Nat->bR}
def CB(c:Int->Int->Int×Int):Prop:=∀a b:Int,0<a->a<=360->0<=b->b<=360->(c a b).1*a+(c a b).2*b=(VG a b:Nat)/\(c a b).1.natAbs<2^20/\(c a b).2.natAbs<2^20
theorem jL{a:Int}(h:0<a)(h2:a<=360):0<a/(VG a b:Nat)/\a/(VG a b:Nat)<=360:=by
 have g:=gB (b:=b) h;obtain⟨q,hq⟩:((VG a b:Nat):Int)∣a:=XN ..;have e:a/(VG a b:Nat)=q:=by
  have:((VG a b:Nat):Int)≠0:=by lia
  exact Int.ediv_eq_of_eq_mul_right this hq
 rw[e];have q0:0<q:=by
  rcases abm 0 q with z|z
  .exact z
  .have:=Zb (Zy g) z;lia
 refine⟨q0,?_⟩;have:1*q<=(VG a b:Nat)*q:=Xo ⋯ ⋯;lia
theorem ly{a:Int}(h:0<a)(h1:0<=b)(h2:b<=360):0<=b/(VG a b:Nat)/\b/(VG a b:Nat)<=360:=by
 have g:=gB (b:=b) h;exact⟨Xg h1 ⋯,abq (YU _ h1) h2⟩
def Zf(k m:Nat)(P:bR):Prop:=∀l,k<=l->l<m->P l=0
structure St (n m:Nat) (PY:List Int) (A:Nat->bR) (k:Nat) (rows:List Row):Prop where
 wf:Wf n m rows
 hs:PY.length=n
 sm:∀i,i<n->vf PY i<=360
 gd:Good n (vf PY) (DD rows)
 led:∀d,d<n->Led n (vf PY) m A (DD rows d) (PP rows d)
 zf:∀d,d<n->Zf k m (PP rows d)
 bd:∀d,d<n->Bd (150*k+1) (row rows d).2
 cl:∀l,l<k->G n (vf PY) (DD rows) n 0 (A l)
structure Lv (n m:Nat) (PY:List Int) (A:Nat->bR) (k:Nat) (left:Row):Prop where
 l1:left.1.length=n
 l2:left.2.length=m
 km:k<m
 at_:∀i,i<n->vf left.1 i=A k i
 ja:∀i,i<n->0<=A k i/\A k i<vf PY i
 un:∀l,l<m->vf left.2 l=if l=k then 1 else 0
theorem j8(h:St n m PY A k rows)(L:Lv n m PY A k left):∀d,d<=n->∀i,i<n->0<=vf (aA c PY rows left d).1 i/\vf (aA c PY rows left d).1 i<vf PY i
 | 0,_,i,hi=>by show 0<=vf left.1 i/\vf left.1 i<vf PY i;rw[L.at_ i hi];exact L.ja i hi
 | d+1,hd,i,hi=>by
  obtain⟨i1,i2⟩:=cY (c:=c) h.wf h.hs L.l1 L.l2 d ⋯;have e1:=h.wf.lV (d:=d) ⋯;have hs:=h.hs;simp only[aA,qL];rw[jz (by rw[bU];lia) ⋯];have:=h.gd.sp i hi;exact⟨VM _ ⋯,Vy _ this⟩
theorem St.tk(h:St n m PY A k rows)(L:Lv n m PY A k left)(cb:CB c):Tk n (vf PY) (DD rows) (DD (cC c PY rows left n)) (λd=>vf (aA c PY rows left d).1) (λd=>(c (aO (vf PY) (DD rows) d) (vf (aA c PY rows left d).1 d)).1) (λd=>(c (aO (vf PY) (DD rows) d) (vf (aA c PY rows left d).1 d)).2) (λd=>(VG (aO (vf PY) (DD rows) d) (vf (aA c PY rows left d).1 d):Nat)) :=
 ME h.wf h.hs L.l1 L.l2 h.gd (λi hi=>by rw[L.at_ i hi];exact L.ja i hi) λd hd=>by
  have p:=h.gd.pos hd;have q:=j8 (c:=c) h L d ⋯ d hd;have s:=h.sm d hd;exact(cb _ _ p.1 ⋯ q.1 ⋯).1
theorem pL(h:St n m PY A k rows)(L:Lv n m PY A k left):∀d,d<=n->Led n (vf PY) m A (vf (aA c PY rows left d).1) (vf (aA c PY rows left d).2)
 | 0,_=>λi hi=>by
  show vf PY i∣vf left.1 i-bO m λl=>vf left.2 l*A l i;rw[L.at_ i hi,eG k (A k i) m L.km (λl=>vf left.2 l*A l i) λl hl=>by
   rw[L.un l hl]
   by_cases z:l=k
   .subst z;rw[if_pos rfl,if_pos rfl,Yu]
   .rw[if_neg z,if_neg z,abr]]
  rw[acJ];exact Wv _
 | d+1,hd=>by
  obtain⟨i1,i2⟩:=cY (c:=c) h.wf h.hs L.l1 L.l2 d ⋯;have e1:=h.wf.lV (d:=d) ⋯;have e2:=h.wf.at2 (d:=d) ⋯;have hs:=h.hs;refine Led.mix (a:=aO (vf PY) (DD rows) d/(VG (aO (vf PY) (DD rows) d) (vf (aA c PY rows left d).1 d):Nat)) (b:=-(vf (aA c PY rows left d).1 d/(VG (aO (vf PY) (DD rows) d) (vf (aA c PY rows left d).1 d):Nat))) (pL h L d ⋯) (h.led d ⋯) (λi hi=>?_) λl hl=>?_
  .simp only[aA,qL];rw[jz (by rw[bU];lia) ⋯,fu ⋯ ⋯];exact dN _ _
  .simp only[aA,qL];rw[fu ⋯ ⋯];rfl
theorem uL(h:St n m PY A k rows)(L:Lv n m PY A k left):∀d,d<=n->Zf (k+1) m (vf (aA c PY rows left d).2)/\vf (aA c PY rows left d).2 k=aE d λe=>aO (vf PY) (DD rows) e/(VG (aO (vf PY) (DD rows) e) (vf (aA c PY rows left e).1 e):Nat)
 | 0,_=>⟨λl h1 h2=>by show vf left.2 l=0;rw[L.un l h2,if_neg ⋯],by show vf left.2 k=1;rw[L.un k L.km,if_pos rfl]⟩
 | d+1,hd=>by
  obtain⟨i1,i2⟩:=cY (c:=c) h.wf h.hs L.l1 L.l2 d ⋯;have e2:=h.wf.at2 (d:=d) ⋯;obtain⟨j1,j2⟩:=uL h L d ⋯;have z:=h.zf d ⋯;have km:=L.km;constructor
  .intro l h1 h2;simp only[aA,qL];rw[fu ⋯ ⋯,j1 l h1 h2,show vf (row rows d).2 l=0 from z l ⋯ h2];simp
  .rw[aE,<- j2];simp only[aA,qL];rw[fu ⋯ ⋯,show vf (row rows d).2 k=0 from z k (U9 _) km]
   grind
theorem oA(h:St n m PY A k rows)(L:Lv n m PY A k left)(hn:n<=6):∀d,d<=n->Bd (150*k+1+11*d) (aA c PY rows left d).2
 | 0,_=>λx hx=>by
  have hx:x∈left.2:=hx;obtain⟨i,hi,rfl⟩:=Vh.mp hx;have hm:i<m:=by rwa[<- L.l2]
  have e:=L.un i hm;rw[aP hi] at e;show (left.2[i]).natAbs<_;rw[e];have:2^1<=2^(150*k+1+11*0):=Wh ↑12 ⋯;refine Vo ?_ this
  split
  .decide
  .decide
 | d+1,hd=>by
  have p:=h.gd.pos (show d<n by lia);have s:=h.sm d ⋯;have q:=j8 (c:=c) h L d ⋯ d ⋯;have a1:=jL (b:=vf (aA c PY rows left d).1 d) p.1 ⋯;have a2:=ly (b:=vf (aA c PY rows left d).1 d) p.1 q.1 ⋯;have:=Bd.mix (A:=9+1) (oA h L hn d ⋯) ((h.bd d ⋯).mono (show 150*k+1<=150*k+1+11*d by lia)) (a:=aO (vf PY) (DD rows) d/(VG (aO (vf PY) (DD rows) d) (vf (aA c PY rows left d).1 d):Nat)) (b:=-(vf (aA c PY rows left d).1 d/(VG (aO (vf PY) (DD rows) d) (vf (aA c PY rows left d).1 d):Nat))) ⋯ ⋯;exact this.mono ⋯
theorem St.next(h:St n m PY A k rows)(L:Lv n m PY A k left)(cb:CB c)(hn:n<=6):St n m PY A (k+1) (cC c PY rows left n):=by
 have T:=h.tk L cb;have hs:=h.hs;refine⟨CO h.wf h.hs L.l1 L.l2,h.hs,h.sm,T.good h.gd,λd hd=>?_,λd hd=>?_,λd hd=>?_,λl hl=>?_⟩
 .obtain⟨i1,i2⟩:=cY (c:=c) h.wf h.hs L.l1 L.l2 d ⋯;have e1:=h.wf.lV (d:=d) hd;have e2:=h.wf.at2 (d:=d) hd;unfold DD PP;rw[j7 hd];refine Led.mix (a:=(c (aO (vf PY) (DD rows) d) (vf (aA c PY rows left d).1 d)).1) (b:=(c (aO (vf PY) (DD rows) d) (vf (aA c PY rows left d).1 d)).2) (h.led d hd) (pL (c:=c) h L d ⋯) (λi hi=>?_) λl hl=>?_
  .simp only[ee,qL];rw[jz (by rw[bU];lia) ⋯,fu ⋯ ⋯];exact dN _ _
  .simp only[ee,qL];rw[fu ⋯ ⋯];rfl
 .obtain⟨i1,i2⟩:=cY (c:=c) h.wf h.hs L.l1 L.l2 d ⋯;have e2:=h.wf.at2 (d:=d) hd;intro l h1 h2;unfold PP;rw[j7 hd];simp only[ee,qL];rw[fu ⋯ ⋯,(uL (c:=c) h L d ⋯).1 l h1 h2,show vf (row rows d).2 l=0 from h.zf d hd l ⋯ h2];simp
 .rw[j7 hd];have p:=h.gd.pos hd;have s:=h.sm d hd;have q:=j8 (c:=c) h L d ⋯ d hd;have b:=cb (aO (vf PY) (DD rows) d) (vf (aA c PY rows left d).1 d) p.1 ⋯ q.1 ⋯;have:=Bd.mix (A:=20) ((h.bd d hd).mono (show 150*k+1<=150*k+1+11*d by lia)) (oA (c:=c) h L hn d ⋯) b.2.1 b.2.2;exact this.mono ⋯
 .rcases VT l k with q|q
  .exact(T.main h.gd n 0 ⋯).1 _ (h.cl l q)
  .obtain rfl:l=k:=by lia
   exact G.ext ⋯ (λi hi=>L.at_ i hi) (T.main h.gd n 0 ⋯).2
end
def aY(P1:List (List Int))(k:Nat)(P:List Int):Nat->List Int
 | 0=>P
 | c+1 =>
  let z:=aY P1 k P c
  let r:=P1.getD (k-1-c) []
  oj z 1 r (-(vf z (k-1-c)/vf r (k-1-c)))
def II(P1:List (List Int)):Nat->bR:=λj=>vf (P1.getD j [])
structure Bb (n m:Nat) (s:bR) (A:Nat->bR) (k:Nat) (P1:List (List Int)):Prop where
 len:P1.length=k
 l2:∀j,j<k->(P1.getD j []).length=m
 pos:∀j,j<k->0<II P1 j j
 le:∀j,j<k->II P1 j j<2^60
 zero:∀j,j<k->∀l,j<l->l<m->II P1 j l=0
 nf:∀j,j<k->∀l,l<j->0<=II P1 j l/\II P1 j l<II P1 l l
 rM:∀j,j<k->Led n s m A (λ_=>0) (II P1 j)
variable{P1:List (List Int)}
variable{j:Nat}
section
variable{A:Nat->bR}{P:List Int}
theorem Bb.bd(h:Bb n m s A k P1)(hj:j<k)(hm:k<=m):Bd 60 (P1.getD j []):=λx hx=>by
 obtain⟨l,hl,rfl⟩:=Vh.mp hx;rw[h.l2 j hj] at hl;have e:II P1 j l=(P1.getD j [])[l]'(by rwa[h.l2 j hj]):=aP _;rw[<- e];rcases VT l j with q|q
 .have h1:=h.nf j hj l q;have h2:=h.le l ⋯;lia
 .rcases VT j l with q2|q2
  .rw[h.zero j hj l q2 hl];exact X9 _
  .obtain rfl:l=j:=by lia
   have h1:=h.pos l hj;have h2:=h.le l hj;lia
theorem span_len(h:Bb n m s A k P1)(hP:P.length=m):∀c,c<=k->(aY P1 k P c).length=m
 | 0,_=>hP
 | c+1,hc=>by
  simp only[aY];rw[bU,span_len h hP c ⋯,h.l2 _ ⋯];lia
theorem oF(h:Bb n m s A k P1)(hP:P.length=m){c l:Nat}(hc:c<k)(hl:l<m):vf (aY P1 k P (c+1)) l=vf (aY P1 k P c) l-vf (aY P1 k P c) (k-1-c)/II P1 (k-1-c) (k-1-c)*II P1 (k-1-c) l:=by
 simp only[aY];rw[fu (by rwa[span_len h hP c ⋯]) (by rwa[h.l2 _ ⋯])];unfold II
 grind
theorem wG(h:Bb n m s A k P1)(hP:P.length=m):∀c,c<=k->∀l,k<=l->l<m->vf (aY P1 k P c) l=vf P l
 | 0,_,_,_,_=>rfl
 | c+1,hc,l,h1,h2=>by
  rw[oF h hP ⋯ h2,h.zero _ ⋯ l ⋯ h2,wG h hP c ⋯ l h1 h2];simp
theorem y9(h:Bb n m s A k P1)(hP:P.length=m)(hm:k<=m):∀c,c<=k->∀l,k-c<=l->l<k->0<=vf (aY P1 k P c) l/\vf (aY P1 k P c) l<II P1 l l
 | 0,_,l,h1,h2=>by lia
 | c+1,hc,l,h1,h2=>by
  rw[oF h hP ⋯ ⋯];rcases VT (k-1-c) l with q|q
  .rw[h.zero _ ⋯ l q ⋯,W3,Zw];exact y9 h hP hm c ⋯ l ⋯ h2
  .obtain rfl:l=k-1-c:=by lia
   have p:=h.pos (k-1-c) ⋯;have e:=YT (vf (aY P1 k P c) (k-1-c)) (II P1 (k-1-c) (k-1-c));rw[W2 (vf (aY P1 k P c) (k-1-c)/_),<- e];exact⟨VM _ ⋯,Vy _ p⟩
theorem vV(h:Bb n m s A k P1)(hP:P.length=m){v:bR}(hv:Led n s m A v (vf P)):∀c,c<=k->Led n s m A v (vf (aY P1 k P c))
 | 0,_=>hv
 | c+1,hc=>by
  refine Led.mix (a:=1) (b:=-(vf (aY P1 k P c) (k-1-c)/II P1 (k-1-c) (k-1-c))) (vV h hP hv c ⋯) (h.rM (k-1-c) ⋯) (λi hi=>?_) λl hl=>?_
  .rw[W3,Yw,Yu,acJ];exact Wv _
  .rw[oF h hP ⋯ hl];grind
theorem yJ(h:Bb n m s A k P1)(hP:P.length=m)(hm:k<=m){B:Nat}(hB:60<=B)(hb:Bd B P):∀c,c<=k->Bd (B+62*c) (aY P1 k P c)
 | 0,_=>hb
 | c+1,hc=>by
  have ih:=yJ h hP hm hB hb c ⋯;intro x hx;obtain⟨l,hl,rfl⟩:=Vh.mp hx;rw[span_len h hP (c+1) hc] at hl;rw[<- aP,oF h hP ⋯ hl];have p:=h.pos (k-1-c) ⋯;have q1:(vf (aY P1 k P c) (k-1-c)/II P1 (k-1-c) (k-1-c)).natAbs<2^(B+62*c+1):=by
   have h1:=ih.vf (k-1-c);have h2:=aaA (vf (aY P1 k P c) (k-1-c)) (II P1 (k-1-c) (k-1-c));rw[abp];lia
  have q2:(II P1 (k-1-c) l).natAbs<2^60:=(h.bd (j:=k-1-c) ⋯ hm).vf l;have q3:=xZ q1 q2;have q4:=ih.vf l;have q5:2^(B+62*c)<=2^(B+62*c+1+60):=Wh ↑12 ⋯;have q6:(2:Nat)^(B+62*(c+1))=2^(B+62*c+1+60)*2:=by rw[<- abp];congr 1
  rw[q6];lia
end
section
variable{A:Nat->bR}
theorem Tk.order{s:bR}{D D' L:Nat->bR}{u v g:Nat->Int}(t:Tk n s D D' L u v g)(Gd:Good n s D):∀(k d:Nat)(x:Int),d+k=n->G n s D k d (λi=>x*L d i)->aE n (λe=>aO s D e/g e)∣x*aE d (λe=>aO s D e/g e)
 | 0,d,x,hn,h=>by
  obtain rfl:d=n:=by lia
  exact WQ _ _
 | k+1,d,x,hn,h=>by
  have hd:d<n:=by lia
  obtain⟨a,ha⟩:=t.g1 d hd;obtain⟨b,hb⟩:=t.g2 d hd;have gp:=t.gp d hd;have sp:=(Gd.pos hd).1;have e1:aO s D d/g d=a:=by rw[ha];exact Vr a ⋯
  have e2:L d d/g d=b:=by rw[hb];exact Vr b ⋯
  have bz:u d*a+v d*b=1:=by
   have:=t.bz d hd;rw[ha,hb,show u d*(g d*a)+v d*(g d*b)=g d*(u d*a+v d*b) by grind] at this;have h2:g d*(u d*a+v d*b)=g d*1:=by lia
   exact V8 ⋯ h2
  obtain⟨q,hq⟩:=h.1;have hax:a∣x:=by
   have h3:g d*(x*b)=g d*(a*q):=by
    have:x*L d d=aO s D d*q:=hq;rw[hb,ha] at this;grind
   have h4:x*b=a*q:=V8 ⋯ h3;exact⟨u d*x+v d*q,by
    have:x=x*(u d*a+v d*b):=by rw[bz,ac2]
    rw[this];have:x*(u d*a+v d*b)=a*(u d*x)+v d*(x*b):=by grind
    rw[this,h4];grind⟩
  obtain⟨y,hy⟩:=hax;have QJ:q=b*y:=by
   have h3:g d*(a*q)=g d*(a*(b*y)):=by
    have:x*L d d=aO s D d*q:=hq;rw[hb,ha,hy] at this;grind
   have ap:a≠0:=by intro z;rw[z,W3] at ha;lia
   exact V8 ap (V8 ⋯ h3)
  have h2:=h.2;have q1:x*L d d/aO s D d=q:=by
   show x*L d d/aO s D d=q;rw[show x*L d d=aO s D d*q from hq];exact Vr q ⋯
  have:=t.order Gd k (d+1) y ⋯ (Gd.oQ ⋯ (λi hi=>?_) h2)
  .rw[aE,e1] at this;rw[hy,show a*y*aE d (λe=>aO s D e/g e)=y*(aE d (λe=>aO s D e/g e)*a) by grind];exact this
  .show s i∣y*L (d+1) i-(x*L d i-x*L d d/aO s D d*D d i);rw[q1,t.MW d hd i hi,e1,e2];obtain⟨z,hz⟩:=dN (a*L d i+-b*D d i) (s i);refine⟨y*z,?_⟩;have:(a*L d i+-b*D d i)%s i=a*L d i+-b*D d i+s i*z:=by lia
   rw[this,hy,QJ];grind
theorem G.sum(Gd:Good n (vf PY) (DD rows)){P:bR}:∀k',(∀l,l<k'->G n (vf PY) (DD rows) n 0 (A l))->G n (vf PY) (DD rows) n 0 (λi=>bO k' λl=>P l*A l i)
 | 0,_=>G.zero ⋯
 |k'+1,h=>G.ext ⋯ (λi _=>rfl) (G.add ⋯ (G.sum Gd k' λl hl=>h l ⋯) (G.mul (P k') ⋯ (h k' ⋯)))
end
def ni(m k:Nat):List Int:=(Ve m).map λl=>if l=k then 1 else 0
def wF{l:Nat}(h:l<m):vf (ni m k) l=if l=k then 1 else 0:=by
 rw[aP (by simp[ni,h])];simp[ni]
def AA(Ls:List (List Int)):Nat->bR:=λl=>vf (Ls.getD l [])
def bP(Ls:List (List Int))(m k:Nat):Row:=(Ls.getD k [],ni m k)
def RK(c:Int->Int->Int×Int)(PY:List Int)(Ls:List (List Int))(n m:Nat):Nat->List Row×List (List Int)
 | 0=>(U6 n (U6 n 0,U6 m 0),[])
 | k+1 =>
  (cC c PY (RK c PY Ls n m k).1 (bP Ls m k) n,(RK c PY Ls n m k).2++[aY (RK c PY Ls n m k).2 k (aA c PY (RK c PY Ls n m k).1 (bP Ls m k) n).2 k])
structure Nj (n m:Nat) (PY:List Int) (Ls:List (List Int)):Prop where
 len:Ls.length=m
 at_:∀l,l<m->(Ls.getD l []).length=n
 ja:∀l,l<m->∀i,i<n->0<=AA Ls l i/\AA Ls l i<vf PY i
structure Bv (n m:Nat) (PY:List Int) (Ls:List (List Int)) (k:Nat) (r:List Row×List (List Int)):Prop where
 st:St n m PY (AA Ls) k r.1
 rM:Bb n m (vf PY) (AA Ls) k r.2
 pr:aE k (λj=>II r.2 j j)*aE n (aO (vf PY) (DD r.1))=aE n (vf PY)
 ord:∀j,j<k->∀P:bR,Zf (j+1) m P->Led n (vf PY) m (AA Ls) (λ_=>0) P->II r.2 j j∣P j
variable{x:List Int}
section
variable{Ls:List (List Int)}
def iw(h:j<P1.length):II (P1++[x]) j=II P1 j:=by
 unfold II;rw[Va,VZ h,<- Va]
def jR:II (P1++[x]) P1.length=vf x:=by
 unfold II;rw[Va,VL (U9 _)];simp
def Ck(h:j<P1.length):(P1++[x]).getD j []=P1.getD j []:=by
 rw[Va,VZ h,<- Va]
def Dx:(P1++[x]).getD P1.length []=x:=by
 rw[Va,VL (U9 _)];simp
theorem pU{f:Nat->Int}{k:Nat}:∀{m:Nat},k<m->(∀l,k<l->l<m->f l=0)->bO m f=bO k f+f k
 | 0,h,_=>by lia
 | m+1,h,e=>by
  rw[bO]
  by_cases z:k=m
  .subst z;rfl
  .rw[pU (m:=m) ⋯ λl h1 h2=>e l h1 ⋯,e m ⋯ ⋯];lia
theorem vF:∀{n:Nat}{f:Nat->Int},(∀i,i<n->0<f i/\f i<=360)->aE n f<=360^n
 | 0,f,_=>by simp[aE]
 | n+1,f,h=>by
  rw[aE,Int.pow_succ];exact Int.mul_le_mul (vF λi hi=>h i ⋯) (h n ⋯).2 (by have:=(h n ⋯).1;lia) (Int.pow_nonneg ↑12)
theorem Oq(h:n<=6):(360:Int)^n<=360^6:=by
 have:n=0\/n=1\/n=2\/n=3\/n=4\/n=5\/n=6:=by lia
 rcases this with rfl|rfl|rfl|rfl|rfl|rfl|rfl<;>decide
theorem Bv.next{r:List Row×List (List Int)}(h:Bv n m PY Ls k r)(LL:Nj n m PY Ls)(cb:CB c)(hn:n<=6)(hk:k<m):Bv n m PY Ls (k+1) (cC c PY r.1 (bP Ls m k) n,r.2++[aY r.2 k (aA c PY r.1 (bP Ls m k) n).2 k]):=by
 have L:Lv n m PY (AA Ls) k (bP Ls m k):=⟨LL.at_ k hk,by simp[bP,ni],hk,λi hi=>rfl,LL.ja k hk,λl hl=>wF hl⟩
 have T:=h.st.tk L cb;have ll:=cY (c:=c) h.st.wf h.st.hs L.l1 L.l2 n (U9 _);have zf:=uL (c:=c) h.st L n (U9 _);have led:=pL (c:=c) h.st L n (U9 _);have l0:=T.zero h.st.gd n (U9 _);have il:r.2.length=k:=h.rM.len;have out:=wG h.rM ll.2 k (U9 _);have jk:vf (aY r.2 k (aA c PY r.1 (bP Ls m k) n).2 k) k=aE n λe=>aO (vf PY) (DD r.1) e/(VG (aO (vf PY) (DD r.1) e) (vf (aA c PY r.1 (bP Ls m k) e).1 e):Nat):=by
  rw[out k (U9 _) hk];exact zf.2
 have pos:∀e,e<n->0<aO (vf PY) (DD r.1) e/(VG (aO (vf PY) (DD r.1) e) (vf (aA c PY r.1 (bP Ls m k) e).1 e):Nat):=λe he=>by
  have p:=h.st.gd.pos he;have s:=h.st.sm e he;exact(jL p.1 ⋯).1
 have pr:aE (k+1) (λj=>II (r.2++[aY r.2 k (aA c PY r.1 (bP Ls m k) n).2 k]) j j)*aE n (aO (vf PY) (DD (cC c PY r.1 (bP Ls m k) n)))=aE n (vf PY):=by
  rw[aE,show II (r.2++[aY r.2 k (aA c PY r.1 (bP Ls m k) n).2 k]) k=vf (aY r.2 k (aA c PY r.1 (bP Ls m k) n).2 k) by rw[<- il];exact jR];rw[eJ (g:=λj=>II r.2 j j) λj hj=>by rw[iw ⋯],<- h.pr,jk];rw[eJ (g:=λd=>((VG (aO (vf PY) (DD r.1) d) (vf (aA c PY r.1 (bP Ls m k) d).1 d):Nat):Int)) λd hd=>T.step h.st.gd hd];rw[mR (f:=aO (vf PY) (DD r.1)) (g:=λd=>((VG (aO (vf PY) (DD r.1) d) (vf (aA c PY r.1 (bP Ls m k) d).1 d):Nat):Int)) (h:=λe=>aO (vf PY) (DD r.1) e/(VG (aO (vf PY) (DD r.1) e) (vf (aA c PY r.1 (bP Ls m k) e).1 e):Nat)) λd hd=>(Int.mul_ediv_cancel' (XN ..)).symm]
  grind
 have jpos:0<vf (aY r.2 k (aA c PY r.1 (bP Ls m k) n).2 k) k:=by rw[jk];exact c7 pos
 have St':=h.st.next L cb hn;have jle:vf (aY r.2 k (aA c PY r.1 (bP Ls m k) n).2 k) k<2^60:=by
  have b:aE n (vf PY)<=360^n:=vF λi hi=>⟨h.st.gd.sp i hi,h.st.sm i hi⟩
  have b2:(360:Int)^n<=360^6:=Oq hn;have b3:(360:Int)^6<2^60:=by decide
  rw[aE,show II (r.2++[aY r.2 k (aA c PY r.1 (bP Ls m k) n).2 k]) k=vf (aY r.2 k (aA c PY r.1 (bP Ls m k) n).2 k) by rw[<- il];exact jR] at pr;have p1:0<aE k (λj=>II (r.2++[aY r.2 k (aA c PY r.1 (bP Ls m k) n).2 k]) j j):=c7 λj hj=>by rw[iw ⋯];exact h.rM.pos j hj
  have p2:0<aE n (aO (vf PY) (DD (cC c PY r.1 (bP Ls m k) n))):=c7 λd hd=>(St'.gd.pos hd).1;generalize aE k (λj=>II (r.2++[aY r.2 k (aA c PY r.1 (bP Ls m k) n).2 k]) j j)=a at *;generalize aE n (aO (vf PY) (DD (cC c PY r.1 (bP Ls m k) n)))=b' at *;generalize vf (aY r.2 k (aA c PY r.1 (bP Ls m k) n).2 k) k=x at *;have e1:1*x<=a*x:=Xo ⋯ ⋯;have e2:a*x*1<=a*x*b':=VA ⋯ ⋯;lia
 refine⟨St',⟨by simp[il],λj hj=>?_,λj hj=>?_,λj hj=>?_,λj hj l h1 h2=>?_,λj hj l hl=>?_,λj hj=>?_⟩,pr,λj hj P hz hP=>?_⟩
 all_goals
  rcases VT j k with q|q
 .rw[Ck ⋯];exact h.rM.l2 j q
 .obtain rfl:j=r.2.length:=by lia
  rw[Dx];exact span_len h.rM ll.2 k (U9 _)
 .rw[iw ⋯];exact h.rM.pos j q
 .obtain rfl:j=r.2.length:=by lia
  rwa[jR,il]
 .rw[iw ⋯];exact h.rM.le j q
 .obtain rfl:j=r.2.length:=by lia
  rwa[jR,il]
 .rw[iw ⋯];exact h.rM.zero j q l h1 h2
 .obtain rfl:j=r.2.length:=by lia
  rw[jR,out l ⋯ h2];exact zf.1 l ⋯ h2
 .rw[iw ⋯,iw ⋯];exact h.rM.nf j q l hl
 .obtain rfl:j=r.2.length:=by lia
  rw[jR,iw ⋯];exact y9 h.rM ll.2 ⋯ k (U9 _) l ⋯ ⋯
 .rw[iw ⋯];exact h.rM.rM j q
 .obtain rfl:j=r.2.length:=by lia
  rw[jR];refine vV h.rM ll.2 (λi hi=>?_) k (U9 _);have:=led i hi;rwa[show vf (aA c PY r.1 (bP Ls m k) n).1 i=0 from l0 i hi] at this
 .rw[iw ⋯];exact h.ord j q P hz hP
 .obtain rfl:j=k:=by lia
  rw[show II (r.2++[aY r.2 j (aA c PY r.1 (bP Ls m j) n).2 j]) j=vf (aY r.2 j (aA c PY r.1 (bP Ls m j) n).2 j) by rw[<- il];exact jR,jk];have:=T.order h.st.gd n 0 (P j) ⋯ ?_
  .rwa [aE,ac2] at this
  .refine h.st.gd.oQ ⋯ (λi hi=>?_) (G.mul (-1) ⋯ (G.sum (A:=AA Ls) (P:=P) h.st.gd j h.st.cl));have e:=hP i hi;rw[pU hk λl h1 h2=>by rw[hz l ⋯ h2,abr]] at e;obtain⟨x,hx⟩:=e;have hx:(0:Int)-(bO j (λl=>P l*AA Ls l i)+P j*AA Ls j i)=vf PY i*x:=hx;show vf PY i∣P j*AA Ls j i - -1*bO j λl=>P l*AA Ls l i;exact⟨-x,by rw[abW];lia⟩
theorem Bv.start(hs:PY.length=n)(hp:∀i,i<n->0<vf PY i/\vf PY i<=360):Bv n m PY Ls 0 (U6 n (U6 n 0,U6 m 0),[]):=by
 have rw0:∀d,d<n->row (U6 n (U6 n 0,U6 m 0)) d=(U6 n 0,U6 m 0):=λd hd=>by
  rw[fE (by simpa using hd)];simp
 have D0:∀d,d<n->∀i,DD (U6 n (U6 n 0,U6 m 0)) d i=0:=λd hd i=>by
  unfold DD;rw[rw0 d hd];exact fF n i
 have P0:∀d,d<n->∀i,PP (U6 n (U6 n 0,U6 m 0)) d i=0:=λd hd i=>by
  unfold PP;rw[rw0 d hd];exact fF m i
 have st:∀d,d<n->aO (vf PY) (DD (U6 n (U6 n 0,U6 m 0))) d=vf PY d:=λd hd=>by
  unfold aO;rw[if_pos (D0 d hd d)]
 refine⟨⟨⟨by simp,λr hr=>by rw[Xv hr];simp,λr hr=>by rw[Xv hr];simp⟩,hs,λi hi=>(hp i hi).2,⟨λi hi=>(hp i hi).1,λd hd i hi=>?_,λd hd i hi=>D0 d hd i,λd hd=>by rw[st d hd];exact abo _,λd k hn=>?_⟩,λd hd i hi=>?_,λd hd l _ _=>P0 d hd l,λd hd=>?_,λl hl=>by lia⟩,⟨rfl,λj hj=>by lia,λj hj=>by lia,λj hj=>by lia,λj hj=>by lia,λj hj=>by lia,λj hj=>by lia⟩,?_,λj hj=>by lia⟩
 .rw[D0 d hd i];have:=(hp i hi).1;lia
 .exact G.ext ⋯ (λi hi=>by rw[D0 d ⋯ i,W3]) (G.zero ⋯)
 .rw[D0 d hd i,fc (g:=λ_=>0) λl hl=>by rw[P0 d hd l,abr],gS];exact Wv _
 .rw[rw0 d hd];intro x hx;rw[Xv hx];exact X9 _
 .rw[aE,Yu];exact eJ λd hd=>st d hd
theorem Bv.all(hs:PY.length=n)(hp:∀i,i<n->0<vf PY i/\vf PY i<=360)(LL:Nj n m PY Ls)(cb:CB c)(hn:n<=6):∀k,k<=m->Bv n m PY Ls k (RK c PY Ls n m k)
 | 0,_=>Bv.start hs hp
 |k+1,hk=>(Bv.all hs hp LL cb hn k ⋯).next LL cb hn ⋯
end
theorem sG{a:Int}(h:b∣a)(h1:-b<a)(h2:a<b):a=0:=by
 obtain⟨c,rfl⟩:=h;rcases XC c 0 with q|q|q
 .have:b*c<=b*(-1):=VA ⋯ ⋯;lia
 .rw[q,W3]
 .have:b*1<=b*c:=VA ⋯ ⋯;lia
def eP(n:Nat)(s:bR)(Q:Int)(w v:bR):Int:=bO n λi=>w i*v i*(Q/s i)
variable{u:bR}{Q:Int}
section
variable{D:Nat->bR}{w:bR}
theorem l_(a b:Int){x:bR}(h:∀i,i<n->x i=a*v i+b*u i):eP n s Q w x=a*eP n s Q w v+b*eP n s Q w u :=
 gc a b _ _ _ n λi hi=>by rw[h i hi];grind
theorem qa{f:Nat->Int}{q:Int}:∀{m:Nat},(∀l,l<m->q∣f l)->q∣bO m f
 | 0,_=>Wv _
 |m+1,h=>XA (qa λl hl=>h l ⋯) (h m ⋯)
theorem zq(hq:∀i,i<n->s i∣Q)(h:∀i,i<n->s i∣v i):Q∣eP n s Q w v:=qa λi hi=>by
 obtain⟨c,hc⟩:=h i hi;obtain⟨e,he⟩:=hq i hi
 by_cases z:s i=0
 .rw[hc,z];simp
 .rw[hc,he,Vr _ z];exact⟨w i*c,by grind⟩
theorem w6(hq:∀i,i<n->s i∣Q)(h:∀i,i<n->s i∣v i-u i):Q∣eP n s Q w v-eP n s Q w u:=by
 have:=l_ (s:=s) (Q:=Q) (w:=w) (n:=n) 1 (-1) (v:=v) (u:=u) (x:=λi=>v i-u i) λi _=>by lia
 have h2:=zq (w:=w) hq h;rw[this] at h2;rwa[show eP n s Q w v-eP n s Q w u=1*eP n s Q w v+-1*eP n s Q w u by lia]
theorem DZ(hq:∀i,i<n->s i∣Q):∀(k d:Nat)(v:bR),d+k=n->(∀b,d<=b->b<n->Q∣eP n s Q w (D b))->G n s D k d v->Q∣eP n s Q w v
 | 0,d,v,_,_,g=>zq hq g
 | k+1,d,v,hn,hD,g=>by
  have h1:=DZ hq k (d+1) _ ⋯ (λb h1 h2=>hD b ⋯ h2) g.2;have h2:=hD d (U9 _) ⋯;have e:=l_ (s:=s) (Q:=Q) (w:=w) (n:=n) 1 (v d/aO s D d) (v:=λi=>v i-v d/aO s D d*D d i) (u:=D d) (x:=v) λi _=>by lia
  rw[e];exact XA (Wi h1 (WQ _ _)) (Wi h2 (WQ _ _))
theorem Fe{c:Nat}(hc:c<n){x:Int}{w':bR}(h0:w c=0)(h1:w' c=x)(h2:∀i,i<n->i≠c->w' i=w i):eP n s Q w' v=eP n s Q w v+x*v c*(Q/s c):=by
 have e1:eP n s Q w' v=1*eP n s Q w v+1*bO n λi=>if i=c then x*v c*(Q/s c) else 0:=gc 1 1 _ _ _ n λi hi=>by
  by_cases z:i=c
  .rw[z,h1,h0];simp
  .rw[h2 i hi z];simp[z]
 have e2:=eG c (x*v c*(Q/s c)) n hc (λi=>if i=c then x*v c*(Q/s c) else 0) λ_ _=>rfl;rw[e1,e2];lia
def vP(h:∀i,i<n->w i*v i=0):eP n s Q w v=0:=by
 unfold eP;rw[fc (g:=λ_=>0) λi hi=>by rw[h i hi];simp,gS]
def cA(s:bR)(D:Nat->bR)(d:Nat):Int:=s d/aO s D d
theorem jx(g:Good n s D)(h:d<n):cA s D d*aO s D d=s d/\0<cA s D d/\cA s D d<=s d:=by
 have p:=g.pos h;obtain⟨c,hc⟩:=g.dv d h;have e:cA s D d=c:=by unfold cA;rw[hc,Vr _ ⋯]
 have sp:=g.sp d h;have c0:0<c:=by
  rcases XC c 0 with q|q|q
  .have:=X5 p.1 q;lia
  .rw[q] at hc;lia
  .exact q
 refine⟨by rw[e,hc,W2],by lia,?_⟩;rw[e];have:1*c<=aO s D d*c:=Xo ⋯ ⋯;lia
structure Wk (n:Nat) (s:bR) (D:Nat->bR) (Q:Int) (dial a:Nat) (w:bR):Prop where
 beh:∀i,dial<i->i<n->w i=0
 at_:w dial=cA s D dial%s dial
 ah:∀i,a<=i->i<dial->0<=w i/\w i<cA s D i
 no:∀i,i<a->w i=0
 kill:∀b,a<=b->b<n->Q∣eP n s Q w (D b)
theorem Wk.start(g:Good n s D)(hq:∀i,i<n->s i∣Q){dial:Nat}(hd:dial<n){w:bR}(h:∀i,i<n->w i=if i=dial then cA s D dial%s dial else 0):Wk n s D Q dial dial w where
 beh:=λi h1 h2=>by rw[h i h2,if_neg ⋯]
 at_:=by rw[h dial hd,if_pos rfl]
 ah:=λi h1 h2=>by lia
 no:=λi hi=>by rw[h i ⋯,if_neg ⋯]
 kill:=λb h1 h2=>by
  by_cases z:b=dial
  .subst z;obtain⟨f1,f2,f3⟩:=jx g h2;obtain⟨e,he⟩:=hq b h2;obtain⟨x,hx⟩:=g.diag h2;obtain⟨y,hy⟩:=dN (cA s D b) (s b);have sp:=g.sp b h2;have e1:eP n s Q w (D b)=1*bO n (λi=>if i=b then (cA s D b%s b)*D b b*(Q/s b) else 0)+0*0:=by
    have:=gc 1 0 (λi=>if i=b then (cA s D b%s b)*D b b*(Q/s b) else 0) (λ_=>0) (λi=>w i*D b i*(Q/s i)) n λi hi=>by
     rw[h i hi]
     by_cases z:i=b
     .subst z;simp
     .simp[z]
    rw[show eP n s Q w (D b)=bO n λi=>w i*D b i*(Q/s i) from rfl,this];lia
   rw[e1,eG b _ n h2 _ λ_ _=>rfl,he,Vr _ ⋯];have hy':cA s D b%s b=cA s D b+s b*y:=by lia
   have UM:D b b=aO s D b+s b*x:=by lia
   refine⟨1+cA s D b*x+y*D b b,?_⟩;rw[hy',UM];generalize cA s D b=F at *;generalize aO s D b=T at *;generalize s b=S at *;subst f1
   grind
  .rw[vP λi hi=>?_]
   .exact Wv _
   .rcases VT i b with q|q
    .rw[g.qM b h2 i q];simp
    .rw[h i hi,if_neg ⋯];simp
theorem Wk.next(g:Good n s D)(hQ:0<Q)(hq:∀i,i<n->s i∣Q){dial c:Nat}(hd:dial<n){w w':bR}(W:Wk n s D Q dial (c+1) w)(hc:c<dial)(h1:w' c=-(eP n s Q w (D c)%Q/(Q/cA s D c))%cA s D c)(h2:∀i,i<n->i≠c->w' i=w i):Wk n s D Q dial c w':=by
 obtain⟨f1,f2,f3⟩:=jx g (show c<n by lia);obtain⟨e,he⟩:=hq c ⋯;have sp:=g.sp c ⋯;have sh:Q/cA s D c=aO s D c*e:=by
  rw[he,<- f1,Xu,Vr _ ⋯]
 have hs:Q/s c=e:=by rw[he,Vr _ ⋯]
 have fQ:cA s D c*(aO s D c*e)=Q:=by rw[<- Xu,f1,he]
 have sh0:0<aO s D c*e:=by
  rcases XC (aO s D c*e) 0 with q|q|q
  .have:=X5 f2 q;lia
  .rw[q] at fQ;lia
  .exact q
 have cl:=g.Ni c (n-(c+1)) ⋯;have k1:=DZ (w:=w) hq (n-(c+1)) (c+1) _ ⋯ (λb h1 h2=>W.kill b h1 h2) cl;rw[l_ (s:=s) (Q:=Q) (w:=w) (n:=n) (cA s D c) 0 (v:=D c) (u:=D c) (x:=λi=>s c/aO s D c*D c i) λi _=>by unfold cA;lia] at k1;obtain⟨x,hx⟩:=k1;have dv:(aO s D c*e)∣eP n s Q w (D c):=⟨x,by
  have:cA s D c*eP n s Q w (D c)=cA s D c*(aO s D c*e*x):=by
   rw[<- Xu,fQ];lia
  exact V8 ⋯ this⟩
 have ed:=YT (eP n s Q w (D c)) Q;have dv2:(aO s D c*e)∣eP n s Q w (D c)%Q:=by
  rw[ed];exact adb dv (Wi ⟨cA s D c,by rw[W2];exact fQ.symm⟩ (aaI _ _))
 obtain⟨q,Ti⟩:=dv2;rw[sh] at h1;have eq1:eP n s Q w (D c)%Q/(aO s D c*e)=q:=by rw[Ti,Vr _ ⋯]
 rw[eq1] at h1;obtain⟨y,hy⟩:=dN (-q) (cA s D c);obtain⟨z,hz⟩:=g.diag (show c<n by lia);refine⟨λi a b=>?_,?_,λi a b=>?_,λi a=>?_,λb a1 a2=>?_⟩
 .rw[h2 i b ⋯];exact W.beh i a b
 .rw[h2 dial hd ⋯];exact W.at_
 .by_cases q2:i=c
  .rw[q2,h1];exact⟨VM _ ⋯,Vy _ f2⟩
  .rw[h2 i ⋯ q2];exact W.ah i ⋯ b
 .rw[h2 i ⋯ ⋯];exact W.no i ⋯
 .rw[Fe (w:=w) (show c<n by lia) (W.no c ⋯) rfl h2]
  by_cases q2:b=c
  .subst q2;rw[hs];have e1:w' b=-q+cA s D b*y:=by lia
   have e2:D b b=aO s D b+s b*z:=by lia
   have e3:eP n s Q w (D b)=Q*(eP n s Q w (D b)/Q)+aO s D b*e*q:=by lia
   refine⟨eP n s Q w (D b)/Q+y+w' b*z,?_⟩;rw[e2];generalize eP n s Q w (D b)/Q=p at *;rw[e3,e1];generalize cA s D b=F at *;generalize aO s D b=T at *;generalize s b=S at *;subst f1;rw[he]
   grind
  .rw[g.qM b a2 c ⋯];simp only[W3,abr,Yw];exact W.kill b ⋯ a2
end
def jI(w v:bR):eP n s Q w v=eP n s Q v w:=fc λi _=>by rw[W2 (w i)]
theorem KQ(g:Good n s D)(hd:d<n)(z:∀i,d<i->i<n->u i=0):eP n s Q u (D d)=u d*D d d*(Q/s d) :=
 eG d _ n hd _ λi hi=>by
  by_cases e:i=d
  .rw[e];simp
  .rcases VT i d with q|q
   .rw[g.qM d hd i q];simp[e]
   .rw[z i ⋯ hi];simp[e]
theorem AQ(hQ:0<Q){x:Int}(hx:0<x)(h:x∣Q):0<Q/x/\Q=x*(Q/x):=by
 obtain⟨c,hc⟩:=h;have e:Q/x=c:=by rw[hc,Vr _ ⋯]
 refine⟨?_,by rwa[e]⟩;rw[e];rcases XC c 0 with q|q|q
 .have:=X5 hx q;lia
 .rw[q] at hc;lia
 .exact q
theorem FW(g:Good n s D)(hQ:0<Q)(hq:∀i,i<n->s i∣Q)(hd:d<n)(z:∀i,d<i->i<n->u i=0)(k:Q∣eP n s Q u (D d)):cA s D d∣u d:=by
 obtain⟨f1,f2,f3⟩:=jx g hd;have p:=g.pos hd
 by_cases h0:D d d=0
 .have e1:aO s D d=s d:=by unfold aO;rw[if_pos h0]
  have e2:cA s D d=1:=by
   have:cA s D d*s d=1*s d:=by rw[e1] at f1;lia
   exact aau (by have:=g.sp d hd;lia) this
  rw[e2];exact Int.one_dvd _
 .have e1:D d d=aO s D d:=by unfold aO;rw[if_neg h0]
  rw[KQ g hd z,e1] at k;obtain⟨e0,eq⟩:=AQ hQ (g.sp d hd) (hq d hd);obtain⟨c,hc⟩:=k;generalize Q/s d=e at *;refine⟨c,?_⟩;have:aO s D d*e*u d=aO s D d*e*(cA s D d*c):=by
   rw[eq,<- f1] at hc
   grind
  exact V8 (by have:=ada p.1 e0;lia) this
theorem uN(hq:∀i,i<n->s i∣Q){A:Nat->bR}{P w:bR}(hA:∀l,l<m->Q∣eP n s Q w (A l))(h:∀i,i<n->s i∣v i-bO m λl=>P l*A l i):Q∣eP n s Q w v:=by
 have c1:=w6 (n:=n) (s:=s) (Q:=Q) (w:=w) hq h;have key:∀k,k<=m->Q∣eP n s Q w (λi=>bO k λd=>P d*A d i):=λk=>by
  induction k with
  | zero =>
   intro _;rw[vP λi _=>by simp[bO]];exact Wv _
  | succ k ih =>
   intro hm;have l1:=l_ (n:=n) (s:=s) (Q:=Q) (w:=w) 1 (P k) (v:=λi=>bO k λd=>P d*A d i) (u:=A k) (x:=λi=>bO (k+1) λd=>P d*A d i) λi _=>by simp[bO]
   rw[l1];exact XA (Ym (ih ⋯)) (Ym (hA k ⋯))
 have:=XA c1 (key m (U9 _));rwa[aat] at this
def Cm(hq:∀i,i<n->s i∣Q)(hW:∀d,d<n->Wk n s D Q d 0 (W d)){t:bR}(h:∀i,i<n->s i∣u i-bO n λd=>t d*W d i){b:Nat}(hb:b<n):Q∣eP n s Q u (D b):=by
 rw[jI];exact uN hq (λd hd=>by rw[jI];exact(hW d hd).kill b (Vd _) hb) h
section
variable{D':Nat->bR}
def oY(hq:∀i,i<n->s i∣Q){x y:bR}{a:Int}(h:∀i,i<n->s i∣u i-(a*x i+b*y i))(hx:Q∣eP n s Q x v)(hy:Q∣eP n s Q y v):Q∣eP n s Q u v:=by
 rw[jI] at hx hy ⊢;have c:=w6 (n:=n) (s:=s) (Q:=Q) (w:=v) hq h;rw[l_ a b (v:=x) (u:=y) (x:=λi=>a*x i+b*y i) λ_ _=>rfl] at c;have:=XA c (XA (Ym (a:=Q) (b:=a) hx) (Ym (b:=b) hy))
 rwa [aat] at this
theorem k9(g:Good n s D)(hQ:0<Q)(hq:∀i,i<n->s i∣Q)(hW:∀d,d<n->Wk n s D Q d 0 (W d)):∀j,j<=n->∀u:bR,(∀i,j<=i->i<n->u i=0)->(∀b,b<n->Q∣eP n s Q u (D b))->∃t:bR,(∀d,j<=d->t d=0)/\∀i,i<n->s i∣u i-bO n λd=>t d*W d i
 | 0,_,u,z,_=>⟨λ_=>0,λ_ _=>rfl,λi hi=>by
   rw[z i ⋯ hi,fc (g:=λ_=>0) λd _=>by simp,gS];exact⟨0,by simp⟩⟩
 | j+1,hj,u,z,k=>by
  have UD:j<n:=by lia
  obtain⟨q,Ti⟩:=FW g hQ hq UD (λi h1 h2=>z i ⋯ h2) (k j UD);have w:=hW j UD;have eu:∀i,i<n->s i∣(if i<j then u i-q*W j i else 0)-(1*u i+(-q)*W j i):=λi hi=>by
   rcases Zz i j with c|c|c
   .rw[if_pos c];exact⟨0,by rw[ZU];lia⟩
   .subst c;rw[if_neg ⋯,w.at_,Ti];obtain⟨x,hx⟩:=mE (cA s D i) (s i);refine⟨-(q*x),?_⟩;rw[show cA s D i%s i=cA s D i-s i*x by lia];generalize cA s D i=r
    grind
   .rw[if_neg ⋯,z i ⋯ hi,w.beh i c hi];exact⟨0,by simp⟩
  obtain⟨t,t0,ht⟩:=k9 g hQ hq hW j ⋯ (λi=>if i<j then u i-q*W j i else 0) (λi h1 _=>if_neg ⋯) λb hb=>oY hq eu (k b hb) (w.kill b (Vd _) hb);refine⟨λd=>if d=j then q else t d,λd hd=>by show (if d=j then q else t d)=0;rw[if_neg ⋯];exact t0 d ⋯,λi hi=>?_⟩;have e:bO n (λd=>(if d=j then q else t d)*W d i)=1*bO n (λd=>t d*W d i)+1*bO n (λd=>if d=j then q*W j i else 0):=gc 1 1 _ _ _ n λd hd=>by
   by_cases x:d=j
   .subst x;simp[t0 d (U9 _)]
   .simp[x]
  rw[eG j (q*W j i) n UD (λd=>if d=j then q*W j i else 0) λ_ _=>rfl] at e;obtain⟨a,ha⟩:=eu i hi;obtain⟨b,hb⟩:=ht i hi;refine⟨b-a,?_⟩;rw[ac_,<- ha,<- hb,e,ZU];lia
theorem Gz(g:Good n s D)(hQ:0<Q)(hq:∀i,i<n->s i∣Q)(hW:∀d,d<n->Wk n s D Q d 0 (W d)){J:Nat->bR}(pos:∀j,j<n->0<J j j)(zero:∀j,j<n->∀l,j<l->l<n->J j l=0)(rM:∀j,j<n->Led n s n W (λ_=>0) (J j))(ord:∀j,j<n->∀P:bR,Zf (j+1) n P->Led n s n W (λ_=>0) P->J j j∣P j):∀j,j<n->J j j=aO s D j:=λj hj=>by
 have w:=hW j hj;obtain⟨f1,f2,f3⟩:=jx g hj;have p:=g.pos hj;obtain⟨x,hx⟩:=mE (cA s D j) (s j);refine ac1 (by have:=pos j hj;lia) ⋯ ?_ ?_
 .have eu:∀i,i<n->s i∣(if i<j then aO s D j*W j i else 0)-(aO s D j*W j i+0*W j i):=λi hi=>by
   rcases Zz i j with c|c|c
   .rw[if_pos c];exact⟨0,by lia⟩
   .subst c;rw[if_neg ⋯,w.at_];refine⟨aO s D i*x-1,?_⟩;rw[show cA s D i%s i=cA s D i-s i*x by lia]
    grind
   .rw[if_neg ⋯,w.beh i c hi];exact⟨0,by simp⟩
  obtain⟨t,t0,ht⟩:=k9 g hQ hq hW j ⋯ (λi=>if i<j then aO s D j*W j i else 0) (λi h1 _=>if_neg ⋯) λb hb=>oY hq eu (w.kill b (Vd _) hb) (w.kill b (Vd _) hb);have:=ord j hj (λd=>(if d=j then aO s D j else 0)-t d) (λl h1 _=>by show (if l=j then aO s D j else 0)-t l=0;rw[if_neg ⋯,t0 l ⋯];rfl) λi hi=>by
   have e:bO n (λd=>((if d=j then aO s D j else 0)-t d)*W d i)=(-1)*bO n (λd=>t d*W d i)+1*bO n (λd=>if d=j then aO s D j*W j i else 0):=gc (-1) 1 _ _ _ n λd hd=>by
    by_cases y:d=j
    .subst y;simp[t0 d (U9 _)]
    .simp[y,ZU]
   rw[eG j (aO s D j*W j i) n hj (λd=>if d=j then aO s D j*W j i else 0) λ_ _=>rfl] at e;obtain⟨a,ha⟩:=eu i hi;obtain⟨b,hb⟩:=ht i hi;refine⟨a-b,?_⟩;show 0-bO n (λd=>((if d=j then aO s D j else 0)-t d)*W d i)=_;rw[ac_,<- ha,<- hb,e];lia
  simp only[if_pos,t0 j (U9 _),Zw] at this;exact this
 .obtain⟨y,hy⟩:=rM j hj j hj;rw[eG j (J j j*W j j) n hj _ λl hl=>by
   rcases Zz l j with c|c|c
   .rw[(hW l hl).beh j c hj,if_neg ⋯];simp
   .subst c;rw[if_pos rfl]
   .rw[zero j hj l c hl,if_neg ⋯];simp] at hy
  rw[w.at_,show cA s D j%s j=cA s D j-s j*x by lia] at hy;refine⟨J j j*x-y,?_⟩;have:cA s D j*J j j=cA s D j*(aO s D j*(J j j*x-y)):=by
   rw[<- Xu,f1];grind
  exact V8 ⋯ this
theorem tH(g':Good n s D')(h:∀d,d<n->G n s D' n 0 (D d)):∀k d (v:bR),d+k=n->G n s D k d v->G n s D' n 0 v
 | 0,d,v,_,hv=>g'.oQ ⋯ (λi hi=>by rw[Zw];exact hv i hi) (G.zero ⋯)
 | k+1,d,v,hn,hv=>by
  have a:=tH g' h k (d+1) _ ⋯ hv.2;exact G.ext ⋯ (λi _=>by lia) (G.add ⋯ a (G.mul (v d/aO s D d) ⋯ (h d ⋯)))
theorem G.at_{j:Nat}:∀{k d:Nat}{v:bR},G n s D k d v->(∀i,d<=i->i<j->v i=0)->d<=j->j<d+k->aO s D j∣v j
 | 0,d,v,_,_,h1,h2=>by lia
 | k+1,d,v,g,h0,h1,h2=>by
  rcases Nat.lt_or_eq_of_le h1 with q|q
  .have z:=h0 d (U9 _) q;have e:(λi=>v i-v d/aO s D d*D d i)=v:=by funext i;rw[z];simp
   have g2:=g.2;rw[e] at g2;exact G.at_ g2 (λi a b=>h0 i ⋯ b) ⋯ ⋯
  .subst q;exact g.1
theorem yN(g:Good n s D)(g':Good n s D')(h:∀d,d<n->G n s D n 0 (D' d))(hd:d<n):aO s D d∣aO s D' d:=by
 have a:=G.at_ (h d hd) (j:=d) (λi _ hi=>g'.qM d hd i hi) (Vd _) ⋯;have e:aO s D' d=if D' d d=0 then s d else D' d d:=rfl;rw[e]
 split
 .exact g.dv d hd
 .exact a
theorem IG(g:Good n s D)(g':Good n s D')(h:∀d,d<n->G n s D n 0 (D' d))(h':∀d,d<n->G n s D' n 0 (D d)):∀d,d<n->aO s D d=aO s D' d:=λd hd =>
 ac1 (by have:=g.pos hd;lia) (by have:=g'.pos hd;lia) (yN g g' h hd) (yN g' g h' hd)
end
theorem xh(g:Good n s D)(low:∀d,d<n->∀e,d<e->e<n->D d e<aO s D e)(hd:d<n)(nz:D d d≠0){x:bR}(hx:∀i,i<n->0<=x i)(gx:G n s D n 0 x)(z:∀i,i<d->x i=0)(p:0<x d):(∀i,i<n->x i=D d i)\/∃e,e<n/\(∀i,i<e->x i=D d i)/\D d e<x e:=by
 have key:∀m,m<=n->(∀i,i<m->x i=D d i)\/∃e,e<n/\(∀i,i<e->x i=D d i)/\D d e<x e:=by
  intro m
  induction m with
  | zero=>exact λ_=>.inl λi hi=>absurd hi (YB i)
  | succ m ih =>
   intro hm;rcases ih ⋯ with h|h
   .by_cases e:x m=D d m
    .exact .inl λi hi=>by
      rcases Yn.mp hi with c|c
      .exact h i c
      .rw[c];exact e
    .refine .inr ⟨m,by lia,h,?_⟩;have rm:=g.ja d hd m ⋯;have pm:=g.pos (d:=m) ⋯;rcases Zz m d with c|c|c
     .exact absurd ((z m c).trans (g.qM d hd m c).symm) e
     .subst c;have dv:=gx.at_ (j:=m) (λi _ hi=>z i hi) (Vd _) ⋯;have sm:aO s D m=D m m:=by unfold aO;rw[if_neg nz]
      rw[sm] at dv;have:=ab9 p dv;lia
     .have gv:=g.sub ⋯ gx (g.row hd ⋯ (Vd _));have dv:=gv.at_ (j:=m) (λi _ hi=>by rw[h i hi];lia) (Vd _) ⋯;have l:=low d hd m c ⋯;have h0:=hx m ⋯;rcases XC (D d m) (x m) with q|q|q
      .exact q
      .exact absurd q.symm e
      .exfalso;have:=sG dv ⋯ ⋯;lia
   .exact .inr h
 exact key n (U9 n)
theorem AE(g:Good n s D)(hd:d<n)(nz:D d d=0){x:bR}(hx:0<=x d/\x d<s d)(gx:G n s D n 0 x)(z:∀i,i<d->x i=0):x d=0:=by
 have dv:=gx.at_ (j:=d) (λi _ hi=>z i hi) (Vd _) ⋯;unfold aO at dv;rw[if_pos nz] at dv;exact kh hx.1 hx.2 dv
end Rg
namespace L2
theorem tD:∀a:List Int,HT.lexLt a a=false
 | []=>rfl
 |x::xs=>by rw[HT.bA,if_pos rfl];exact tD xs
def vJ{a b:List Int}(h:HT.lexLt a b=true):HT.lexLt b a=false:=by
 have:=wb a b;rw[h] at this;simpa using this
theorem DO:∀{a b:List Int}(e:Nat),a.length=b.length->e<a.length->(∀i,i<e->a.getD i 0=b.getD i 0)->a.getD e 0<b.getD e 0->HT.lexLt a b=true
 | [],_,_,_,he,_,_=>absurd he (YB _)
 | _::_,[],_,hl,_,_,_=>by cases hl
 | x::xs,y::ys,0,_,_,_,lt=>by
  have lt:x<y:=lt;rw[HT.bA,if_neg ⋯];exact decide_eq_true lt
 | x::xs,y::ys,e+1,hl,he,pre,lt=>by
  have:x=y:=pre 0 (Zu _);rw[HT.bA,if_pos this];exact DO e (by simpa using hl) (by simpa using he) (λi hi=>pre (i+1) ⋯) lt
theorem fold_min{r:List Int}:∀(l:List (List Int))(b:List Int),(b=r\/HT.lexLt r b=true)->(∀k∈l,k=r\/HT.lexLt r k=true)->r∈b::l->l.foldl (λb y=>if HT.lexLt y b then y else b) b=r
 | [],b,_,_,m=>by simpa using (Vs.mp m).symm
 | y::l,b,hb,hl,m=>by
  rw[ZY];have hy:=hl y Vl;have hl':∀k∈l,k=r\/HT.lexLt r k=true:=λk h=>hl k (Vi _ h);cases e:HT.lexLt y b with
  | true =>
   rw[if_pos rfl];refine fold_min l y hy hl' ?_;rcases Vn.mp m with c|c
   .exfalso;subst c;rcases hy with c|c
    .rw[c,tD] at e;cases e
    .rw[vJ c] at e;cases e
   .exact c
  | false =>
   rw[if_neg ↑12];refine fold_min l b hb hl' ?_;rcases Vn.mp m with c|c
   .exact c▸Vl
   .rcases Vn.mp c with c|c
    .subst c;rcases hb with c|c
     .rw[c];exact Vl
     .rw[c] at e;cases e
    .exact Vi _ c
def Dp{ks:List (List Int)}{r:List Int}(hr:r∈ks)(h:∀k∈ks,k=r\/HT.lexLt r k=true):ze ks=r:=by
 cases ks with
 | nil=>cases hr
 |cons k l=>exact fold_min l k (h k Vl) (λy hy=>h y (Vi _ hy)) hr
end L2
namespace xf
open PySem L2 PyProof.Rows Rg
local macro_rules|`(tactic| dsimp? [$ts,*])=>do
 let l<-("cI br aC hU aq wR vQ retS bo nN l4 ng av M.aV M.bind_some M.bind_none M.Du M.bind_assoc aa aj ai ae ao Hd F8 Kr Je Jx K6 Ko JQ Kt JL La IW IP JR J5 Km eM lq zP Kf Iq Bs Pt AZ lT MC kT F_ itemsOf jE GS F9 AH FU E3 DC By DE FK FI CU pC Ea dU cW w4 J6 List.length_cons List.length_nil List.map_cons List.map_nil List.cons_append List.nil_append List.replicate List.getElem?_cons_zero List.getElem?_cons_succ List.getElem?_nil List.set_cons_zero List.set_cons_succ List.set_nil Nat.reduceAdd Nat.reduceSub if_true if_false Bool.not_true Bool.not_false Bool.false_eq_true ite_true ite_false reduceIte reduceCtorEq Nat.sub_self lj bQ bN Option.map_some Option.map_none FP IU Ja Gq Fn FL JJ Fs Fb E_ oR List.any_cons List.any_nil String.reduceBEq Bool.or_false Bool.or_true Bool.true_or Bool.false_or Bool.and_true Bool.and_false Bool.true_and Bool.false_and E4 FY Lm JN E6 F3 FR G4 BX Dj iE rL List.foldl_cons List.foldl_nil ph".splitOn " ").toArray.mapM fun n=>`(Lean.Parser.Tactic.simpLemma|$(Lean.mkIdent n.toName):term)
 `(tactic| simp only[$(⟨(Lean.Syntax.TSepArray.ofElems (sep:=",") l).elemsAndSeps⟩),*,ar trivial,$(⟨ts.elemsAndSeps⟩),*])
def mK(i:Int):fw [.int i]=M.ok (.bl true):=by rfl
variable{p:PV}{α:Type}
def yM{inj:α->PV}{h:α->Bool}(xs:List α)(n:Int)(hp:p=.tup (xs.map inj)\/p=.lst (xs.map inj))(H:∀a∈xs,fw [inj a]=M.ok (.bl (h a)))(hz:xs.length<=sizeLine):f7 [p,.int n]=M.ok (.bl (decide ((xs.length:Int)=n)&&xs.all h)):=by
 have key:bD (bB 0) none (ai fw (ae (aa 0) ao)) (xs.map inj) [none]=M.ok (xs.map λa=>.bl (h a)):=fk xs λa ha=>by dsimp? [H a ha]
 have T7:wj [.lst (xs.map λa=>.bl (h a))]=M.ok (.bl (xs.all h)):=by
  have:=vS (xs.map h);rw[VC] at this;rw[show (λa=>PV.bl (h a))=PV.bl∘h from rfl,this];simp[List.all_map]
 unfold f7 jS;rcases hp with rfl|rfl
 all_goals
  dsimp? [U8]
  by_cases e:(xs.length:Int)=n
  .simp only[e,decide_true,Bool.not_true,M.aV,V7,if_false,wR,ab_];dsimp? [U8,ar hz,key,T7]
  .simp only[e,decide_false,Bool.not_false,M.aV,if_true,vQ,abO];dsimp? []
def BS(xs:List Int)(n:Int)(hz:xs.length<=sizeLine):f7 [tI xs,.int n]=M.ok (.bl (decide ((xs.length:Int)=n))):=by
 exact(yM (p:=tI xs) (h:=λ_=>true) xs n (.inl rfl) (λa _=>mK a) hz).trans (by rw[WM.mpr λ_ _=>rfl,acd])
def Jg(xs:List Int)(n:Int)(hz:xs.length<=sizeLine):f7 [lI xs,.int n]=M.ok (.bl (decide ((xs.length:Int)=n))):=by
 exact(yM (p:=lI xs) (h:=λ_=>true) xs n (.inr rfl) (λa _=>mK a) hz).trans (by rw[WM.mpr λ_ _=>rfl,acd])
def Ma{f:List Int->PV}(hf:f=tI\/f=lI)(xs:List Int)(n:Int)(hz:xs.length<=sizeLine):f7 [f xs,.int n]=M.ok (.bl (decide ((xs.length:Int)=n))):=by
 rcases hf with rfl|rfl
 .exact BS xs n hz
 .exact Jg xs n hz
def NA{f:List Int->PV}(hf:f=tI\/f=lI)(xs:List Int):bL (f xs)=some (xs.map PV.int):=by rcases hf with rfl|rfl<;>rfl
def within_int(x a b:Int):dh [.int x,.int a,.int b]=M.ok (.bl (decide (a<=x/\x<=b))):=by
 unfold dh eD;dsimp? [mK]
 by_cases h:a<=x
 .simp only[h,decide_true,if_true,true_and];dsimp? []
 .simp only[h,decide_false,false_and];dsimp? []
def gU{xs:List PV}(h:bL p=some xs):uP p=M.ok (.int xs.length):=by
 cases p<;>first|(cases h;rfl)|cases h
theorem rT(xs:List Int)(hp:bL p=some (xs.map PV.int))(h1:1<=xs.length)(h6:xs.length<=6)(hx:∀x∈xs,2<=x/\x<=360):gy [p]=M.ok .c_:=by
 unfold gy gH;have a1:¬ (6:Int)<xs.length:=by lia
 have a2:¬ (xs.length:Int)=0:=by lia
 dsimp? [a1,a2,decide_false,gU hp,U8,uQ xs hp];refine dy xs.zipIdx (λzs env=>(∃b c,env=[some (.sh p),b,c])/\∀z∈zs,2<=z.1/\z.1<=360) ⟨⟨_,_,rfl⟩,λz hz=>hx z.1 (YM hz)⟩ ?_ ?_
 .rintro⟨a,i⟩ r env ⟨⟨b,c,rfl⟩,hz⟩;have ha:=hz (a,i) Vl;refine⟨_,[some (.sh p),some (.sh (.int i)),some (.sh (.int a))],rfl,?_,⟨_,_,rfl⟩,λz S7=>hz z (Vi _ S7)⟩;dsimp? [within_int,ha,and_self,decide_true]
 .rintro P6 ⟨⟨b,c,rfl⟩,_⟩;rfl
theorem pB{f:List Int->PV}(hf:f=tI\/f=lI)(n:Nat)(xs:List (List Int))(h8:xs.length<=8)(hx:∀x∈xs,x.length=n)(hn:n<=100):fW [.lst (xs.map f),.int n]=M.ok .c_:=by
 unfold fW fM;have a1:¬ (8:Int)<xs.length:=by lia
 dsimp? [a1,decide_false,U8,ot];refine dy xs.zipIdx (λzs env=>(∃b c,env=[some (.sh (.lst (xs.map f))),some (.sh (.int n)),b,c])/\∀z∈zs,z.1.length=n) ⟨⟨_,_,rfl⟩,λz hz=>hx z.1 (YM hz)⟩ ?_ ?_
 .rintro⟨a,i⟩ r env ⟨⟨b,c,rfl⟩,hz⟩;have ha:a.length=n:=hz (a,i) Vl;refine⟨_,[some (.sh (.lst (xs.map f))),some (.sh (.int n)),some (.sh (.int i)),some (.sh (f a))],rfl,?_,⟨_,_,rfl⟩,λz S7=>hz z (Vi _ S7)⟩;dsimp? [Ma hf a n (aS ⋯),ha,decide_true]
 .rintro P6 ⟨⟨b,c,rfl⟩,_⟩;rfl
def qG(n:Nat)(p:PV):(U6 n [p]).flatten=U6 n p:=by
 induction n with
 | zero=>rfl
 |succ n ih=>rw[Wz,Xd,ih];rfl
theorem mul_one(p:PV)(n:Nat)(h8:n<=1000):b_ (.tup [p]) (.int (n:Int))=M.ok (.tup (U6 n p)):=by
 have h2:[p].length*(n:Int).toNat<=sizeLine:=by
  rw[VE];exact aS (by show 1*n<=1000;lia)
 have h3:(n:Int)<2^63:=aav (acL.mpr h8) ↑12;have h4:-(2^63)<=(n:Int):=abq ↑12 (aco n);rw[b_,ar ⟨rfl,h4,h3,h2⟩,VE,qG]
theorem zF(xs:List PV)(h8:xs.length<=8):cU [.lst xs,.c_]=M.ok (tI (U6 xs.length 1)):=by
 unfold cU eT;dsimp? [xu,yZ,mul_one (.int 1) xs.length ⋯];rw[tI,WK]
def uE(xs PY:List Int):List Int:=(xs.zip PY).map λz=>z.1%z.2
def pQ(p q:PV)(xs PY:List Int)(hp:bL p=some (xs.map PV.int))(hq:bL q=some (PY.map PV.int))(hs:∀s∈PY,0<s)(hz:xs.length<=1000):i4 [p,q]=M.ok (tI (uE xs PY)):=by
 have key:bD (cL 0 1) none (aj dI (aa 0) (aa 1)) ((xs.zip PY).map λz=>.tup [.int z.1,.int z.2]) [none,none]=M.ok ((xs.zip PY).map λz=>.int (z.1%z.2)):=by
  refine iG (p:=λz:Int×Int=>PV.int z.1) (q:=λz:Int×Int=>PV.int z.2) (xs.zip PY) λz hz=>?_;have:=hs z.2 (WL (a:=z.1) (b:=z.2) hz).2;dsimp? [bw this]
 unfold i4 ki;have hl:(xs.zip PY).length<=sizeLine:=by rw[We];exact aS (Vz (Y9 _ _) hz)
 dsimp? [gX xs PY hp hq,U8,ar hl,key];rw[tI,uE,VC];rfl
def yn(a b c:PV):a_ (.tup [a,b,c]) (.int 0)=M.ok a:=bV (j:=0) rfl rfl
def K7(a b c:PV):a_ (.tup [a,b,c]) (.int 1)=M.ok b:=bV (j:=1) rfl rfl
def KW(a b c:PV):a_ (.tup [a,b,c]) (.int 2)=M.ok c:=bV (j:=2) rfl rfl
theorem sy(a b:Int)(ha:a.natAbs<2^60)(hb:b.natAbs<2^60):∃s t,f_ [.int a,.int b]=M.ok (.tup [.int (VG a b),.int s,.int t])/\s*a+t*b=VG a b/\s.natAbs<=b.natAbs+1/\t.natAbs<=a.natAbs+(b.natAbs+1)*a.natAbs+b.natAbs+1:=by
 let J:af->Prop:=λenv=>∃r s t r' s' t' x y,env=[some (.sh (.int a)),some (.sh (.int b)),some (.sh ((PV.tup [PV.int r,PV.int s,PV.int t]))),some (.sh ((PV.tup [PV.int r',PV.int s',PV.int t']))),x,y]/\Eu.St a b r s t r' s' t'
 let m:af->Nat:=λenv=>match env with
  | [_,_,_,some (.sh (.tup [.int r,_,_])),_,_]=>r.natAbs
  | _=>0
 have hk:(b.natAbs+1)*a.natAbs<=2^60*2^60:=Ys ⋯ ⋯;have hk2:(2:Nat)^60*2^60=2^120:=by decide
 have start:J [some (.sh (.int a)),some (.sh (.int b)),some (.sh ((PV.tup [PV.int a,PV.int 1,PV.int 0]))),some (.sh ((PV.tup [PV.int b,PV.int 0,PV.int 1]))),none,none]:=⟨_,_,_,_,_,_,_,_,rfl,Eu.start a b⟩
 have loop:=mU (u:=eM (aj oo (aj a_ (aa 3) (λ_=>M.ok (.int 0))) (λ_=>M.ok (.int 0)))) (b:=(aq (bo 4 (aj bZ (aj a_ (aa 2) (λ_=>M.ok (.int 0))) (aj a_ (aa 3) (λ_=>M.ok (.int 0)))))
  (aq (bo 5 (iP (ae (aj n_ (aj a_ (aa 2) (λ_=>M.ok (.int 0))) (aj b_ (aa 4) (aj a_ (aa 3) (λ_=>M.ok (.int 0))))) (ae (aj n_ (aj a_ (aa 2) (λ_=>M.ok (.int 1))) (aj b_ (aa 4) (aj a_ (aa 3) (λ_=>M.ok (.int 1))))) (ae (aj n_ (aj a_ (aa 2) (λ_=>M.ok (.int 2))) (aj b_ (aa 4) (aj a_ (aa 3) (λ_=>M.ok (.int 2))))) ao)))))
  (aq (bo 2 (aa 3))
  (aq (bo 3 (aa 5))
  av))))) J m ?_ _ start
 .obtain⟨P6,e1,⟨r,s,t,r',s',t',x,y,rfl,st⟩,e2⟩:=loop;have hr':r'=0:=by
   revert e2;dsimp? [yn];intro e2;have:(!decide (r'=0))=false:=by injection e2 with e2;injection e2
   simpa using this
  subst hr';obtain⟨d1,d2⟩:=Eu.done st;have hg:(r.natAbs:Int)=VG a b:=by
   have h1:r.natAbs∣VG a b:=Int.dvd_gcd (Int.natAbs_dvd.mpr d1) (Int.natAbs_dvd.mpr d2);have h2:((VG a b:Nat):Int)∣r:=by
    rw[st.c0];exact XA (Wi (XN ..) (WQ _ _)) (Wi (acK ..) (WQ _ _))
   have h3:VG a b∣r.natAbs:=Int.ofNat_dvd_left.mp h2;rw[Nat.dvd_antisymm h1 h3]
  unfold f_ jY;dsimp? [];rw[e1];dsimp? [yn,K7,KW]
  by_cases hneg:r<0
  .refine⟨-s,-t,?_,?_,by rw[aas];exact st.b0,by rw[aas];exact st.d0⟩
   .simp only[hneg,decide_true,if_true];dsimp? [];rw[show -r=(VG a b:Int) by lia]
   .have:=st.c0;rw[ZU,ZU];lia
  .refine⟨s,t,?_,?_,st.b0,st.d0⟩
   .simp only[hneg,decide_false,V7,if_false];dsimp? [];rw[show r=(VG a b:Int) by lia]
   .have:=st.c0;lia
 .rintro env ⟨r,s,t,r',s',t',x,y,rfl,st⟩
  by_cases h0:r'=0
  .refine .inl ?_;dsimp? [yn];simp[h0]
  .refine .inr ⟨?_,?_⟩
   .dsimp? [yn];simp[h0]
   .obtain⟨Qe,lt⟩:=Eu.turn st h0;have b1:=st.m1;have b0:=st.m0;have c1:=st.b1;have c2:=st.d1;have c3:=Qe.m1;have q1:(r.fdiv r').natAbs<=r.natAbs+1:=by
     obtain⟨f1,f2,f3⟩:=Eu.sA r r' h0;generalize r.fdiv r'=q at *;have e:q*r'=r-(r-q*r'):=by lia
     have e2:(q*r').natAbs<=r.natAbs+(r-q*r').natAbs:=by lia
     rw[XU] at e2;have:q.natAbs*1<=q.natAbs*r'.natAbs:=YZ _ ⋯;rcases VT (r.natAbs+1) q.natAbs with h|h
     .have h5:(r.natAbs+2)*r'.natAbs<=q.natAbs*r'.natAbs:=YL _ ⋯;have h6:r.natAbs*1<=r.natAbs*r'.natAbs:=YZ _ ⋯;rw[ac7] at h5;lia
     .exact h
    have q2:(r.fdiv r').natAbs<2^200:=by lia
    refine⟨[some (.sh (.int a)),some (.sh (.int b)),some (.sh ((PV.tup [PV.int r',PV.int s',PV.int t']))),some (.sh ((PV.tup [PV.int (r-r.fdiv r'*r'),PV.int (s-r.fdiv r'*s'),PV.int (t-r.fdiv r'*t')]))),some (.sh (.int (r.fdiv r'))),some (.sh ((PV.tup [PV.int (r-r.fdiv r'*r'),PV.int (s-r.fdiv r'*s'),PV.int (t-r.fdiv r'*t')])))],?_,⟨_,_,_,_,_,_,_,_,rfl,Qe⟩,lt⟩;dsimp? [yn,K7,KW,sZ h0 (Vo (show r'.natAbs<2^200 by lia) (Wh ↑12 ↑12)),bu (k:=200) (l:=200) q2 (show r'.natAbs<2^200 by lia),bu (k:=200) (l:=200) q2 (show s'.natAbs<2^200 by lia),bu (k:=200) (l:=200) q2 (show t'.natAbs<2^200 by lia)]
def R(PY:List Int):Int:=(Lc.Cq (PY.map aae):Nat)
structure Sz (PY:List Int):Prop where
 h1:1<=PY.length
 h6:PY.length<=6
 hx:∀x∈PY,2<=x/\x<=360
variable{PY:List Int}
theorem p7(h:Sz PY):0<R PY:=by
 refine Int.ofNat_lt.mpr (Lc.lcm_pos λn hn=>?_);obtain⟨x,hx,rfl⟩:=VH.mp hn;have:=h.hx x hx;lia
theorem M3(h:Sz PY):R PY<2^60:=by
 have h1:=Lc.qA 9 (PY.map aae) 1 0 ↑12 ↑12 λn hn=>by
  obtain⟨x,hx,rfl⟩:=VH.mp hn;have:=h.hx x hx;lia
 have h2:(2:Nat)^(0+9*(PY.map aae).length)<=2^54:=Wh ↑12 (by rw[U8];have:=h.h6;lia);have h3:Lc.Cq (PY.map aae)<=2^54:=Vz h1 h2;unfold R;lia
theorem Mo(h:Sz PY){x:Int}(hx:x∈PY):x∣R PY:=by
 have h1:=Lc.lcm_dvd (ns:=PY.map aae) (VH.mpr ⟨x,hx,rfl⟩);have h2:=ace.mpr h1;rwa[Xe (by have:=h.hx x hx;lia)] at h2
structure Acc (PY r:List Int) (acc:Nat):Prop where
 pos:0<acc
 le:acc<=2^(9*(6-r.length))
 len:r.length<=6
 val:(r.map aae).foldl X3 acc=Lc.Cq (PY.map aae)
 ja:∀x∈r,2<=x/\x<=360
def Acc.start(h:Sz PY):Acc PY PY 1:=⟨by decide,Nat.one_le_two_pow,h.h6,rfl,h.hx⟩
variable{acc:Nat}
theorem Acc.lt{r:List Int}(h:Acc PY r acc):acc<2^60:=by
 have h2:(2:Nat)^(9*(6-r.length))<=2^54:=Wh ↑12 ⋯;have:=h.le;lia
theorem Acc.turn{r:List Int}{x:Int}(h:Acc PY (x::r) acc):Acc PY r (X3 acc x.toNat)/\(acc:Int)/(VG acc x:Nat)*x=(X3 acc x.toNat:Nat)/\(acc:Int)/(VG acc x:Nat)<=acc/\0<VG acc x:=by
 have hx:=h.ja x Vl;have hp:=h.pos;obtain⟨n,rfl⟩:=Zg (show 0<=x by lia);have hg:VG (acc:Int) (n:Int)=Nat.gcd acc n:=rfl;refine⟨⟨ac9 hp ⋯,?_,?_,h.val,λy hy=>h.ja y (Vi _ hy)⟩,?_,?_,?_⟩
 .have h1:X3 acc n<=acc*n:=aaO (Nat.mul_pos hp ⋯) (ac8 (acI ..) (acZ ..));have h2:acc*n<=2^(9*(6-(r.length+1)))*2^9:=Ys h.le ⋯;have hl:r.length+1<=6:=h.len;rw[<- abX,show 9*(6-(r.length+1))+9=9*(6-r.length) by lia] at h2;exact Vz h1 h2
 .have hl:r.length+1<=6:=h.len;lia
 .rw[hg,VE,<- Lc.El];norm_cast
 .rw[hg];exact acL.mpr (Nat.div_le_self acc (Nat.gcd acc n))
 .rw[hg];exact Nat.gcd_pos_of_pos_left _ hp
theorem iu(PY:List Int)(hp:bL p=some (PY.map PV.int))(h:Sz PY):fS [p]=M.ok (.int (R PY)):=by
 unfold fS fU;dsimp? [hp];refine dy PY (λr env=>∃acc x,env=[some (.sh p),some (.sh (.int (acc:Nat))),x]/\Acc PY r acc) ⟨1,_,rfl,.start h⟩ ?_ ?_
 .rintro a r env ⟨acc,x,rfl,A⟩;obtain⟨A2,e1,e2,e3⟩:=A.turn;have l1:=A.lt;have ha:=A.ja a Vl;obtain⟨s,t,ec,_,_,_⟩:=sy (acc:Int) a ⋯ ⋯;have g1:VG acc a<=acc:=aaO A.pos (ace.mp (XN ..));have d0:0<=(acc:Int)/(VG acc a:Nat):=Xg ⋯ ⋯;refine⟨_,[some (.sh p),some (.sh (.int (X3 acc a.toNat:Nat))),some (.sh (.int a))],rfl,?_,_,_,rfl,A2⟩;dsimp? [ec,yn,bh (i:=(acc:Int)) (show (0:Int)<(VG acc a:Nat) by lia) (show ((VG acc a:Nat):Int)<2^64 by lia),bu (k:=64) (l:=64) (show ((acc:Int)/(VG acc a:Nat)).natAbs<2^64 by lia) (show a.natAbs<2^64 by lia),e1]
 .rintro P6 ⟨acc,x,rfl,A⟩;dsimp? [];have:=A.val;rw[R,<- this];rfl
def mX(pz PY:List Int)(levers:List (List Int)):List (Str×PV):=[("dial_sizes",tI PY),("lever_settings",.tup (levers.map tI)),("lever_prices",tI pz),("least_round",.int (R PY))]
def eK(pz PY:List Int)(levers:List (List Int)):PV:=.obj au (mX pz PY levers)
structure Fu (PY xs:List Int):Prop where
 len:xs.length=PY.length
 ja:∀z∈xs.zip PY,0<=z.1/\z.1<z.2
variable{xs:List Int}
def lJ(h:Fu PY xs):uE xs PY=xs:=by
 obtain⟨hl,hr⟩:=h;unfold uE
 induction xs generalizing PY with
 | nil=>rfl
 | cons x r ih =>
  cases PY with
  | nil=>cases hl
  | cons s t =>
   have h1:=hr (x,s) ↑13;rw[Wq,Vu,ih (YS hl) λz hz=>hr z (by rw[Wq];exact Vi _ hz)];rw[show ((x,s):Int×Int).1%((x,s):Int×Int).2=x from WC h1.1 h1.2]
theorem vv(f:Str)(p:PV):∀fs:List (Str×PV),(u7 f p fs).length<=fs.length+1
 | []=>by simp[u7]
 | (g,q)::r=>by
  have:=vv f p r;unfold u7
  split
  .simp
  .simp;lia
variable{n:Nat}
theorem i8{f:Str}{fs:List (Str×PV)}(h:fs.length<=n):(u7 f p fs).length<=n+1:=Vz (vv f p fs) ⋯
def jy(a C:Addr)(f:Str)(p:PV)(fs:List (Str×PV))(r:af)(h:fs.length<1000):Eh 0 C f p (some (.bd a C fs)::r)=M.ok (.nx (some (.bd a C (u7 f p fs))::r)):=by
 show cX _ _=_;rw[ar ⟨rfl,h⟩];rfl
variable{pz:List Int}
theorem w8{pp:PV}{f:List Int->PV}(hf:f=tI\/f=lI)(PY:List Int)(levers:List (List Int))(hpp:cU [.lst (levers.map f),pp]=M.ok (tI pz))(hp:bL p=some (PY.map PV.int))(h:Sz PY)(h8:levers.length<=8)(hl:∀l∈levers,l.length=PY.length):∀a,cS a [p,.lst (levers.map f),pp]=M.ok (mX pz PY (levers.map λl=>uE l PY)):=by
  intro a;have e1:bD (bB 0) none (ai i4 (ae (aa 0) (ae (aa 1) ao))) (levers.map f) [none,some (.sh p)]=M.ok (levers.map λl=>tI (uE l PY)):=by
   refine fk levers λl hm=>?_;have hs:=hl l hm;have:=pQ (f l) p l PY (NA hf l) hp (λs hs=>by have:=h.hx s hs;lia) (by rw[hs];have:=h.h6;lia);dsimp? [this]
  unfold cS je;simp only[uB];rw[ar (show ([p,PV.lst (levers.map f),pp]).length+1=4 from rfl)];simp only[zz,z9];dsimp? [hp,gU hp,rT PY hp h.h1 h.h6 h.hx,pB hf PY.length levers h8 hl (by have:=h.h6;lia),k4,hp,gU hp,U8,ar (aS (show levers.length<=1000 by lia)),e1,hpp,iu PY hp h];rw[jy _ _ _ _ _ _ ↑13];dsimp? [k4,hp,gU hp,U8,ar (aS (show levers.length<=1000 by lia)),e1,hpp,iu PY hp h];rw[jy _ _ _ _ _ _ (WH (i8 (Vd 0)) ↑12)];dsimp? [k4,hp,gU hp,U8,ar (aS (show levers.length<=1000 by lia)),e1,hpp,iu PY hp h];rw[jy _ _ _ _ _ _ (WH (i8 (i8 (Vd 0))) ↑12)];dsimp? [k4,hp,gU hp,U8,ar (aS (show levers.length<=1000 by lia)),e1,hpp,iu PY hp h];rw[jy _ _ _ _ _ _ (WH (i8 (i8 (i8 (Vd 0)))) ↑12)];dsimp? [];show cX _ _=_;rw[ar ⟨rfl,rfl⟩];rw[mX,VC];rfl
def ones(Ls:List (List Int)):List Int:=U6 Ls.length 1
def FN{f:List Int->PV}(hf:f=tI\/f=lI)(PY:List Int)(levers:List (List Int))(hp:bL p=some (PY.map PV.int))(h:Sz PY)(h8:levers.length<=8)(hl:∀l∈levers,l.length=PY.length):ff au cS [.c_] [p,.lst (levers.map f)]=M.ok (eK (ones (levers.map λl=>uE l PY)) PY (levers.map λl=>uE l PY)):=by
 unfold ff;have key:=w8 (pz:=ones (levers.map λl=>uE l PY)) hf PY levers ((zF _ (show (levers.map f).length<=8 by rwa[U8])).trans (by rw[ones,U8,U8])) hp h h8 hl;rw[show ([p,.lst (levers.map f)]++[.c_]:List PV)=[p,.lst (levers.map f),.c_] from rfl,xW key];rfl
theorem xH(xs:List PV)(pz:List Int)(sq:bL p=some (pz.map PV.int))(nn:xu p .c_=M.ok (.bl false))(h8:xs.length<=8)(hl:pz.length=xs.length)(hx:∀x∈pz,1<=x/\x<=1000):cU [.lst xs,p]=M.ok (tI pz):=by
 have ix:∀i:Nat,i<pz.length->a_ p (.int (i:Int))=M.ok (.int (pz.getD i 0)):=λi hi=>bV (j:=i) sq (by rw[VD,U4 hi,Va,U4 hi];rfl);have l1:=gU sq;rw[U8,hl] at l1;have mx:BZ (λi j=>if j>i then j else i) [.int (xs.length:Int),.int (xs.length:Int)]=M.ok (.int (xs.length:Int)):=by
  show M.ok (PV.int (if (xs.length:Int)>(xs.length:Int) then _ else _))=_;rw[if_neg ⋯]
 unfold cU eT;dsimp? [nn,l1,mx,dY (n:=(xs.length:Int)) ⋯ ⋯,VE];refine dy (Ve xs.length) (λzs env=>(∃y,env=[some (.sh (.lst xs)),some (.sh p),y])/\∀z∈zs,z<xs.length) ⟨⟨_,rfl⟩,λz hz=>V9.mp hz⟩ ?_ ?_
 .rintro i r env ⟨⟨y,rfl⟩,hz⟩;have hi:=hz i Vl;have hv:=hx (pz.getD i 0) (by rw[Va,U4 ⋯];exact Vx _);have n1:¬ (xs.length:Int)<=(i:Int):=by lia
  refine⟨_,[some (.sh (.lst xs)),some (.sh p),some (.sh (.int (i:Int)))],rfl,?_,⟨_,rfl⟩,λz h=>hz z (Vi _ h)⟩;dsimp? [l1,n1,decide_false,ix i ⋯,within_int,hv,and_self,decide_true]
 .rintro P6 ⟨⟨y,rfl⟩,_⟩;dsimp? [sq];rfl
def C8{pp:PV}{f:List Int->PV}(hf:f=tI\/f=lI)(PY:List Int)(levers:List (List Int))(sq:bL pp=some (pz.map PV.int))(nn:xu pp .c_=M.ok (.bl false))(QF:pz.length=levers.length)(hpx:∀x∈pz,1<=x/\x<=1000)(hp:bL p=some (PY.map PV.int))(h:Sz PY)(h8:levers.length<=8)(hl:∀l∈levers,l.length=PY.length):ff au cS [] [p,.lst (levers.map f),pp]=M.ok (eK pz PY (levers.map λl=>uE l PY)):=by
 unfold ff;have key:=w8 hf PY levers (xH (levers.map f) pz sq nn (by rwa[U8]) (by rwa[U8]) hpx) hp h h8 hl;rw[show ([p,.lst (levers.map f),pp]++[]:List PV)=[p,.lst (levers.map f),pp] from rfl,xW key];rfl
def A9(PY:List Int)(levers:List (List Int)):(mX pz PY levers).lookup (VS "lever_prices")=some (tI pz):=rfl
def Ad(PY:List Int)(levers:List (List Int)):dj [eK pz PY levers]=M.ok (tI pz):=by
 unfold dj eV;dsimp? [eW,eK,beq_self_eq_true,A9]
def BM(PY:List Int)(levers:List (List Int)):(mX pz PY levers).lookup (VS "dial_sizes")=some (tI PY):=rfl
def zS(PY:List Int)(levers:List (List Int)):(mX pz PY levers).lookup (VS "lever_settings")=some (.tup (levers.map tI)):=rfl
def Ed(PY:List Int)(levers:List (List Int)):(mX pz PY levers).lookup (VS "least_round")=some (.int (R PY)):=rfl
def Mu(PY:List Int)(levers:List (List Int)):(mX pz PY levers).lookup (VS "sizes")=none:=rfl
def Mi(PY:List Int)(levers:List (List Int)):(mX pz PY levers).lookup (VS "levers")=none:=rfl
def vy(PY:List Int)(levers:List (List Int)):aT [eK pz PY levers]=M.ok (tI PY):=by
 unfold aT aX;dsimp? [eW,eK,beq_self_eq_true,BM]
def sU(PY:List Int)(levers:List (List Int)):bH [eK pz PY levers]=M.ok (.tup (levers.map tI)):=by
 unfold bH cm;dsimp? [eW,eK,beq_self_eq_true,zS]
variable{levers:List (List Int)}
def oK{g:af->M PV}{env:af}(h:g env=M.ok (eK pz PY levers)):bF au "sizes" aT g ao env=M.ok (tI PY):=by
 have:=vy (pz:=pz) PY levers;rw[bF,h,M.aV];show cX _ (M.bind (ao env) _)=_;rw[ar ⟨rfl,Mu PY levers⟩];exact this
def pH{g:af->M PV}{env:af}(h:g env=M.ok (eK pz PY levers)):bF au "levers" bH g ao env=M.ok (.tup (levers.map tI)):=by
 have:=sU (pz:=pz) PY levers;rw[bF,h,M.aV];show cX _ (M.bind (ao env) _)=_;rw[ar ⟨rfl,Mi PY levers⟩];exact this
def GK(PY xs:List Int):Bool:=decide ((xs.length:Int)=PY.length)&&(xs.zip PY).all λz=>decide (0<=z.1/\z.1<z.2)
theorem Gf:GK PY xs=true ↔ Fu PY xs:=by
 unfold GK;constructor
 .intro h;simp only[Wg,decide_eq_true_eq,WM] at h;exact⟨by lia,h.2⟩
 .intro h;simp only[Wg,decide_eq_true_eq,WM];exact⟨by rw[h.len],h.ja⟩
def Ce(x s:Int):∀env:af,env=[some (.sh (.int x)),some (.sh (.int s))]->kT FG EY (λ_=>M.ok (.int 0)) (aa 0) (aa 1) env=M.ok (.bl (decide (0<=x/\x<s))):=by
 rintro env rfl;dsimp? []
 by_cases h:0<=x
 .simp only[h,decide_true,if_true,true_and]
  try dsimp? []
 .simp only[h,decide_false,false_and]
  try dsimp? []
def Kj(h:α->Bool)(xs:List α):wj [.lst (xs.map λa=>.bl (h a))]=M.ok (.bl (xs.all h)):=by
 have:=vS (xs.map h);rw[VC] at this;rw[show (λa=>PV.bl (h a))=PV.bl∘h from rfl,this];simp[List.all_map]
def yf(h:Sz PY)(xs:List Int)(hz:xs.length<=1000):gL [eK pz PY levers,tI xs]=M.ok (.bl (GK PY xs)):=by
 have key:bD (cL 0 1) none (kT FG EY (λ_=>M.ok (.int 0)) (aa 0) (aa 1)) ((xs.zip PY).map λz=>.tup [.int z.1,.int z.2]) [none,none]=M.ok ((xs.zip PY).map λz=>.bl (decide (0<=z.1/\z.1<z.2))) :=
  iG (p:=λz:Int×Int=>PV.int z.1) (q:=λz:Int×Int=>PV.int z.2) (xs.zip PY) λz hz=>Ce z.1 z.2 _ rfl
 have hl:(xs.zip PY).length<=sizeLine:=by rw[We];exact aS (Vz (Y9 _ _) hz)
 unfold gL gF;dsimp? [oK (PY:=PY) (levers:=levers) (g:=aa 0) (env:=[some (.sh (eK pz PY levers)),some (.sh (tI xs)),none]) rfl,BS xs PY.length (aS hz)];unfold GK
 by_cases e:(xs.length:Int)=PY.length
 .simp only[e,decide_true,Bool.not_true,V7,if_false,ab_];dsimp? [gX (p:=tI xs) (q:=tI PY) xs PY rfl rfl,U8,ar hl,key,Kj]
 .simp only[e,decide_false,Bool.not_false,if_true,abO];dsimp? []
theorem ou(h:Sz PY)(hs:Fu PY xs):ck [eK pz PY levers,tI xs]=M.ok .c_:=by
 unfold ck cP;dsimp? [yf (levers:=levers) h xs (by rw[hs.len];have:=h.h6;lia),Gf.mpr hs]
variable{ys:List Int}
def lH{z:Int×Int}(h:z∈xs.zip ys):z.1∈xs/\z.2∈ys:=WL (a:=z.1) (b:=z.2) h
theorem uM(h:Sz PY)(hs:Fu PY xs){x:Int}(hx:x∈xs):0<=x/\x<360:=by
 obtain⟨i,hi,rfl⟩:=Vh.mp hx;have hj:i<PY.length:=by rwa[<- hs.len]
 have:=hs.ja (xs[i],PY[i]) (by
  rw[Vh];exact⟨i,by rw[We];lia,by rw[Xl]⟩)
 have h2:=h.hx PY[i] (Vx hj);exact⟨this.1,by have:=this.2;simp only at this;lia⟩
def uK(xs PY:List Int):uE xs PY=AG xs PY:=rfl
def cf(a b:Int):Int×Int:=open Classical in if h:∃p:Int×Int,f_ [.int a,.int b]=M.ok (.tup [.int (VG a b),.int p.1,.int p.2])/\p.1*a+p.2*b=VG a b/\p.1.natAbs<=b.natAbs+1/\p.2.natAbs<=a.natAbs+(b.natAbs+1)*a.natAbs+b.natAbs+1 then h.choose else (0,0)
def HE(a b:Int)(ha:a.natAbs<2^60)(hb:b.natAbs<2^60):f_ [.int a,.int b]=M.ok (.tup [.int (VG a b),.int (cf a b).1,.int (cf a b).2])/\(cf a b).1*a+(cf a b).2*b=VG a b/\(cf a b).1.natAbs<=b.natAbs+1/\(cf a b).2.natAbs<=a.natAbs+(b.natAbs+1)*a.natAbs+b.natAbs+1:=by
 have h:∃p:Int×Int,f_ [.int a,.int b]=M.ok (.tup [.int (VG a b),.int p.1,.int p.2])/\p.1*a+p.2*b=VG a b/\p.1.natAbs<=b.natAbs+1/\p.2.natAbs<=a.natAbs+(b.natAbs+1)*a.natAbs+b.natAbs+1:=by
  obtain⟨s,t,h⟩:=sy a b ha hb;exact⟨(s,t),h⟩
 unfold cf;rw[dif_pos h];exact h.choose_spec
theorem DK:CB cf:=λa b h1 h2 h3 h4=>by
 obtain⟨_,e,b1,b2⟩:=HE a b ⋯ ⋯;refine⟨e,by lia,?_⟩;have:(b.natAbs+1)*a.natAbs<=361*360:=Ys ⋯ ⋯;lia
def mk(r:Row):PV:=.tup [tI r.1,tI r.2]
def tj(r:Row):a_ (mk r) (.int 0)=M.ok (tI r.1):=bV (p:=mk r) (j:=0) rfl rfl
def HG(r:Row):a_ (mk r) (.int 1)=M.ok (tI r.2):=bV (p:=mk r) (j:=1) rfl rfl
variable{i:Nat}
def iB(h:i<xs.length):a_ (tI xs) (.int (i:Int))=M.ok (.int (vf xs i)) :=
 bV (p:=tI xs) rfl (by rw[VD,U4 h,aP h];rfl)
variable{d:Nat}{rows:List Row}
def oV(h:d<rows.length):a_ (.lst (rows.map mk)) (.int (d:Int))=M.ok (mk (row rows d)) :=
 bV (p:=.lst (rows.map mk)) rfl (by rw[VD,U4 h,fE h];rfl)
def qb{A B:Nat}(p q:PV)(xs ys:List Int)(a b:Int)(hp:bL p=some (xs.map PV.int))(hq:bL q=some (ys.map PV.int))(hx:Bd B xs)(hy:Bd B ys)(ha:a.natAbs<2^A)(hb:b.natAbs<2^A)(hB:B<=9000)(hA:A<=9000)(hz:xs.length<=1000):ko [p,.int a,q,.int b]=M.ok (tI (oj xs a ys b)):=by
 have key:bD (cL 0 1) none (aj eh (aj b_ (aa 2) (aa 0)) (aj b_ (aa 3) (aa 1))) ((xs.zip ys).map λz=>.tup [.int z.1,.int z.2]) [none,none,some (.sh (.int a)),some (.sh (.int b))]=M.ok ((xs.zip ys).map λz=>.int (a*z.1+b*z.2)):=by
  refine iG (p:=λz:Int×Int=>PV.int z.1) (q:=λz:Int×Int=>PV.int z.2) (xs.zip ys) λz hz=>?_;have m:=WL (a:=z.1) (b:=z.2) hz;dsimp? [bu (k:=A) (l:=B) ha (hx _ m.1) hA hB,bu (k:=A) (l:=B) hb (hy _ m.2) hA hB]
 have hl:(xs.zip ys).length<=sizeLine:=by rw[We];exact aS (Vz (Y9 _ _) hz)
 unfold ko lN;dsimp? [gX xs ys hp hq,U8,ar hl,key];rw[tI,oj,VC];rfl
variable{r:Row}
theorem x_{A B:Nat}{q:Row}{a b:Int}(hs:∀s∈PY,0<s)(h1:Bd B r.1)(h2:Bd B r.2)(h3:Bd B q.1)(h4:Bd B q.2)(ha:a.natAbs<2^A)(hb:b.natAbs<2^A)(hB:B<=9000)(hA:A<=9000)(z1:r.1.length<=100)(z2:r.2.length<=100):dE [tI PY,mk r,.int a,mk q,.int b]=M.ok (mk (qL PY r a q b)):=by
 unfold dE eY;dsimp? [tj,HG,qb (tI r.1) (tI q.1) r.1 q.1 a b rfl rfl h1 h3 ha hb hB hA ⋯,qb (tI r.2) (tI q.2) r.2 q.2 a b rfl rfl h2 h4 ha hb hB hA ⋯,pQ (tI (oj r.1 a q.1 b)) (tI PY) (oj r.1 a q.1 b) PY rfl rfl hs (by rw[bU];lia)];rfl
variable{m:Nat}
theorem uA(w:Wf n m rows)(hs:PY.length=n)(hd:d<n):du [tI PY,.lst (rows.map mk),.int (d:Int)]=M.ok (.int (aO (vf PY) (DD rows) d)):=by
 unfold du eE;have e1:=w.lV hd;dsimp? [oV (rows:=rows) (d:=d) (by rwa[w.len]),tj,iB (xs:=(row rows d).1) (i:=d) ⋯];unfold aO
 by_cases z:DD rows d d=0
 .have z':vf (row rows d).1 d=0:=z;simp only[z',z,decide_true,if_true];dsimp? [iB (xs:=PY) (i:=d) ⋯]
 .have z':¬ vf (row rows d).1 d=0:=z;simp only[z',z,decide_false,V7,if_false];dsimp? [];rfl
def drop_cons{xs:List α}{a:α}{r:List α}(h:xs.drop d=a::r):d<xs.length/\xs[d]?=some a/\xs.drop (d+1)=r:=by
 have hd:d<xs.length:=by
  rcases VT d xs.length with q|q
  .exact q
  .rw[Yv q] at h;cases h
 rw[Xh hd] at h;injection h with h1 h2
 exact⟨hd,by rw[U4 hd,h1],h2⟩
def gT(env:af):kE ao env=M.ok []:=by
 simp only[kE,ao,M.aV];exact if_pos (Vd _)
def yy{f:af->M PV}{env:af}{xs:List PV}(h:env[i]?=some (some (.ow xs)))(hf:f env=M.ok p)(hz:xs.length<1000):nR i f env=M.ok (.nx (env.set i (some (.ow (xs++[p]))))):=by
 unfold nR;rw[h];show M.bind (f env) _=_;rw[hf,M.aV,if_pos (mz (X_ hz))]
theorem uj(hl:xs.length=n)(h:∀i,i<n->0<=vf xs i/\vf xs i<vf PY i)(hs:∀i,i<n->vf PY i<=360):Bd 9 xs:=λx hx=>by
 obtain⟨i,hi,rfl⟩:=Vh.mp hx;have h1:=h i ⋯;have h2:=hs i ⋯;rw[aP hi] at h1;lia
theorem Bl{a b:Int}(h1:-1000<=a)(h2:a<=1000)(h3:-1000<=b)(h4:b<=1000):A7 [.int a,.int b]=M.ok ((Ve (b-a).toNat).map λ(i:Nat)=>.int (a+(i:Int))):=by
 have h:-(2^62)<=a/\a<2^62/\-(2^62)<=b/\b<2^62:=by lia
 show cX (-(2^62)<=a/\a<2^62/\-(2^62)<=b/\b<2^62) _=_;rw[ar h]
variable{k:Nat}
section
variable{A:Nat->bR}{left:Row}
def St.Cc(h:St n m PY A k rows)(hd:d<n):Bd 9 (row rows d).1:=uj (h.wf.lV hd) (λi hi=>h.gd.ja d hd i hi) h.sm
def Bz(h:St n m PY A k rows):∀s∈PY,0<s:=λs hs=>by
 obtain⟨i,hi,rfl⟩:=Vh.mp hs;have:=h.gd.sp i (by rwa[<- h.hs])
 rwa [aP hi] at this
theorem Co(h:St n m PY A k rows)(L:Lv n m PY A k left)(hn:n<=6)(hm:m<=8):jw [tI PY,.lst (rows.map mk),mk left]=M.ok (.tup [.lst ((cC cf PY rows left n).map mk),tI (aA cf PY rows left n).2]):=by
 have rl:=h.wf.len;have hkm:=L.km;unfold jw jv;dsimp? [gT,ot];refine dy rows.zipIdx (λzs env=>∃d x4 x5 x6 x7 x8,d<=n/\rows.zipIdx.drop d=zs/\env=[some (.sh (tI PY)),some (.sh (.lst (rows.map mk))),some (.sh (mk (aA cf PY rows left d))),some (.ow ((cC cf PY rows left d).map mk)),x4,x5,x6,x7,x8]) ⟨0,none,none,none,none,none,Vd _,rfl,rfl⟩ ?_ ?_
 .rintro⟨a,i⟩ zs env ⟨d,x4,x5,x6,x7,x8,hd,R5,rfl⟩;obtain⟨h1,h2,h3⟩:=drop_cons R5;rw[W6,rl] at h1;have h4:a=row rows d/\i=d:=by
   rw[List.getElem?_zipIdx] at h2;rw[fE (by rwa[rl])];rw[U4 (by rwa[rl])] at h2;simp at h2;exact⟨h2.1.symm,h2.2.symm⟩
  obtain⟨rfl,rfl⟩:=h4;have ll:=cY (c:=cf) h.wf h.hs L.l1 L.l2 i ⋯;have lk:=j8 (c:=cf) h L i ⋯;have lb:=oA (c:=cf) h L hn i ⋯;have st:=h.gd.pos h1;have sm:=h.sm i h1;have nt:=lk i h1;have e1:=h.wf.lV h1;have e2:=h.wf.at2 h1;generalize QQ:aO (vf PY) (DD rows) i=P8 at *;generalize hnt:vf (aA cf PY rows left i).1 i=nt' at *;obtain⟨c1,c2,c3,c4⟩:=HE P8 nt' ⋯ ⋯;have cb:=DK P8 nt' st.1 ⋯ nt.1 ⋯;have gp:=gB (b:=nt') st.1;have gl:(VG P8 nt':Int)<=P8:=ab9 st.1 (XN ..);have a1:=jL (b:=nt') st.1 ⋯;have a2:=ly (b:=nt') st.1 nt.1 ⋯;have B1:Bd 1300 (row rows i).1:=(St.Cc h h1).mono ⋯;have B2:Bd 1300 (row rows i).2:=(h.bd i h1).mono ⋯;have B3:Bd 1300 (aA cf PY rows left i).1:=(uj ll.1 lk h.sm).mono ⋯;have B4:Bd 1300 (aA cf PY rows left i).2:=lb.mono ⋯;have w1:=x_ (A:=20) (PY:=PY) (Bz h) B1 B2 B3 B4 cb.2.1 cb.2.2 ↑12 ↑12 ⋯ ⋯;have w2:=x_ (A:=20) (PY:=PY) (a:=P8/(VG P8 nt':Nat)) (b:=-(nt'/(VG P8 nt':Nat))) (Bz h) B3 B4 B1 B2 ⋯ ⋯ ↑12 ↑12 ⋯ ⋯;have ew:ee cf PY rows left i=qL PY (row rows i) (cf P8 nt').1 (aA cf PY rows left i) (cf P8 nt').2:=by
   simp only[ee,QQ,hnt]
  have el:aA cf PY rows left (i+1)=qL PY (aA cf PY rows left i) (P8/(VG P8 nt':Nat)) (row rows i) (-(nt'/(VG P8 nt':Nat))):=by
   simp only[aA,QQ,hnt]
  refine⟨_,[some (.sh (tI PY)),some (.sh (.lst (rows.map mk))),some (.sh (mk (aA cf PY rows left (i+1)))),some (.ow ((cC cf PY rows left (i+1)).map mk)),some (.sh (.int i)),some (.sh (mk (row rows i))),some (.sh (.int P8)),some (.sh (.int nt')),some (.sh (.tup [.int (VG P8 nt'),.int (cf P8 nt').1,.int (cf P8 nt').2]))],rfl,?_,i+1,_,_,_,_,_,by lia,h3,rfl⟩;have sok:=uA h.wf h.hs h1;rw[QQ] at sok;have nok:=iB (xs:=(aA cf PY rows left i).1) (i:=i) ⋯;rw[hnt] at nok;dsimp? [sok,tj,nok,c1];rw[yy (i:=3) rfl (p:=mk (ee cf PY rows left i)) (by dsimp? [K7,KW,w1,ew]) (by simp[cC];lia)];dsimp? [yn,bh (i:=P8) gp ⋯,bh (i:=nt') gp ⋯,w2,el];rw[cC,cC,List.range_succ,W4,W4];rfl
 .rintro env ⟨d,x4,x5,x6,x7,x8,hd,R5,rfl⟩;have Tx:d=n:=by
   have:=congrArg Yc R5;rw[Wy,W6,rl] at this;simp at this;lia
  subst Tx;dsimp? [HG]
def bK(PY:List Int)(rows:List Row)(r:Row)(f:Nat):Nat->Row
 | 0=>r
 | c+1 =>
  let l:=bK PY rows r f c
  qL PY l 1 (row rows (f+c)) (-(vf l.1 (f+c)/aO (vf PY) (DD rows) (f+c)))
theorem jo(h:St n m PY A k rows){r:Row}{f:Nat}(h1:r.1.length=n)(h2:r.2.length=m):∀c,f+c<=n->(bK PY rows r f c).1.length=n/\(bK PY rows r f c).2.length=m
 | 0,_=>⟨h1,h2⟩
 | c+1,hc=>by
  obtain⟨i1,i2⟩:=jo h (f:=f) h1 h2 c ⋯;have e1:=h.wf.lV (d:=f+c) ⋯;have e2:=h.wf.at2 (d:=f+c) ⋯;have hs:=h.hs;simp only[bK,qL];rw[iI,bU,bU];exact⟨by lia,by lia⟩
theorem pD(h:St n m PY A k rows){f:Nat}(h1:r.1.length=n)(h2:r.2.length=m)(h0:∀i,i<n->0<=vf r.1 i/\vf r.1 i<vf PY i):Dn n (vf PY) (DD rows) f (λd=>vf (bK PY rows r f (d-f)).1) where
 w0:=λi hi=>by rw[abt];exact h0 i hi
 ws:=λd hf hd i hi=>by
  obtain⟨c,rfl⟩:∃c,d=f+c:=⟨d-f,by lia⟩
  obtain⟨i1,i2⟩:=jo h (f:=f) h1 h2 c ⋯;have e1:=h.wf.lV (d:=f+c) ⋯;have hs:=h.hs;show vf (bK PY rows r f (f+c+1-f)).1 i=_;rw[show f+c+1-f=c+1 by lia,show f+c-f=c by lia];simp only[bK,qL];rw[jz (by rw[bU];lia) ⋯,fu ⋯ ⋯];rfl
theorem yI(h:St n m PY A k rows){r:Row}{f:Nat}(h1:r.1.length=n)(h2:r.2.length=m){P₀:bR}{B:bR}(hl:Led n (vf PY) m A (λi=>vf r.1 i-B i) (λl=>vf r.2 l-P₀ l)):∀c,f+c<=n->Led n (vf PY) m A (λi=>vf (bK PY rows r f c).1 i-B i) (λl=>vf (bK PY rows r f c).2 l-P₀ l)
 | 0,_=>hl
 | c+1,hc=>by
  obtain⟨i1,i2⟩:=jo h (f:=f) h1 h2 c ⋯;have e1:=h.wf.lV (d:=f+c) ⋯;have e2:=h.wf.at2 (d:=f+c) ⋯;have hs:=h.hs;refine Led.mix (a:=1) (b:=-(vf (bK PY rows r f c).1 (f+c)/aO (vf PY) (DD rows) (f+c))) (yI h (f:=f) h1 h2 hl c ⋯) (h.led (f+c) ⋯) (λi hi=>?_) λl hl=>?_
  .simp only[bK,qL];rw[jz (by rw[bU];lia) ⋯,fu ⋯ ⋯];obtain⟨z,hz⟩:=dN (1*vf (bK PY rows r f c).1 i+-(vf (bK PY rows r f c).1 (f+c)/aO (vf PY) (DD rows) (f+c))*vf (row rows (f+c)).1 i) (vf PY i);refine⟨z,?_⟩;rw[<- hz];unfold DD
   grind
  .simp only[bK,qL];rw[fu ⋯ ⋯];unfold PP
   grind
theorem xq(h:St n m PY A k rows){r:Row}{f B:Nat}(h1:r.1.length=n)(h2:r.2.length=m)(h0:∀i,i<n->0<=vf r.1 i/\vf r.1 i<vf PY i)(hB:150*k+1<=B)(hb:Bd B r.2):∀c,f+c<=n->Bd (B+11*c) (bK PY rows r f c).2
 | 0,_=>hb
 | c+1,hc=>by
  have k0:=(pD h (f:=f) h1 h2 h0).kept h.gd (f+c) ⋯ ⋯ (f+c) ⋯;rw[show f+c-f=c by lia] at k0;have sm:=h.sm (f+c) ⋯;have p:=h.gd.pos (d:=f+c) ⋯;have q:=YU (aO (vf PY) (DD rows) (f+c)) k0.1;have q0:=Xg k0.1 (Zy p.1);have:=Bd.mix (A:=10) (xq h (f:=f) h1 h2 h0 hB hb c ⋯) ((h.bd (f+c) ⋯).mono (show 150*k+1<=B+11*c by lia)) (a:=1) (b:=-(vf (bK PY rows r f c).1 (f+c)/aO (vf PY) (DD rows) (f+c))) ↑12 ⋯;exact this.mono ⋯
theorem qF(h:St n m PY A k rows){f B:Nat}(hn:n<=6)(hm:m<=8)(h1:r.1.length=n)(h2:r.2.length=m)(h0:∀i,i<n->0<=vf r.1 i/\vf r.1 i<vf PY i)(hB:150*k+1<=B)(hB2:B<=8000)(hb:Bd B r.2)(hf:f<=n):fm [tI PY,.lst (rows.map mk),mk r,.int (f:Int)]=M.ok (mk (bK PY rows r f (n-f))):=by
 have hs:=h.hs;have rl:=h.wf.len;unfold fm iN;have ja:A7 [.int (f:Int),.int (PY.length:Int)]=M.ok ((Ve (n-f)).map λ(i:Nat)=>.int ((f+i:Nat):Int)):=by
  rw[Bl ⋯ ⋯ ⋯ ⋯,hs,show ((n:Int)-(f:Int)).toNat=n-f by lia];simp
 dsimp? [ja];refine dy (Ve (n-f)) (λzs env=>∃c x4 x5,c<=n-f/\(Ve (n-f)).drop c=zs/\env=[some (.sh (tI PY)),some (.sh (.lst (rows.map mk))),some (.sh (mk (bK PY rows r f c))),some (.sh (.int (f:Int))),x4,x5]) ⟨0,none,none,Vd _,rfl,rfl⟩ ?_ ?_
 .rintro i zs env ⟨c,x4,x5,hc,R5,rfl⟩;obtain⟨c1,c2,c3⟩:=drop_cons R5;rw[VN] at c1;obtain rfl:i=c:=by
   rw[WS c1] at c2;exact(Vk c2).symm
  have Tz:f+i<n:=by lia
  have ll:=jo h (f:=f) h1 h2 i ⋯;have lk:=(pD h (f:=f) h1 h2 h0).kept h.gd (f+i) ⋯ ⋯;rw[show f+i-f=i by lia] at lk;have k0:=lk (f+i) Tz;have sm:=h.sm (f+i) Tz;have p:=h.gd.pos Tz;have e1:=h.wf.lV Tz;have e2:=h.wf.at2 Tz;have B1:Bd 8200 (row rows (f+i)).1:=(St.Cc h Tz).mono ⋯;have B2:Bd 8200 (row rows (f+i)).2:=(h.bd _ Tz).mono ⋯;have B3:Bd 8200 (bK PY rows r f i).1:=(uj ll.1 lk h.sm).mono ⋯;have B4:Bd 8200 (bK PY rows r f i).2:=(xq h (f:=f) h1 h2 h0 hB hb i ⋯).mono ⋯;have q:=YU (aO (vf PY) (DD rows) (f+i)) k0.1;have q0:=Xg k0.1 (Zy p.1);have w:=x_ (A:=20) (PY:=PY) (a:=1) (b:=-(vf (bK PY rows r f i).1 (f+i)/aO (vf PY) (DD rows) (f+i))) (Bz h) B3 B4 B1 B2 ↑12 ⋯ ↑12 ↑12 ⋯ ⋯;refine⟨_,[some (.sh (tI PY)),some (.sh (.lst (rows.map mk))),some (.sh (mk (bK PY rows r f (i+1)))),some (.sh (.int (f:Int))),some (.sh (.int ((f+i:Nat):Int))),some (.sh (.int (vf (bK PY rows r f i).1 (f+i)/aO (vf PY) (DD rows) (f+i))))],rfl,?_,i+1,_,_,by lia,c3,rfl⟩;dsimp? [tj,iB (xs:=(bK PY rows r f i).1) (i:=f+i) ⋯,uA h.wf h.hs Tz,bh (i:=vf (bK PY rows r f i).1 (f+i)) p.1 ⋯,oV (rows:=rows) (d:=f+i) ⋯,w];rfl
 .rintro env ⟨c,x4,x5,hc,R5,rfl⟩;have:c=n-f:=by
   have:=congrArg Yc R5;rw[Wy,VN] at this;simp at this;lia
  subst this;dsimp? []
end
theorem GP(m k:Nat)(hm:m<=1000):jd [.int (m:Int),.int (k:Int)]=M.ok (tI (ni m k)):=by
 have key:bD (bB 0) none (AZ (eM (aj oJ (aa 0) (aa 1))) (λ_=>M.ok (.int 1)) (λ_=>M.ok (.int 0))) ((Ve m).map λ(i:Nat)=>.int (i:Int)) [none,some (.sh (.int (k:Int)))]=M.ok ((Ve m).map λ(i:Nat)=>.int (if i=k then 1 else 0)):=by
  refine fk (inj:=λ(i:Nat)=>PV.int (i:Int)) (Ve m) λi hi=>?_;dsimp? []
  by_cases z:i=k
  .subst z;simp only[decide_true,if_true]
  .have z':¬ (i:Int)=(k:Int):=by lia
   simp only[z,z',decide_false,V7,if_false]
 unfold jd jr;dsimp? [dY (n:=(m:Int)) ⋯ ⋯,VE,U8,VN,ar (aS hm),key];rw[tI,ni,VC];rfl
theorem sH{n:Int}(h:0<=n):VP (n-1) (-1) (-1)=n:=by
 unfold VP;rw[if_neg ↑12]
 split
 .rw[show -(-1:Int)=1 from rfl,Int.ediv_one];lia
 .lia
theorem Gr{n:Int}(h:0<=n)(h2:n<=1000):C3 (n-1) (-1) (-1)=true:=by
 unfold C3 Z7;have f:∀x:Int,-(2^40)<x->x<2^40->aac x=true:=λx h1 h2=>by
  unfold aac;simp only[Wg,decide_eq_true_eq];lia
 simp only[sH h,f (n-1) ⋯ ⋯,f (-1) ↑12 ↑12,f n ⋯ ⋯,f (n-1+n*-1) ⋯ ⋯,acd,ab_,Bool.and_self,Wg,decide_eq_true_eq];refine⟨by decide,?_⟩;rw[if_neg ↑12,f (-1+(-1+1)) ↑12 ↑12,Bool.or_true]
theorem vT(k:Nat)(hk:k<=1000):Ar [.int ((k:Int)-1),.int (-1),.int (-1)]=M.ok ((Ve k).map λ(i:Nat)=>.int ((k:Int)-1+(i:Int)*-1)):=by
 show cX (C3 ((k:Int)-1) (-1) (-1)=true) _=_;rw[ar (Gr ⋯ ⋯),sH ⋯,VE]
variable{j:Nat}{P1:List (List Int)}
def GX(h:j<P1.length):a_ (.lst (P1.map tI)) (.int (j:Int))=M.ok (tI (P1.getD j [])) :=
 bV (p:=.lst (P1.map tI)) rfl (by rw[VD,U4 h,Va,U4 h];rfl)
theorem Bo{B:Nat}{s:bR}{A:Nat->bR}{P:List Int}(h:Bb n m s A k P1)(hP:P.length=m)(hm:m<=8)(hk:k<=m)(hB:60<=B)(hB2:B<=8000)(hb:Bd B P):ju [tI P,.lst (P1.map tI)]=M.ok (tI (aY P1 k P k)):=by
 have il:=h.len;unfold ju jj;dsimp? [U8,il,vT k ⋯];refine dy (Ve k) (λzs env=>∃c x2 x3,c<=k/\(Ve k).drop c=zs/\env=[some (.sh (tI (aY P1 k P c))),some (.sh (.lst (P1.map tI))),x2,x3]) ⟨0,none,none,Vd _,rfl,rfl⟩ ?_ ?_
 .rintro i zs env ⟨c,x2,x3,hc,R5,rfl⟩;obtain⟨c1,c2,c3⟩:=drop_cons R5;rw[VN] at c1;obtain rfl:i=c:=by
   rw[WS c1] at c2;exact(Vk c2).symm
  have hj:k-1-i<k:=by lia
  have ej:(k:Int)-1+(i:Int)*-1=((k-1-i:Nat):Int):=by lia
  have sl:=span_len h hP i ⋯;have rl:=h.l2 (k-1-i) hj;have p:=h.pos (k-1-i) hj;have pl60:=h.le (k-1-i) hj;have zb:=yJ h hP hk hB hb i ⋯;have B1:Bd 8600 (aY P1 k P i):=zb.mono ⋯;have B2:Bd 8600 (P1.getD (k-1-i) []):=(h.bd hj hk).mono ⋯;have q:(-(vf (aY P1 k P i) (k-1-i)/vf (P1.getD (k-1-i) []) (k-1-i))).natAbs<2^8600:=by
   rw[aas];exact WH (aaA ..) (B1.vf _)
  have w:=qb (A:=8600) (tI (aY P1 k P i)) (tI (P1.getD (k-1-i) [])) (aY P1 k P i) (P1.getD (k-1-i) []) 1 (-(vf (aY P1 k P i) (k-1-i)/vf (P1.getD (k-1-i) []) (k-1-i))) rfl rfl B1 B2 (Nat.one_lt_two_pow ↑12) q ↑12 ↑12 ⋯;refine⟨_,[some (.sh (tI (aY P1 k P (i+1)))),some (.sh (.lst (P1.map tI))),some (.sh (.int ((k-1-i:Nat):Int))),some (.sh (tI (P1.getD (k-1-i) [])))],rfl,?_,i+1,_,_,by lia,c3,rfl⟩;rw[ej];dsimp? [GX (P1:=P1) (j:=k-1-i) ⋯,iB (xs:=aY P1 k P i) (i:=k-1-i) ⋯,iB (xs:=P1.getD (k-1-i) []) (i:=k-1-i) ⋯,bh (i:=vf (aY P1 k P i) (k-1-i)) (j:=vf (P1.getD (k-1-i) []) (k-1-i)) p (by show II P1 (k-1-i) (k-1-i)<2^64;lia),w];rfl
 .rintro env ⟨c,x2,x3,hc,R5,rfl⟩;have:c=k:=by
   have:=congrArg Yc R5;rw[Wy,VN] at this;simp at this;lia
  subst this;dsimp? []
variable{Ls:List (List Int)}
theorem mC(h:PY.length<=6):gY [eK pz PY Ls]=M.ok (tI (U6 PY.length 0)):=by
 unfold gY iM;dsimp? [oK (PY:=PY) (levers:=Ls) (g:=aa 0) (env:=[some (.sh (eK pz PY Ls))]) rfl,mul_one (.int 0) PY.length ⋯];rw[tI,WK]
theorem nv(hm:Ls.length<=8)(xs:List Int):fy [eK pz PY Ls,tI xs]=M.ok (mk (xs,U6 Ls.length 0)):=by
 unfold fy g9;dsimp? [pH (PY:=PY) (levers:=Ls) (g:=aa 0) (env:=[some (.sh (eK pz PY Ls)),some (.sh (tI xs))]) rfl,U8,mul_one (.int 0) Ls.length ⋯];rw[mk,tI,tI,WK]
theorem Fw(hm:Ls.length<=8)(hk:k<Ls.length):fK [eK pz PY Ls,.int (k:Int)]=M.ok (mk (bP Ls Ls.length k)):=by
 have e:a_ (.tup (Ls.map tI)) (.int (k:Int))=M.ok (tI (Ls.getD k [])):=bV (p:=.tup (Ls.map tI)) rfl (by rw[VD,U4 hk,Va,U4 hk];rfl);unfold fK fP;dsimp? [pH (PY:=PY) (levers:=Ls) (g:=aa 0) (env:=[some (.sh (eK pz PY Ls)),some (.sh (.int (k:Int))),none]) rfl,U8,e,GP Ls.length k ⋯];rfl
def vm:∀xs:List Int,pK (tI xs)=true:=by
 intro xs;have:∀ys:List Int,mV (ys.map PV.int)=true:=by
  intro ys
  induction ys with
  | nil=>rfl
  | cons a r ih=>simp[mV,pK,ih]
 exact this xs
def Mp(x y:PV):a_ (.tup [x,y]) (.int 0)=M.ok x:=bV (j:=0) rfl rfl
def Nu(x y:PV):a_ (.tup [x,y]) (.int 1)=M.ok y:=bV (j:=1) rfl rfl
def m_(PY:List Int)(rows:List Row)(n:Nat):List Row:=(Ve n).map λd=>bK PY rows (row rows d) (d+1) (n-(d+1))
def xF(V:PV)(rows:List Row)(P1:List (List Int)):List (Str×PV):=[("vault",V),("made_rows",.lst (rows.map mk)),("idle_rows",.lst (P1.map tI))]
theorem CP(hn1:1<=PY.length)(hn:PY.length<=6)(hm:Ls.length<=8)(hp:∀i,i<PY.length->0<vf PY i/\vf PY i<=360)(LL:Nj PY.length Ls.length PY Ls):ff az eg [] [eK pz PY Ls]=M.ok (.obj az (xF (eK pz PY Ls) (m_ PY (RK cf PY Ls PY.length Ls.length Ls.length).1 PY.length) (RK cf PY Ls PY.length Ls.length Ls.length).2)):=by
 have all:=λk hk=>Bv.all (c:=cf) rfl hp LL DK hn k hk;have key:∀a,eg a ([eK pz PY Ls]++[])=M.ok (xF (eK pz PY Ls) (m_ PY (RK cf PY Ls PY.length Ls.length Ls.length).1 PY.length) (RK cf PY Ls PY.length Ls.length Ls.length).2):=by
  intro a;have e1:bD (bB 0) none (ai fy (ae (aa 1) (ae (ai gY (ae (aa 1) ao)) ao))) (PY.map PV.int) [none,some (.sh (eK pz PY Ls))]=M.ok ((U6 PY.length ((U6 PY.length (0:Int)),(U6 Ls.length (0:Int)))).map mk):=by
   rw[fk (h:=λ_=>mk (U6 PY.length 0,U6 Ls.length 0)) PY λx _=>by dsimp? [mC (Ls:=Ls) hn,nv (PY:=PY) hm (U6 PY.length 0)]];congr 1;rw[List.map_const',WK]
  have e2:bD (cL 0 1) none (ai fm (ae (aa 2) (ae (aa 3) (ae (aa 1) (ae (aj eh (aa 0) (λ_=>M.ok (.int 1))) ao))))) ((RK cf PY Ls PY.length Ls.length Ls.length).1.zipIdx.map λz=>.tup [.int (z.2:Int),mk z.1]) [none,none,some (.sh (tI PY)),some (.sh (.lst ((RK cf PY Ls PY.length Ls.length Ls.length).1.map mk)))]=M.ok ((m_ PY (RK cf PY Ls PY.length Ls.length Ls.length).1 PY.length).map mk):=by
   have I:=all Ls.length (U9 _);generalize RK cf PY Ls PY.length Ls.length Ls.length=rk at *;have rl:=I.st.wf.len;rw[iG (p:=λz:Row×Nat=>PV.int (z.2:Int)) (q:=λz:Row×Nat=>mk z.1) (h:=λz:Row×Nat=>mk (bK PY rk.1 z.1 (z.2+1) (PY.length-(z.2+1)))) rk.1.zipIdx λz hz=>?_]
   .congr 1;rw[m_,VC];refine ac0 (by simp[rl]) λi h1 h2=>?_;have hi:i<rk.1.length:=by simpa using h1
    simp[fE hi]
   .obtain⟨i,hi,e⟩:=Vh.mp hz;rw[W6] at hi;rw[Y0] at e;have ez:z=(row rk.1 i,i):=by rw[<- e,fE hi];simp
    subst ez;have UC:i<PY.length:=by lia
    have:=qF (f:=i+1) (B:=150*Ls.length+1) I.st hn hm (I.st.wf.lV UC) (I.st.wf.at2 UC) (λj hj=>I.st.gd.ja i UC j hj) (U9 _) ⋯ (I.st.bd i UC) ⋯;rw[show ((i+1:Nat):Int)=(i:Int)+1 by lia] at this;dsimp? [this]
  have zl:PY.length<=sizeLine:=aS ⋯;have I:=all Ls.length (U9 _);have rl:=I.st.wf.len;unfold eg jc;simp only[uB];rw[ar (show ([eK pz PY Ls]++([]:List PV)).length+1=2 from rfl)];simp only[zz,z9];dsimp? [oK (PY:=PY) (levers:=Ls) (g:=aa 1) (env:=[some (.bd a az []),some (.sh (eK pz PY Ls)),none,none,none,none,none]) rfl,U8,ar zl,e1,gT,pH (PY:=PY) (levers:=Ls) (g:=aa 1) (env:=[some (.bd a az []),some (.sh (eK pz PY Ls)),some (.sh (tI PY)),some (.sh (.lst ((U6 PY.length ((U6 PY.length (0:Int)),(U6 Ls.length (0:Int)))).map mk))),some (.ow []),none,none]) rfl,dY (n:=(Ls.length:Int)) ⋯ ⋯,VE];refine dy (Ve Ls.length) (λzs env=>∃k x5 x6,k<=Ls.length/\(Ve Ls.length).drop k=zs/\env=[some (.bd a az []),some (.sh (eK pz PY Ls)),some (.sh (tI PY)),some (.sh (.lst ((RK cf PY Ls PY.length Ls.length k).1.map mk))),some (.ow ((RK cf PY Ls PY.length Ls.length k).2.map tI)),x5,x6]) ⟨0,none,none,Vd _,rfl,rfl⟩ ?_ ?_
  .rintro i zs env ⟨k,x5,x6,hk,R5,rfl⟩;obtain⟨c1,c2,c3⟩:=drop_cons R5;rw[VN] at c1;obtain rfl:i=k:=by
    rw[WS c1] at c2;exact(Vk c2).symm
   have J:=all i hk;have L:Lv PY.length Ls.length PY (AA Ls) i (bP Ls Ls.length i):=⟨LL.at_ i c1,by simp[bP,ni],c1,λj hj=>rfl,LL.ja i c1,λl hl=>wF hl⟩
   have tk:=Co J.st L hn hm;have ll:=cY (c:=cf) J.st.wf J.st.hs L.l1 L.l2 PY.length (U9 _);have lb:=oA (c:=cf) J.st L hn PY.length (U9 _);have sp:=Bo (B:=1400) J.rM ll.2 hm ⋯ ↑12 ↑12 (lb.mono ⋯);have il:=J.rM.len;refine⟨_,[some (.bd a az []),some (.sh (eK pz PY Ls)),some (.sh (tI PY)),some (.sh (.lst ((RK cf PY Ls PY.length Ls.length (i+1)).1.map mk))),some (.ow ((RK cf PY Ls PY.length Ls.length (i+1)).2.map tI)),some (.sh (.int (i:Int))),some (.sh (.tup [.lst ((cC cf PY (RK cf PY Ls PY.length Ls.length i).1 (bP Ls Ls.length i) PY.length).map mk),tI (aA cf PY (RK cf PY Ls PY.length Ls.length i).1 (bP Ls Ls.length i) PY.length).2]))],rfl,?_,i+1,_,_,by lia,c3,rfl⟩;dsimp? [Fw (PY:=PY) hm c1,tk,Mp];rw[yy (i:=4) rfl (p:=tI (aY (RK cf PY Ls PY.length Ls.length i).2 i (aA cf PY (RK cf PY Ls PY.length Ls.length i).1 (bP Ls Ls.length i) PY.length).2 i)) (by
    dsimp? [nI,ownAt,Nu,sp];exact ar (vm _)) (by simp[il];lia)]
   dsimp? [RK,W4]
  .rintro env ⟨k,x5,x6,hk,R5,rfl⟩;have:k=Ls.length:=by
    have:=congrArg Yc R5;rw[Wy,VN] at this;simp at this;lia
   subst this;dsimp? [k4];rw[jy _ _ _ _ _ _ ↑13];dsimp? [k4,ot,U8,W6,rl,ar zl,e2];rw[jy _ _ _ _ _ _ (WH (i8 (Vd 0)) ↑12)];dsimp? [k4];rw[jy _ _ _ _ _ _ (WH (i8 (i8 (Vd 0))) ↑12)];dsimp? [];show cX _ _=_;rw[ar ⟨rfl,rfl⟩];rfl
 unfold ff;rw[xW key];rfl
section
variable{A:Nat->bR}
def lQ(h:d<n):row (m_ PY rows n) d=bK PY rows (row rows d) (d+1) (n-(d+1)):=by
 rw[fE (by simp[m_,h])];simp[m_]
theorem Il(h:St n m PY A m rows)(hn:n<=6)(hA:∀i,A m i=0):St n m PY A (m+1) (m_ PY rows n):=by
 have hl:∀d,d<n->(bK PY rows (row rows d) (d+1) (n-(d+1))).1.length=n/\(bK PY rows (row rows d) (d+1) (n-(d+1))).2.length=m:=λd hd=>jo h (h.wf.lV hd) (h.wf.at2 hd) _ ⋯;have lg:=wA (D':=DD (m_ PY rows n)) h.gd (λd e=>vf (bK PY rows (row rows d) (d+1) (e-(d+1))).1) (λd hd=>pD h (h.wf.lV hd) (h.wf.at2 hd) λi hi=>h.gd.ja d hd i hi) (λd hd i hi=>by
  show vf (bK PY rows (row rows d) (d+1) (d+1-(d+1))).1 i=_;rw[abt];rfl) λd hd i hi=>by
  unfold DD;rw[lQ hd]
 refine⟨⟨by simp[m_],λr hr=>?_,λr hr=>?_⟩,h.hs,h.sm,lg.1,λd hd=>?_,λd hd l h1 h2=>by lia,λd hd=>?_,λl hl=>?_⟩
 .obtain⟨d,hd,rfl⟩:=VH.mp hr;exact(hl d (V9.mp hd)).1
 .obtain⟨d,hd,rfl⟩:=VH.mp hr;exact(hl d (V9.mp hd)).2
 .unfold DD PP;rw[lQ hd];have:=yI h (f:=d+1) (h.wf.lV hd) (h.wf.at2 hd) (P₀:=λ_=>0) (B:=λ_=>0) (by
   have q:=h.led d hd;intro i hi;have:=q i hi;simp only[Zw];exact this) (n-(d+1)) ⋯
  intro i hi;have:=this i hi;simp only[Zw] at this;exact this
 .rw[lQ hd];exact(xq h (f:=d+1) (h.wf.lV hd) (h.wf.at2 hd) (λi hi=>h.gd.ja d hd i hi) (U9 _) (h.bd d hd) (n-(d+1)) ⋯).mono ⋯
 .rcases VT l m with q|q
  .exact lg.2.2.2.2 n 0 ⋯ _ (h.cl l q)
  .obtain rfl:l=m:=by lia
   exact G.ext ⋯ (λi _=>(hA i).symm) (G.zero ⋯)
end
def oI(pz PY:List Int)(Ls:List (List Int))(R:List Row)(P1:List (List Int)):PV:=.obj az (xF (eK pz PY Ls) R P1)
section
variable{R:List Row}
def LS:(xF (eK pz PY Ls) R P1).lookup (VS "vault")=some (eK pz PY Ls):=rfl
def Mr:(xF (eK pz PY Ls) R P1).lookup (VS "made_rows")=some (.lst (R.map mk)):=rfl
def OW:(xF (eK pz PY Ls) R P1).lookup (VS "idle_rows")=some (.lst (P1.map tI)):=rfl
def Pb{g:af->M PV}{env:af}(h:g env=M.ok (oI pz PY Ls R P1)):eW (λc=>c==az) "vault" g env=M.ok (eK pz PY Ls):=by
 rw[eW,h,M.aV];show cX _ (fZ (Yt _ _))=_;rw[ar (beq_self_eq_true _),LS];rfl
def Px{g:af->M PV}{env:af}(h:g env=M.ok (oI pz PY Ls R P1)):eW (λc=>c==az) "made_rows" g env=M.ok (.lst (R.map mk)):=by
 rw[eW,h,M.aV];show cX _ (fZ (Yt _ _))=_;rw[ar (beq_self_eq_true _),Mr];rfl
theorem FA{A:Nat->bR}(S:Sz PY)(hm:Ls.length<=8)(h:St PY.length Ls.length PY A k R)(hk:k<=9)(hx:Fu PY xs)(h0:∀i,i<PY.length->0<=vf xs i/\vf xs i<vf PY i):cz [oI pz PY Ls R P1,tI xs]=M.ok (mk (bK PY R (xs,U6 Ls.length 0) 0 PY.length)):=by
 have lo:=qF (f:=0) (B:=150*k+1) (r:=(xs,U6 Ls.length 0)) h S.h6 hm hx.len ↑13 h0 (U9 _) ⋯ (λx hx=>by rw[Xv hx];exact X9 _) (Vd _);rw[acE] at lo;unfold cz cx;dsimp? [Pb (PY:=PY) (Ls:=Ls) (R:=R) (P1:=P1) (g:=aa 0) (env:=[some (.sh (oI pz PY Ls R P1)),some (.sh (tI xs))]) rfl,Px (PY:=PY) (Ls:=Ls) (R:=R) (P1:=P1) (g:=aa 0) (env:=[some (.sh (oI pz PY Ls R P1)),some (.sh (tI xs))]) rfl,ou (levers:=Ls) S hx,nv (PY:=PY) hm xs,oK (PY:=PY) (levers:=Ls) (g:=eW (λc=>c==az) "vault" (aa 0)) (env:=[some (.sh (oI pz PY Ls R P1)),some (.sh (tI xs))]) (Pb (R:=R) (P1:=P1) rfl),show fm [tI PY,.lst (R.map mk),mk (xs,U6 Ls.length 0),.int 0]=_ from lo]
end
section
variable{R:List Row}
end
def CJ(PY xs ys:List Int)(t:Int):List Int:=(xs.zip (ys.zip PY)).map λz=>(z.1+t*z.2.1)%z.2.2
theorem wC{t:Int}(h1:xs.length=PY.length)(h2:ys.length=PY.length):(CJ PY xs ys t).length=PY.length:=by
 simp[CJ];lia
theorem Ir{t:Int}(h1:xs.length=PY.length)(h2:ys.length=PY.length)(hi:i<PY.length):vf (CJ PY xs ys t) i=(vf xs i+t*vf ys i)%vf PY i:=by
 rw[aP (by rwa[wC h1 h2]),aP ⋯,aP ⋯,aP hi];simp[CJ]
theorem pZ(p:PV)(n:Nat)(h8:n<=1000):b_ (.lst [p]) (.int (n:Int))=M.ok (.lst (U6 n p)):=by
 have h2:[p].length*(n:Int).toNat<=sizeLine:=by
  rw[VE];exact aS (by show 1*n<=1000;lia)
 have h3:(n:Int)<2^63:=aav (acL.mpr h8) ↑12;have h4:-(2^63)<=(n:Int):=abq ↑12 (aco n);rw[b_,ar ⟨h4,h3,h2⟩,VE,qG]
def F6{a b:Int}(h:b∈U6 n a):b=a:=Xv h
theorem two{c:Int}:c%2=0\/c%2=1:=by lia
def DV(h:i<xs.length):a_ (lI xs) (.int (i:Int))=M.ok (.int (vf xs i)) :=
 bV (p:=lI xs) rfl (by rw[VD,U4 h,aP h];rfl)
def getD_at{β:Type}(f:α->β){xs:List α}{a:α}{b:β}{l:Nat}(h:l<xs.length):(xs.map f).getD l b=f (xs.getD l a):=by
 rw[Va,Va,VD,U4 h];rfl
def getD_mem{xs:List α}{a:α}{l:Nat}(h:l<xs.length):xs.getD l a∈xs:=by
 rw[Va,U4 h];exact Vx h
variable{Qz:List (List Int)}
theorem DW(S:Sz PY)(hr:∀l∈Qz,l.length=PY.length/\Bd 200 l):Nj PY.length Qz.length PY (Qz.map λl=>uE l PY)/\∀l,l<Qz.length->∀i,i<PY.length->AA (Qz.map λl=>uE l PY) l i=vf (Qz.getD l []) i%vf PY i:=by
 have e:∀l,l<Qz.length->∀i,i<PY.length->AA (Qz.map λl=>uE l PY) l i=vf (Qz.getD l []) i%vf PY i:=λl hl i hi=>by
  unfold AA;rw[getD_at (a:=[]) _ hl,uK,jz (by rwa[(hr _ (getD_mem hl)).1]) hi]
 refine⟨⟨by simp,λl hl=>?_,λl hl i hi=>?_⟩,e⟩
 .rw[getD_at (a:=[]) _ hl,uK,iI,(hr _ (getD_mem hl)).1];lia
 .rw[e l hl i hi];have:=S.hx _ (Vx hi);rw[<- aP hi] at this;exact⟨VM _ ⋯,Vy _ ⋯⟩
theorem nH(S:Sz PY):∀i,i<PY.length->0<vf PY i/\vf PY i<=360:=λi hi=>by
 have:=S.hx _ (Vx hi);rw[<- aP hi] at this;lia
theorem ux(h:xs.length=PY.length)(h0:∀i,i<PY.length->0<=vf xs i/\vf xs i<vf PY i):Fu PY xs:=⟨h,λz hz=>by
 obtain⟨i,hi,rfl⟩:=Vh.mp hz;rw[We] at hi;have:=h0 i ⋯;rw[aP ⋯,aP ⋯] at this;simpa using this⟩
def l7(ns:List Int)(a b:Nat):List Int:=(ns.drop (HT.da ns.length 0 (some (a:Int)))).take (HT.da ns.length ns.length (some (b:Int))-HT.da ns.length 0 (some (a:Int)))
def FV(ns:List Int)(a b:Nat):M_ (.jX (ns.map PV.int)) (some (a:Int)) (some (b:Int))=M.ok (.lst ((l7 ns a b).map PV.int)):=by
 show M.ok (PV.lst (nO (ns.map PV.int) _ _))=_;rw[nO,l7,List.map_take,List.map_drop,U8]
theorem zM(ns:List Int)(a b:Nat):(l7 ns a b).length<=b-a:=by
 unfold l7;rw[YN,Wy,HT.uY,HT.uY];lia
def yi{z:Int×Nat}(h:z∈xs.zipIdx):z.2<xs.length:=by
 obtain⟨i,hi,rfl⟩:=Vh.mp h;simp at hi ⊢;exact hi
def Lo(Ls:List (List Int))(i:Nat):AA Ls Ls.length i=0:=by
 unfold AA;rw[Va,ZD (U9 _)];exact xy (Vd _)
section
variable{R:List Row}{A:Nat->bR}
def wJ{m:Str}{sem:List PV->M PV}{x:M (List PV)}(h:(xF (eK pz PY Ls) R P1).lookup m=none):qy az m sem (oI pz PY Ls R P1) x=x.bind λps=>sem (oI pz PY Ls R P1::ps):=iJ h
def Oa:CY (λc=>c==az) "vault" (oI pz PY Ls R P1)=M.ok (eK pz PY Ls):=qI (beq_self_eq_true _) LS
def OD:CY (λc=>c==az) "made_rows" (oI pz PY Ls R P1)=M.ok (.lst (R.map mk)):=qI (beq_self_eq_true _) Mr
def PK:CY (λc=>c==az) "idle_rows" (oI pz PY Ls R P1)=M.ok (.lst (P1.map tI)):=qI (beq_self_eq_true _) OW
def Hi:qy au "sizes" aT (eK pz PY Ls) (M.ok [])=M.ok (tI PY):=(iJ (fl:=mX pz PY Ls) rfl).trans (vy PY Ls)
def lst(PY:List Int)(Ls:List (List Int))(R:List Row)(xs:List Int):List Int:=(bK PY R (xs,U6 Ls.length 0) 0 PY.length).1
theorem Av(h:St PY.length Ls.length PY A k R)(hl:xs.length=PY.length)(h0:∀i,i<PY.length->0<=vf xs i/\vf xs i<vf PY i):(lst PY Ls R xs).length=PY.length/\(∀i,i<PY.length->0<=vf (lst PY Ls R xs) i/\vf (lst PY Ls R xs) i<aO (vf PY) (DD R) i)/\(∀i,i<PY.length->0<=vf (lst PY Ls R xs) i/\vf (lst PY Ls R xs) i<vf PY i)/\G PY.length (vf PY) (DD R) PY.length 0 (λi=>vf xs i-vf (lst PY Ls R xs) i):=by
 have r2:(U6 Ls.length (0:Int)).length=Ls.length:=by simp
 have ll:=jo h (f:=0) (r:=(xs,U6 Ls.length 0)) hl r2 PY.length ⋯;have dn:=pD h (f:=0) (r:=(xs,U6 Ls.length 0)) hl r2 h0;exact⟨ll.1,λi hi=>dn.low h.gd PY.length (Vd _) (U9 _) i (Vd _) hi,λi hi=>dn.kept h.gd PY.length (Vd _) (U9 _) i hi,dn.away h.gd PY.length (Vd _) (U9 _) PY.length ⋯⟩
def DQ(S:Sz PY)(hm:Ls.length<=8)(h:St PY.length Ls.length PY A k R)(hk:k<=9)(hl:xs.length=PY.length)(h0:∀i,i<PY.length->0<=vf xs i/\vf xs i<vf PY i):fH [oI pz PY Ls R P1,tI xs]=M.ok (tI (lst PY Ls R xs)):=by
 have dk:=FA (P1:=P1) (pz:=pz) S hm h hk (ux hl h0) h0;unfold fH fV;dsimp? [dq,wJ (m := "brought_down") rfl,dk,tj];rfl
def jt(PY:List Int)(R:List Row):List Int:=(Ve PY.length).map λd=>aO (vf PY) (DD R) d
def g8:(jt PY R).length=PY.length:=by simp[jt]
def uV(h:i<PY.length):vf (jt PY R) i=aO (vf PY) (DD R) i:=by
 rw[aP (by rwa[g8])];simp[jt]
def ES(P1:List (List Int)):List Int:=P1.zipIdx.map λz=>vf z.1 z.2
def oy:(ES P1).length=P1.length:=by simp[ES]
def B7(h:i<P1.length):vf (ES P1) i=II P1 i i:=by
 rw[aP (by rwa[oy])];simp only[ES,WO,Y0,abn];unfold II;rw[Va,U4 h];rfl
theorem wq(S:Sz PY)(h:St PY.length Ls.length PY A k R):dX [oI pz PY Ls R P1]=M.ok (tI (jt PY R)):=by
 have l6:=S.h6;have key:bD (bB 0) none (ai du (ae (aa 2) (ae (eW (λc=>c==az) "made_rows" (aa 1)) (ae (aa 0) ao)))) ((Ve PY.length).map λ(i:Nat)=>.int (i:Int)) [none,some (.sh (oI pz PY Ls R P1)),some (.sh (tI PY))]=M.ok ((Ve PY.length).map λd=>.int (aO (vf PY) (DD R) d)):=by
  refine fk (inj:=λ(i:Nat)=>PV.int (i:Int)) (Ve PY.length) λi hi=>?_;dsimp? [j9,OD,uA h.wf h.hs (V9.mp hi)]
 unfold dX dP;dsimp? [j9,Oa,dq,Hi,dY (n:=(PY.length:Int)) ⋯ ⋯,VE,U8,VN,ar (aS (show PY.length<=1000 by lia)),key];rw[tI,jt,VC];rfl
theorem AY(hm:Ls.length<=8)(I:Bb PY.length Ls.length (vf PY) A Ls.length P1):fN [oI pz PY Ls R P1]=M.ok (tI (ES P1)):=by
 have il:=I.len;have key:bD (cL 0 1) none (aj a_ (aa 1) (aa 0)) (P1.zipIdx.map λz=>.tup [.int (z.2:Int),tI z.1]) [none,none]=M.ok (P1.zipIdx.map λz=>.int (vf z.1 z.2)):=by
  refine iG (p:=λz:List Int×Nat=>PV.int (z.2:Int)) (q:=λz:List Int×Nat=>tI z.1) P1.zipIdx λz hz=>?_;obtain⟨i,hi,rfl⟩:=Vh.mp hz;rw[W6] at hi;have:=I.l2 i ⋯;rw[Va,U4 hi] at this;simp only[Y0,abn];dsimp? [iB (xs:=P1[i]) (i:=i) (by rw[show P1[i].length=Ls.length from this];lia)]
 unfold fN fL;dsimp? [j9,PK,ot,U8,W6,ar (aS (show P1.length<=1000 by lia)),key];rw[tI,ES,VC];rfl
end
section
variable{R:List Row}
theorem IA(S:Sz PY):∀s∈PY,0<s:=λs hs=>by have:=S.hx s hs;lia
theorem Eg(S:Sz PY):∀i,i<PY.length->0<=vf (U6 PY.length 0) i/\vf (U6 PY.length 0) i<vf PY i:=λi hi=>by rw[fF];have:=nH S i hi;lia
theorem pG(S:Sz PY){F:List Int}(h:F.length=PY.length)(k:∀i,i<PY.length->0<=vf F i/\vf F i<vf PY i):Bd 200 F:=λx hx=>by
 obtain⟨i,hi,rfl⟩:=Vh.mp hx;have h2:=k i ⋯;rw[aP hi] at h2;have:=nH S i ⋯;lia
structure jH (ns:List Int) (PY:List Int) (Qz Ls:List (List Int)) (R:List Row) (P1:List (List Int)):Prop where
 S:Sz PY
 hr:∀l∈Qz,l.length=PY.length/\Bd 200 l
 eL:Ls=Qz.map λl=>uE l PY
 hm:Qz.length=Ls.length
 m8:Ls.length<=8
 eA:∀l,l<Qz.length->∀i,i<PY.length->AA Ls l i=vf (Qz.getD l []) i%vf PY i
 LL:Nj PY.length Ls.length PY Ls
 st:St PY.length Ls.length PY (AA Ls) (Ls.length+1) R
 I:Bb PY.length Ls.length (vf PY) (AA Ls) Ls.length P1
 pr:aE Ls.length (λj=>II P1 j j)*aE PY.length (aO (vf PY) (DD R))=aE PY.length (vf PY)
 ord:∀j,j<Ls.length->∀P:bR,Zf (j+1) Ls.length P->Led PY.length (vf PY) Ls.length (AA Ls) (λ_=>0) P->II P1 j j∣P j
 low:∀d,d<PY.length->∀e,d<e->e<PY.length->DD R d e<aO (vf PY) (DD R) e
 nul:∀d,d<PY.length->DD R d d=0->∀i,i<PY.length->DD R d i=0
 NF:∀{p:PV}{f:List Int->PV},(f=tI\/f=lI)->bL p=some (PY.map PV.int)->ff au cS [.c_] [p,.lst (Qz.map f)]=M.ok (eK (ones Ls) PY Ls)
 MH:∀{pz:List Int},ff az eg [] [eK pz PY Ls]=M.ok (oI pz PY Ls R P1)
theorem jH.get(ns:List Int)(S:Sz PY)(r8:Qz.length<=8)(hr:∀l∈Qz,l.length=PY.length/\Bd 200 l):∃Ls R P1,jH ns PY Qz Ls R P1:=by
 have l6:=S.h6;have sp:=nH S;obtain⟨LL,eA⟩:=DW S hr;have NF:=λ{p:PV} {f:List Int->PV} (hf:f=tI\/f=lI) hp=>FN (p:=p) hf PY Qz hp S r8 λl h=>(hr l h).1;have hm:Qz.length=(Qz.map λl=>uE l PY).length:=by simp
 generalize hLs:(Qz.map λl=>uE l PY)=Ls at *;rw[hm] at LL r8;have K:=Bv.all (c:=cf) rfl sp LL DK l6 Ls.length (U9 _);have MH:=λ{pz:List Int}=>CP (pz:=pz) S.h1 l6 r8 sp LL;generalize RK cf PY Ls PY.length Ls.length Ls.length=rk at *;have h:=K.st;have hl:∀d,d<PY.length->(bK PY rk.1 (row rk.1 d) (d+1) (PY.length-(d+1))).1.length=PY.length:=λd hd=>(jo h (h.wf.lV hd) (h.wf.at2 hd) _ ⋯).1;have lg:=wA (D':=DD (m_ PY rk.1 PY.length)) h.gd (λd e=>vf (bK PY rk.1 (row rk.1 d) (d+1) (e-(d+1))).1) (λd hd=>pD h (h.wf.lV hd) (h.wf.at2 hd) λi hi=>h.gd.ja d hd i hi) (λd hd i hi=>by
  show vf (bK PY rk.1 (row rk.1 d) (d+1) (d+1-(d+1))).1 i=_;rw[abt];rfl) (λd hd i hi=>by unfold DD;rw[lQ hd])
 refine⟨Ls,m_ PY rk.1 PY.length,rk.2,S,hr,hLs.symm,hm,r8,eA,LL,Il K.st l6 (Lo Ls),K.rM,?_,K.ord,?_,?_,NF,MH⟩
 .rw[eJ (f:=aO (vf PY) (DD (m_ PY rk.1 PY.length))) (g:=aO (vf PY) (DD rk.1)) lg.2.1];exact K.pr
 .intro d hd e h1 h2;rw[lg.2.1 e h2];exact lg.2.2.1 d hd e h1 h2
 .exact lg.2.2.2.1
end
def Aw(PY:List Int)(levers:List (List Int)):cK [eK pz PY levers]=M.ok (.int (R PY)):=by
 unfold cK dc;dsimp? [eW,eK,beq_self_eq_true,Ed]
def O1:qy au "around" cK (eK pz PY Ls) (M.ok [])=M.ok (.int (R PY)):=(iJ (fl:=mX pz PY Ls) rfl).trans (Aw PY Ls)
def NG(PY ws xs:List Int):Int:=((((ws.zip PY).map λz=>z.1*(R PY/z.2)).zip xs).map λz=>z.1*z.2).sum%R PY
variable{s:Int}
theorem qw(h:Sz PY)(hs:s∈PY):0<=R PY/s/\R PY/s<2^60:=by
 have h1:=p7 h;have h2:=M3 h;have h3:=h.hx s hs;refine⟨Xg ⋯ ⋯,aav (YU s ⋯) h2⟩
theorem Dv(h:Sz PY){w:Int}(hw:0<=w/\w<360)(hs:s∈PY):(w*(R PY/s)).natAbs<2^80:=by
 have h1:=qw h hs;rw[XU];have:w.natAbs*(R PY/s).natAbs<=2^9*2^60:=Ys ⋯ ⋯;exact WH this ↑12
theorem Bk(h:Sz PY){ws:List Int}(hw:Fu PY ws)(hs:Fu PY xs):om [eK pz PY levers,tI ws,tI xs]=M.ok (.int (NG PY ws xs)):=by
 have l6:=h.h6;have k1:bD (cL 0 1) none (aj b_ (aa 0) (aj bZ (aa 2) (aa 1))) ((ws.zip PY).map λz=>.tup [.int z.1,.int z.2]) [none,none,some (.sh (.int (R PY)))]=M.ok ((ws.zip PY).map λz=>.int (z.1*(R PY/z.2))):=by
  refine iG (p:=λz:Int×Int=>PV.int z.1) (q:=λz:Int×Int=>PV.int z.2) (ws.zip PY) λz hz=>?_;obtain⟨m1,m2⟩:=lH hz;have a1:=h.hx z.2 m2;have a2:=uM h hw m1;have a3:=qw h m2;dsimp? [bh (i:=R PY) (show 0<z.2 by lia) (show z.2<2^64 by lia),bu (k:=64) (l:=64) (show z.1.natAbs<2^64 by lia) (show (R PY/z.2).natAbs<2^64 by lia)]
 have z1:(ws.zip PY).length<=sizeLine:=by rw[We];exact aS (Vz (aaR _ _) ⋯)
 let us:=(ws.zip PY).map λz=>z.1*(R PY/z.2)
 have k2:bD (cL 0 1) none (aj b_ (aa 0) (aa 1)) ((us.zip xs).map λz=>.tup [.int z.1,.int z.2]) [none,none]=M.ok ((us.zip xs).map λz=>.int (z.1*z.2)):=by
  refine iG (p:=λz:Int×Int=>PV.int z.1) (q:=λz:Int×Int=>PV.int z.2) (us.zip xs) λz hz=>?_;obtain⟨m1,m2⟩:=lH hz;obtain⟨y,hy,e⟩:=VH.mp m1;obtain⟨n1,n2⟩:=lH hy;have a1:=Dv h (uM h hw n1) n2;rw[e] at a1;have a2:=uM h hs m2;dsimp? [bu (k:=80) (l:=64) a1 (show z.2.natAbs<2^64 by lia)]
 have z2:(us.zip xs).length<=sizeLine:=by rw[We];exact aS (Vz (aaR _ _) (by rw[hs.len];lia))
 have k3:jg [.lst ((ws.zip PY).map λz=>.int (z.1*(R PY/z.2))),tI xs,.int (R PY)]=M.ok (.int (NG PY ws xs)):=by
  have e0:bL (.lst ((ws.zip PY).map λz=>PV.int (z.1*(R PY/z.2))))=some (us.map PV.int):=by
   rw[pC,VC];rfl
  have e1:xx [.lst ((us.zip xs).map λz=>PV.int (z.1*z.2))]=M.ok (.int ((us.zip xs).map λz=>z.1*z.2).sum):=by
   have:=vI ((us.zip xs).map λz=>z.1*z.2);rwa[VC] at this
  unfold jg jm;dsimp? [gX (q:=tI xs) us xs e0 rfl,U8,ar z2,k2,e1,bw (p7 h)];rfl
 unfold om oN;dsimp? [ou (levers:=levers) h hw,ou (levers:=levers) h hs,dq,O1,Hi,gX (p:=tI ws) (q:=tI PY) ws PY rfl rfl,U8,ar z1,k1,k3]
theorem wX(xs:List Int):∀m,m<=xs.length->(xs.take m).sum=bO m (vf xs)
 | 0,_=>by simp[bO]
 | m+1,h=>by
  rw[bO,<- wX xs m ⋯,VX ⋯,List.sum_append,aP ⋯];simp
def wm(xs:List Int):xs.sum=bO xs.length (vf xs):=by
 rw[<- wX xs _ (U9 _),Xk]
theorem G_{ws:List Int}(h1:ws.length=PY.length)(h2:xs.length=PY.length):NG PY ws xs=eP PY.length (vf PY) (R PY) (vf ws) (vf xs)%R PY:=by
 unfold NG eP;rw[wm];have hl:((((ws.zip PY).map λz=>z.1*(R PY/z.2)).zip xs).map λz=>z.1*z.2).length=PY.length:=by simp;lia
 rw[hl];congr 1;refine fc λi hi=>?_;rw[aP (by rwa[hl]),aP ⋯,aP ⋯,aP ⋯];simp only[WO,Xl];rw[Xu,W2 (R PY/_),<- Xu]
variable{T:List Row}{ns:List Int}
variable{v:Int}
def Bq(S:Sz PY):∀i,i<PY.length->vf PY i∣R PY:=λi hi=>by rw[aP hi];exact Mo S (Vx hi)
def tY(PY:List Int)(T:List Row):List Int:=(PY.zip (jt PY T)).map λz=>z.1/z.2
def qt:(tY PY T).length=PY.length:=by simp[tY,g8]
def yD(h:i<PY.length):vf (tY PY T) i=cA (vf PY) (DD T) i:=by
 have e:=uV (R:=T) h;rw[aP (by rwa[g8])] at e;rw[aP (by rwa[qt])];simp only[tY,WO,Xl];rw[e,<- aP h];rfl
theorem Iu(h:j<n):Bj n (j:Int)=some j:=by
 unfold Bj;rw[if_pos ⋯,if_pos ⋯];simp
def vA{env:af}(h:j<xs.length):Hf i (xs.map PV.int) (.int v) env (.int (j:Int))=M.ok (.nx (env.set i (some (.ow ((xs.set j v).map PV.int))))):=by
 show (match Bj (xs.map PV.int).length (j:Int) with|some j=>_|none=>_)=_;rw[U8,Iu h,List.map_set]
def qu(h:i<xs.length):vf (xs.set j v) i=if i=j then v else vf xs i:=by
 rw[aP (by rwa[ZX]),List.getElem_set,aP h]
 by_cases z:i=j
 .rw[if_pos z,if_pos z.symm]
 .rw[if_neg z,if_neg (WW z)]
def Ei(x:Int):AS (M.ok (.int x))=M.ok (.int x):=V2 rfl rfl
theorem xJ(Q:jH ns PY Qz Ls T P1)(hd:d<PY.length):hV (bx [oI pz PY Ls T P1,.int (d:Int)]) λp=>∃W:List Int,p=tI W/\W.length=PY.length/\(∀i,i<PY.length->0<=vf W i/\vf W i<vf PY i)/\Wk PY.length (vf PY) (DD T) (R PY) d 0 (vf W):=by
 have l6:=Q.S.h6;have l1:=Q.S.h1;have g:=Q.st.gd;have rl:=Q.st.wf.len;have qd:=Bq Q.S;have q0:=p7 Q.S;have q1:=M3 Q.S;have so:=wq (P1:=P1) (pz:=pz) Q.S Q.st;have fl:∀i,i<PY.length->0<cA (vf PY) (DD T) i/\cA (vf PY) (DD T) i<=vf PY i/\vf PY i<=360:=λi hi=>⟨(jx g hi).2.1,(jx g hi).2.2,(nH Q.S i hi).2⟩
 have key:bD (cL 0 1) none (aj bZ (aa 0) (aa 1)) ((PY.zip (jt PY T)).map λz=>.tup [.int z.1,.int z.2]) [none,none]=M.ok ((PY.zip (jt PY T)).map λz=>.int (z.1/z.2)):=by
  refine iG (p:=λz:Int×Int=>PV.int z.1) (q:=λz:Int×Int=>PV.int z.2) (PY.zip (jt PY T)) λz hz=>?_;obtain⟨i,hi,e⟩:=Vh.mp (lH hz).2;rw[g8] at hi;have e2:=uV (R:=T) hi;rw[aP (by rwa[g8]),e] at e2;have p:=g.pos hi;have:=nH Q.S i hi;dsimp? [bh (i:=z.1) (j:=z.2) ⋯ ⋯]
 have zl:(PY.zip (jt PY T)).length<=sizeLine:=by rw[We];exact aS (Vz (Y9 _ _) ⋯)
 have ef:PV.lst ((PY.zip (jt PY T)).map λz=>PV.int (z.1/z.2))=lI (tY PY T):=by rw[lI,tY,VC];rfl
 have wi:dh [.int (d:Int),.int 0,.int ((PY.length:Int)-1)]=M.ok (.bl true):=by
  rw[within_int,decide_eq_true ⋯]
 have e0:Ca (.lst [.int 0]) (.int (PY.length:Int))=M.ok ((U6 PY.length 0).map PV.int):=by
  rw[Ca,ar ⟨by lia,by lia,by rw[VE];exact aS (by show 1*PY.length<=1000;lia)⟩,VE,qG,WK]
 unfold bx cV;dsimp? [j9,Oa,dq,Hi,wi,wJ (m := "steps") rfl,so,gX (p:=tI PY) (q:=tI (jt PY T)) PY (jt PY T) rfl rfl,U8,ar zl,key,ef,Lz,e0,Nd,ownAt,DV (xs:=tY PY T) (i:=d) (by rwa[qt]),yD hd,iB (xs:=PY) (i:=d) hd,bw (i:=cA (vf PY) (DD T) d) (j:=vf PY d) (by have:=fl d hd;lia),vA (i:=4) (xs:=U6 PY.length 0) (j:=d) (by simp;exact hd),vT d ⋯];refine hV.loop (xs:=Ve d) (inj:=λ(i:Nat)=>.int ((d:Int)-1+(i:Int)*-1)) (λzs env=>∃(c:Nat)(W:List Int)(y5 y6 y7:Option SV),env=[some (.sh (oI pz PY Ls T P1)),some (.sh (.int (d:Int))),some (.sh (tI PY)),some (.sh (lI (tY PY T))),some (.ow (W.map PV.int)),y5,y6,y7]/\c<=d/\zs=(Ve d).drop c/\W.length=PY.length/\(∀i,i<PY.length->0<=vf W i/\vf W i<vf PY i)/\Wk PY.length (vf PY) (DD T) (R PY) d (d-c) (vf W)) ⟨0,_,_,_,_,rfl,by lia,rfl,by simp,λi hi=>?_,Wk.start g qd hd λi hi=>?_⟩ ?_ ?_
 .rw[qu (by simp;exact hi),fF];have:=fl i hi
  split
  .rename_i z;subst z;exact⟨VM _ ⋯,Vy _ ⋯⟩
  .lia
 .rw[qu (by simp;exact hi),fF]
 .rintro k r env ⟨c,W,y5,y6,y7,rfl,hc,hz,Wl,W0,Wt⟩;obtain⟨c1,c2,c3⟩:=drop_cons hz.symm;rw[VN] at c1;have ek:k=c:=by rw[WS c1] at c2;exact(Vk c2).symm
  subst ek;obtain⟨a,ha⟩:∃a,a=d-1-k:=⟨_,rfl⟩
  have ea:((d:Int)-1+(k:Int)*-1)=(a:Int):=by lia
  have an:a<PY.length:=by lia
  have fa:=fl a an;have r1:=Q.st.wf.lV an;have rk:∀i,i<PY.length->0<=vf (row T a).1 i/\vf (row T a).1 i<vf PY i:=λi hi=>g.ja a an i hi;have we:=Bk (pz:=pz) (levers:=Ls) Q.S (ux Wl W0) (ux r1 rk);rw[G_ Wl r1] at we;have eq:vf (row T a).1=DD T a:=rfl;rw[eq] at we;have p0:0<=eP PY.length (vf PY) (R PY) (vf W) (DD T a)%R PY:=VM _ ⋯;have p1:eP PY.length (vf PY) (R PY) (vf W) (DD T a)%R PY<R PY:=Vy _ q0;have fR:cA (vf PY) (DD T) a∣R PY:=Wi ⟨_,(jx g an).1.symm⟩ (qd a an);have s0:0<R PY/cA (vf PY) (DD T) a:=by
   obtain⟨x,hx⟩:=fR;rw[hx,Vr _ ⋯];rcases XC x 0 with q|q|q
   .have:=X5 fa.1 q;lia
   .rw[q] at hx;lia
   .exact q
  have s1:R PY/cA (vf PY) (DD T) a<=R PY:=YU _ ⋯;have tw:PV.tup (W.map PV.int)=tI W:=rfl;dsimp? [bB,ea,nI,ownAt,ph,j9,Oa,tw,OD,oV (rows:=T) (d:=a) ⋯,tj,we,Ei,dq,O1,DV (xs:=tY PY T) (i:=a) (by rw[qt];exact an),yD an,bh (i:=R PY) (j:=cA (vf PY) (DD T) a) ⋯ ⋯,bh (i:=eP PY.length (vf PY) (R PY) (vf W) (DD T a)%R PY) (j:=R PY/cA (vf PY) (DD T) a) ⋯ ⋯,bw (i:=-(eP PY.length (vf PY) (R PY) (vf W) (DD T a)%R PY/(R PY/cA (vf PY) (DD T) a))) (j:=cA (vf PY) (DD T) a) ⋯,Nd,vA (i:=4) (xs:=W) (j:=a) ⋯];refine⟨_,rfl,k+1,_,_,_,_,rfl,by lia,c3.symm,by simpa using Wl,λi hi=>?_,?_⟩
  .rw[qu ⋯]
   split
   .rename_i z;subst z;have h1:=VM (-(eP PY.length (vf PY) (R PY) (vf W) (DD T i)%R PY/(R PY/cA (vf PY) (DD T) i))) (show cA (vf PY) (DD T) i≠0 by lia);have h2:=Vy (-(eP PY.length (vf PY) (R PY) (vf W) (DD T i)%R PY/(R PY/cA (vf PY) (DD T) i))) fa.1;lia
   .exact W0 i hi
  .rw[show d-(k+1)=a by lia];refine Wk.next g q0 qd hd (w:=vf W) (by rwa[show a+1=d-k by lia]) ⋯ ?_ λi hi Se=>?_
   .rw[qu ⋯,if_pos rfl]
   .rw[qu ⋯,if_neg Se]
 .rintro env ⟨c,W,y5,y6,y7,rfl,hc,hz,Wl,W0,Wt⟩;have:c=d:=by
   have:=congrArg Yc hz;rw[Wy,VN] at this;simp at this;lia
  subst this;rw[abt] at Wt;exact⟨_,rfl,W,rfl,Wl,W0,Wt⟩
def PF:qy au "levers" bH (eK pz PY Ls) (M.ok [])=M.ok (.tup (Ls.map tI)):=(iJ (fl:=mX pz PY Ls) rfl).trans (sU PY Ls)
def ad(PY xs ys:List Int)(t:Int):List Int:=uE ((xs.zip ys).map λz=>z.1+t*z.2) PY
theorem lD{t:Int}(S:Sz PY)(h1:xs.length=PY.length)(h2:ys.length=PY.length):(ad PY xs ys t).length=PY.length/\∀i,i<PY.length->vf (ad PY xs ys t) i=(vf xs i+t*vf ys i)%vf PY i:=by
 have hl:((xs.zip ys).map λz=>z.1+t*z.2).length=PY.length:=by simp;lia
 refine⟨by rw[ad,uK,iI,hl];simp,λi hi=>?_⟩;rw[ad,uK,jz (by rwa[hl]) hi,aP (by rwa[hl]),aP (xs:=xs) ⋯,aP (xs:=ys) ⋯];simp
theorem z7{t:Int}(S:Sz PY)(h1:xs.length=PY.length)(hy:Bd 200 ys)(ht:t.natAbs<2^200):lB [eK pz PY Ls,tI xs,tI ys,.int t]=M.ok (tI (ad PY xs ys t)):=by
 have l6:=S.h6;have k1:bD (cL 0 1) none (aj eh (aa 0) (aj b_ (aa 2) (aa 1))) ((xs.zip ys).map λz=>.tup [.int z.1,.int z.2]) [none,none,some (.sh (.int t))]=M.ok ((xs.zip ys).map λz=>.int (z.1+t*z.2)):=by
  refine iG (p:=λz:Int×Int=>PV.int z.1) (q:=λz:Int×Int=>PV.int z.2) (xs.zip ys) λz hz=>?_;dsimp? [bu (k:=200) (l:=200) ht (hy _ (lH hz).2)]
 have z1:(xs.zip ys).length<=sizeLine:=by rw[We];exact aS (Vz (Y9 _ _) ⋯)
 have e0:bL (.lst ((xs.zip ys).map λz=>PV.int (z.1+t*z.2)))=some (((xs.zip ys).map λz=>z.1+t*z.2).map PV.int):=by
  rw[pC,VC];rfl
 have r:=pQ (.lst ((xs.zip ys).map λz=>PV.int (z.1+t*z.2))) (tI PY) _ PY e0 rfl (IA S) (by rw[U8,We];lia);unfold lB oE;dsimp? [gX (p:=tI xs) (q:=tI ys) xs ys rfl rfl,U8,ar z1,k1,dq,Hi,r];rfl
structure Ws (PY:List Int) (T:List Row) (d:Nat) (W:List Int):Prop where
 len:W.length=PY.length
 ja:∀i,i<PY.length->0<=vf W i/\vf W i<vf PY i
 wk:Wk PY.length (vf PY) (DD T) (R PY) d 0 (vf W)
def Kp(PY xs:List Int):Prop:=xs.length=PY.length/\∀i,i<PY.length->0<=vf xs i/\vf xs i<vf PY i
def Kp.Mg(h:Kp PY xs):Fu PY xs:=ux h.1 h.2
def Kp.bd(S:Sz PY)(h:Kp PY xs):Bd 200 xs:=pG S h.1 h.2
theorem Hz(S:Sz PY){t:Int}(h1:xs.length=PY.length)(h2:ys.length=PY.length):Kp PY (ad PY xs ys t)/\∀i,i<PY.length->vf PY i∣vf (ad PY xs ys t) i-(vf xs i+t*vf ys i):=by
 obtain⟨a,b⟩:=lD (t:=t) S h1 h2;refine⟨⟨a,λi hi=>?_⟩,λi hi=>?_⟩
 .have:=nH S i hi;rw[b i hi];exact⟨VM _ ⋯,Vy _ this.1⟩
 .rw[b i hi];have:=YT (vf xs i+t*vf ys i) (vf PY i);exact⟨-((vf xs i+t*vf ys i)/vf PY i),by rw[this];grind⟩
theorem GO(ns:List Int)(k:Nat)(hk:k<=100):∃c,eI [.jX (ns.map PV.int),.int (k:Int)]=M.ok (.int c):=by
 unfold eI h_
 by_cases h:(k:Int)<(ns.length:Int)
 .have h':k<ns.length:=by lia
  exact⟨ns[k],by dsimp? [U8,h,decide_true,bV (p:=.jX (ns.map PV.int)) (j:=k) (x:=.int ns[k]) rfl (by rw[VD,U4 h'];rfl)]⟩
 .exact⟨((k:Int)+2)*104729%65537,by dsimp? [U8,h,decide_false,bu (i:=(k:Int)+2) (j:=104729) (k:=31) (l:=31) ⋯ ↑12,bw (i:=((k:Int)+2)*104729) (j:=65537) ↑12]⟩
theorem ym(c:Int)(k:Nat)(hk:k<=100):∃x,bT [.int c,.int (k:Int)]=M.ok (.int x)/\0<=x/\x<2147483579:=by
 obtain⟨a,ea,a0⟩:∃a,dI (.int (c%2147483647*48271+7919*(k:Int)+13)) (.int 2147483629)=M.ok (.int a)/\0<=a/\a<2147483629:=⟨_,bw ↑12,VM _ ↑12,Vy _ ↑12⟩
 obtain⟨b,eb,b0⟩:∃b,dI (.int (a*a+104729*(k:Int)+7)) (.int 2147483587)=M.ok (.int b)/\0<=b/\b<2147483587:=⟨_,bw ↑12,VM _ ↑12,Vy _ ↑12⟩
 refine⟨b*b%2147483579,?_,VM _ ↑12,Vy _ ↑12⟩;unfold bT fq;dsimp? [bw (i:=c) (j:=2147483647) ↑12,bu (i:=c%2147483647) (j:=48271) (k:=32) (l:=31) ⋯ ↑12,bu (i:=7919) (j:=(k:Int)) (k:=31) (l:=31) ↑12 ⋯,ea,bu (i:=a) (j:=a) (k:=32) (l:=32) ⋯ ⋯,bu (i:=104729) (j:=(k:Int)) (k:=31) (l:=31) ↑12 ⋯,eb,bu (i:=b) (j:=b) (k:=32) (l:=32) ⋯ ⋯,bw (i:=b*b) (j:=2147483579) ↑12]
theorem sL(c:Int)(p:PV)(bases:List Int)(hp:bL p=some (bases.map PV.int))(hb:∀b∈bases,0<b/\b<2^60)(hl:bases.length<=100):∃xs:List Int,c8 [.int c,p]=M.ok (tI xs)/\xs.length=bases.length/\∀z∈xs.zip bases,0<=z.1/\z.1<z.2:=by
 suffices h:hV (c8 [.int c,p]) λq=>∃xs:List Int,q=tI xs/\xs.length=bases.length/\∀z∈xs.zip bases,0<=z.1/\z.1<z.2 by
  obtain⟨_,e,xs,rfl,q⟩:=h;exact⟨xs,e,q⟩
 unfold c8 dO;dsimp? [gT,hp];refine hV.loop (xs:=bases) (inj:=PV.int) (λr env=>∃(d xs:List Int)(left:Int)(y:Option SV),env=[some (.sh (.int left)),some (.sh p),some (.ow (xs.map PV.int)),y]/\bases=d++r/\xs.length=d.length/\∀z∈xs.zip d,0<=z.1/\z.1<z.2) ⟨[],[],c,none,rfl,rfl,rfl,λ_ h=>nomatch h⟩ ?_ ?_
 .rintro b r env ⟨d,xs,left,y,rfl,hd,hx,hz⟩;have Uv:=hb b (by rw[hd];simp);have dl:d.length<=100:=by
   have:=congrArg Yc hd;rw[Vw] at this;lia
  dsimp? [bB,uJ,ownAt,bw (i:=left) Uv.1,vb (xs:=xs.map PV.int) (show (xs.map PV.int).length<1000 by simp;lia),Ai,bh (i:=left) Uv.1 (show b<2^64 by lia)];refine⟨_,rfl,d++[b],xs++[left%b],left/b,_,rfl,by rw[hd];simp,by simp[hx],λz S7=>?_⟩;rw[List.zip_append hx] at S7;rcases Wc.mp S7 with q|q
  .exact hz z q
  .rw[Wq,aaD] at q;rw[Vs.mp q];exact⟨VM _ ⋯,Vy _ Uv.1⟩
 .rintro env ⟨d,xs,left,y,rfl,hd,hx,hz⟩;rw[Ww] at hd;subst hd;dsimp? [];exact⟨_,rfl,xs,rfl,hx,hz⟩
theorem Jt(hl:xs.length=ys.length)(h:∀z∈xs.zip ys,0<=z.1/\z.1<z.2):∀i,i<ys.length->0<=vf xs i/\vf xs i<vf ys i:=λi hi=>by
 have:=h (xs[i]'(by lia),ys[i]) (Vh.mpr ⟨i,by simp;lia,by simp⟩);rw[aP ⋯,aP hi];exact this
def zg(i j:Nat)(env:af)(p q:PV):Nn i j env [p,q]=M.ok (.nx ((env.set i (some (.sh p))).set j (some (.sh q)))):=rfl
def JG(S:Sz PY)(h:xs.length=PY.length/\∀z∈xs.zip PY,0<=z.1/\z.1<z.2):Kp PY xs:=⟨h.1,Jt h.1 h.2⟩
structure GB (PY:List Int):Prop where
 S:Sz PY
 h3:PY.length<=3
 h5:∀x∈PY,2<=x/\x<=5
theorem Ap(c:Int):hV (gz [.int c]) λp=>∃xs:List Int,p=lI xs/\GB xs:=by
 have fin:∀xs:List Int,1<=xs.length->xs.length<=3->(∀x∈xs,2<=x/\x<=5)->GB xs:=λxs h1 h3 h5=>⟨⟨h1,by lia,λx hx=>by have:=h5 x hx;lia⟩,h3,h5⟩
 unfold gz gK;obtain⟨m,em,m1,m6⟩:∃m:Nat,1+c/2%3=(m:Int)/\1<=m/\m<=3:=⟨(1+c/2%3).toNat,by lia,by lia,by lia⟩
 dsimp? [bw (i:=c) (j:=2) ↑12];rcases two (c:=c) with h|h
 .simp only[h,decide_true];obtain⟨xs,ex,xl,xb⟩:=sL (c/6) (.lst (U6 m (.int 4))) (U6 m 4) (by rw[WK];rfl) (λb hb=>by rw[F6 hb];decide) (by simp;lia);rw[ZA] at xl;dsimp? [bh (i:=c) (j:=2) ↑12 ↑12,bw (i:=c/2) (j:=3) ↑12,em,bh (i:=c) (j:=6) ↑12 ↑12,pZ (.int 4) m ⋯,ex,U8,ar (aS (show xs.length<=1000 by lia)),fk (f:=aj eh (λ_=>M.ok (.int 2)) (aa 0)) (inj:=PV.int) (h:=λx=>.int (2+x)) (rest:=[]) (x0:=none) xs λa _=>by dsimp? []];refine⟨_,rfl,xs.map (2+·),by rw[lI,VC];rfl,fin _ (by simp;lia) (by simp;lia) λx hx=>?_⟩;obtain⟨y,hy,rfl⟩:=VH.mp hx;obtain⟨i,hi,rfl⟩:=Vh.mp hy;have:=xb (xs[i],4) (Vh.mpr ⟨i,by simp;lia,by simp⟩);simp at this;lia
 .simp only[h,show ¬ (1:Int)=0 by decide,decide_false];have ex:∀k:Nat,∃y:Int,k<=100->bT [.int (c/6),.int (k:Int)]=M.ok (.int y):=λk=>by
   by_cases hk:k<=100
   .obtain⟨y,ey,_⟩:=ym (c/6) k hk;exact⟨y,λ_=>ey⟩
   .exact⟨0,λh=>(hk h).elim⟩
  obtain⟨f,hf⟩:=YV.mp ex;have key:bD (bB 0) none (aj eh (λ_=>M.ok (.int 2)) (aj dI (ai bT (ae (aj bZ (aa 1) (λ_=>M.ok (.int 6))) (ae (aa 0) ao))) (λ_=>M.ok (.int 4)))) ((Ve m).map λ(i:Nat)=>.int (i:Int)) [none,some (.sh (.int c))]=M.ok ((Ve m).map λk=>.int (2+f k%4)):=by
   refine fk (inj:=λ(i:Nat)=>PV.int (i:Int)) (Ve m) λi hi=>?_;have:=V9.mp hi;dsimp? [bh (i:=c) (j:=6) ↑12 ↑12,hf i ⋯,bw (i:=f i) (j:=4) ↑12]
  dsimp? [bh (i:=c) (j:=2) ↑12 ↑12,bw (i:=c/2) (j:=3) ↑12,em,dY (n:=(m:Int)) ⋯ ⋯,VE,U8,VN,ar (aS (show m<=1000 by lia)),key];refine⟨_,rfl,(Ve m).map λk=>2+f k%4,by rw[lI,VC];rfl,fin _ (by simp;lia) (by simp;lia) λx hx=>?_⟩;obtain⟨k,hk,rfl⟩:=VH.mp hx;show 2<=2+f k%4/\2+f k%4<=5;lia
theorem AJ(S:Sz PY)(c:Int):hV (dF [.int c,lI PY]) λp=>∃xs:List Int,p=tI xs/\xs.length=PY.length/\∀z∈xs.zip PY,0<=z.1/\z.1<z.2:=by
 have l6:=S.h6;unfold dF gE;dsimp? [bw (i:=c) (j:=2) ↑12];rcases two (c:=c) with h|h
 .simp only[h,decide_true];obtain⟨xs,ex,xl,xb⟩:=sL (c/2) (lI PY) PY rfl (λb hb=>by have:=S.hx b hb;lia) ⋯;dsimp? [bh (i:=c) (j:=2) ↑12 ↑12,ex];exact⟨_,rfl,xs,rfl,xl,xb⟩
 .simp only[h,show ¬ (1:Int)=0 by decide,decide_false];have ex:∀k:Nat,∃y:Int,k<=100->bT [.int (c/2),.int (k:Int)]=M.ok (.int y)/\0<=y/\y<2147483579:=λk=>by
   by_cases hk:k<=100
   .obtain⟨y,ey,q⟩:=ym (c/2) k hk;exact⟨y,λ_=>⟨ey,q⟩⟩
   .exact⟨0,λh=>(hk h).elim⟩
  obtain⟨f,hf⟩:=YV.mp ex;have key:bD (cL 0 1) none (aj dI (aj bZ (aj dI (ai bT (ae (aj bZ (aa 2) (λ_=>M.ok (.int 2))) (ae (aa 0) ao))) (aj b_ (λ_=>M.ok (.int 2)) (aa 1))) (λ_=>M.ok (.int 2))) (aa 1)) (PY.zipIdx.map λz=>.tup [.int (z.2:Int),.int z.1]) [none,none,some (.sh (.int c))]=M.ok ((PY.zipIdx.map λz=>f z.2%(2*z.1)/2%z.1).map PV.int):=by
   rw[VC];refine iG (p:=λz:Int×Nat=>PV.int (z.2:Int)) (q:=λz=>PV.int z.1) PY.zipIdx λz hz=>?_;have hi:=yi hz;have hs:=S.hx _ (YM hz);dsimp? [bh (i:=c) (j:=2) ↑12 ↑12,(hf z.2 ⋯).1,bu (i:=2) (j:=z.1) (k:=31) (l:=31) ↑12 ⋯,bw (i:=f z.2) (j:=2*z.1) ⋯,bh (i:=f z.2%(2*z.1)) (j:=2) ↑12 ↑12,bw (i:=f z.2%(2*z.1)/2) (j:=z.1) ⋯];rfl
  have zl:PY.zipIdx.length<=sizeLine:=by rw[W6];exact aS ⋯
  dsimp? [Ji,U8,ar zl,key];refine⟨_,rfl,_,rfl,by simp,λz hz=>?_⟩;obtain⟨i,hi,rfl⟩:=Vh.mp hz;simp only[We,U8,W6,Nat.min_self] at hi;rw[Xl,WO,Y0];have:=S.hx _ (Vx hi);exact⟨VM _ ⋯,Vy _ ⋯⟩
variable{W:List Int}{QG:List (List Int)}{T':List Row}
section
variable{Q4:List (List Int)}{P:List Int}
def uT{t:af->M Bool}{f:af->M PV}{inj h:α->PV}{b:α->Bool}{rest:af}{x0:Option SV}(xs:List α)(Ht:∀a∈xs,t (some (.sh (inj a))::rest)=M.ok (b a))(H:∀a∈xs,f (some (.sh (inj a))::rest)=M.ok (h a)):bD (bB 0) (some t) f (xs.map inj) (x0::rest)=M.ok ((xs.filter b).map h):=by
 induction xs generalizing x0 with
 | nil=>rfl
 | cons a r ih =>
  have i:=ih (x0:=some (.sh (inj a))) (λc hc=>Ht c (Vi _ hc)) λc hc=>H c (Vi _ hc);rw[Vu,bD];show M.bind (M.ok ((x0::rest).set 0 (some (.sh (inj a))))) _=_;rw[M.aV,Xm];show M.bind (t _) _=_;rw[Ht a Vl,M.aV];cases e:b a with
  | true=>rw[if_pos rfl,H a Vl,M.aV,i,aa0 e];rfl
  |false=>rw[if_neg ↑13,i,aa1 (by simp[e])]
def zh(h:T.length<=1000):e7 [oI pz PY Ls T P1]=M.ok (.lst (T.map λr=>tI r.1)):=by
 have key:bD (bB 0) none (aj a_ (aa 0) (λ_=>M.ok (.int 0))) (T.map mk) [none]=M.ok (T.map λr=>tI r.1):=fk T λr _=>by dsimp? [show a_ (mk r) (.int 0)=M.ok (tI r.1) from bV (j:=0) rfl rfl]
 unfold e7 eX;dsimp? [j9,OD,U8,ar (aS h),key]
def nz(n:Nat)(T:List Row):List (List Int):=(T.filter λr=>!decide (r.1=U6 n 0)).map (·.1)
def EA{l:List Int}(h:l∈nz n T):∃d,d<T.length/\(row T d).1=l:=by
 obtain⟨r,hr,rfl⟩:=VH.mp h;obtain⟨d,hd,e⟩:=Vh.mp (Yx.mp hr).1;exact⟨d,hd,by rw[fE hd,e]⟩
def K0(h:d<T.length)(z:(row T d).1≠U6 n 0):(row T d).1∈nz n T :=
 VH.mpr ⟨row T d,Yx.mpr ⟨by rw[fE h];exact Vx _,by simpa using z⟩,rfl⟩
def wg(Q:jH ns PY Qz Ls T P1):∃Wf:Nat->List Int,∀d,d<PY.length->bx [oI pz PY Ls T P1,.int (d:Int)]=M.ok (tI (Wf d))/\Ws PY T d (Wf d):=by
 have h:∀d:Nat,∃W,d<PY.length->bx [oI pz PY Ls T P1,.int (d:Int)]=M.ok (tI W)/\Ws PY T d W:=λd=>by
  by_cases hd:d<PY.length
  .obtain⟨_,e,W,rfl,a,b,c⟩:=xJ Q hd;exact⟨W,λ_=>⟨e,a,b,c⟩⟩
  .exact⟨[],λh=>absurd h hd⟩
 exact⟨λd=>aaZ (h d),λd hd=>ZC (h d) hd⟩
theorem Cn{A:Nat->bR}{v P:bR}(g:Good n (vf PY) (DD T))(h:∀l,l<m->G n (vf PY) (DD T) n 0 (A l))(led:∀i,i<n->vf PY i∣v i-bO m λl=>P l*A l i):G n (vf PY) (DD T) n 0 v :=
 g.oQ ⋯ led (G.sum (A:=A) (P:=P) g m h)
theorem cancel{a x y c:Int}(ha:0<a)(h1:a*x=c)(h2:y*a=c):x=y:=by
 rw[W2] at h2;exact V8 ⋯ (h1.trans h2.symm)
def oB{l:List Int}(h:l∈Ls):∃k,k<Ls.length/\AA Ls k=vf l:=by
 obtain⟨k,hk,e⟩:=Vh.mp h;exact⟨k,hk,by unfold AA;rw[Va,U4 hk,W8,e]⟩
theorem wB(Q:jH ns PY Qz Ls T P1):∃Q4 T' QG,(∀pz,md [eK pz PY Ls]=M.ok (eK (ones Q4) PY Q4))/\jH ns PY (nz PY.length T) Q4 T' QG/\Q4=nz PY.length T:=by
 have tl:=Q.st.wf.len;have l6:=Q.S.h6;have kp:∀l∈nz PY.length T,Kp PY l:=λl hl=>by
  obtain⟨d,hd,rfl⟩:=EA hl;exact⟨Q.st.wf.lV ⋯,Q.st.gd.ja d ⋯⟩
 have nl:(nz PY.length T).length<=T.length:=by unfold nz;rw[U8];exact YD _ _
 obtain⟨Q4,T',QG,Q'⟩:=jH.get ns Q.S (Qz:=nz PY.length T) ⋯ λl hl=>⟨(kp l hl).1,(kp l hl).bd Q.S⟩
 refine⟨Q4,T',QG,?_,Q',?_⟩
 .have key:bD (bB 0) (some (eM (aj oo (aa 0) (aa 1)))) (aa 0) (T.map λr=>tI r.1) [none,some (.sh (tI (U6 PY.length 0)))]=M.ok ((nz PY.length T).map tI):=by
   have:=uT (t:=eM (aj oo (aa 0) (aa 1))) (f:=aa 0) (inj:=λr:Row=>tI r.1) (h:=λr:Row=>tI r.1) (b:=λr=>!decide (r.1=U6 PY.length 0)) (rest:=[some (.sh (tI (U6 PY.length 0)))]) (x0:=none) T (λr _=>by dsimp? [DJ]) (λr _=>by dsimp? []);rw[this,nz,VC];rfl
  intro pz;unfold md lU;dsimp? [mC (Ls:=Ls) Q.S.h6,dq,Hi,Q.MH,wJ (m := "rows") rfl,zh (T:=T) ⋯,U8,ar (aS (show T.length<=1000 by lia)),key,Q'.NF (f:=tI) (p:=tI PY) (.inl rfl) rfl]
 .rw[Q'.eL];exact(XF λl hl=>lJ (kp l hl).Mg).trans (YJ _)
abbrev GT(PY:List Int)(T:List Row)(v:bR):Prop:=G PY.length (vf PY) (DD T) PY.length 0 v
structure Ox (pz ns PY:List Int) (Ls:List (List Int)) (T:List Row) (P1:List (List Int)) (Q4:List (List Int)) (T':List Row) (QG:List (List Int)):Prop where
 Q:(∃Tr,jH ns PY Tr Q4 T' QG)/\Q4.length<=PY.length
 cw:∃UY Tv T1 Si,jH ns PY UY Tv T1 Si/\Q4=nz PY.length T1/\∀v,GT PY T1 v ↔ GT PY T' v
 ev:jV [eK pz PY Ls]=M.ok (eK (ones Q4) PY Q4)
 c2:aE Q4.length (λj=>II QG j j)=aE PY.length (aO (vf PY) (DD T))
 c3:aE PY.length (aO (vf PY) (DD T'))=aE Ls.length λj=>II P1 j j
 dead:∀l,l<Q4.length->∀b,b<PY.length->R PY∣eP PY.length (vf PY) (R PY) (AA Q4 l) (DD T b)
 all:∀u:bR,(∀b,b<PY.length->R PY∣eP PY.length (vf PY) (R PY) u (DD T b))->G PY.length (vf PY) (DD T') PY.length 0 u
theorem Bc(Q:jH ns PY Qz Ls T P1):∃Q4 T' QG,Ox pz ns PY Ls T P1 Q4 T' QG:=by
 have S:=Q.S;have l6:=S.h6;have g:=Q.st.gd;have hq:=Bq S;have hQ:=p7 S;obtain⟨Wf,hW⟩:=wg (pz:=pz) Q;have kp:∀l∈(Ve PY.length).map Wf,Kp PY l:=λl hl=>by
  obtain⟨d,hd,rfl⟩:=VH.mp hl;exact⟨(hW d (V9.mp hd)).2.len,(hW d (V9.mp hd)).2.ja⟩
 obtain⟨Tv,T1,Si,Q1⟩:=jH.get ns S (Qz:=(Ve PY.length).map Wf) (by simp;lia) λl hl=>⟨(kp l hl).1,(kp l hl).bd S⟩
 have eL:Tv=(Ve PY.length).map Wf:=by rw[Q1.eL];exact(XF λl hl=>lJ (kp l hl).Mg).trans (YJ _)
 have L1:Tv.length=PY.length:=by rw[eL];simp
 have eA:∀d,d<PY.length->AA Tv d=vf (Wf d):=λd hd=>by
  unfold AA;rw[eL,Va,VD,WS hd];rfl
 have wk:∀d,d<PY.length->Wk PY.length (vf PY) (DD T) (R PY) d 0 (AA Tv d):=λd hd=>by rw[eA d hd];exact(hW d hd).2.wk
 have I1:=Q1.I;have o1:=Q1.ord;have p1:=Q1.pr;have s1:=Q1.st;rw[L1] at I1 o1 p1 s1;have sp:=Gz g hQ hq wk (J:=II Si) I1.pos I1.zero I1.rM o1;obtain⟨Q4,T',QG,ec,Q',eL'⟩:=wB Q1;have g1:=s1.gd;have g':=Q'.st.gd;have t1:=s1.wf.len;have a1:∀l,l<Q4.length->∃d,d<PY.length/\AA Q4 l=DD T1 d:=λl hl=>by
  obtain⟨d,hd,e⟩:=EA (T:=T1) (n:=PY.length) (l:=Q4[l]) (by rw[<- eL'];exact Vx _);refine⟨d,by lia,?_⟩;unfold AA DD;rw[Va,U4 hl,W8,e]
 have i1:∀d,d<PY.length->G PY.length (vf PY) (DD T1) PY.length 0 (DD T' d):=λd hd=>Cn g1 (λl hl=>by
  obtain⟨e,he,ea⟩:=a1 l hl;rw[ea];exact g1.row he ⋯ (Vd _)) (Q'.st.led d hd)
 have i2:∀d,d<PY.length->G PY.length (vf PY) (DD T') PY.length 0 (DD T1 d):=λd hd=>by
  by_cases z:(row T1 d).1=U6 PY.length 0
  .exact G.ext ⋯ (λi hi=>by show 0=vf (row T1 d).1 i;rw[z,fF]) (G.zero ⋯)
  .obtain⟨k,hk,e⟩:=oB (Ls:=Q4) (l:=(row T1 d).1) (by rw[eL'];exact K0 ⋯ z);show G PY.length (vf PY) (DD T') PY.length 0 (vf (row T1 d).1);rw[<- e];exact Q'.st.cl k ⋯
 have se:=IG g1 g' i1 i2;have pe:aE PY.length (λj=>II Si j j)=aE PY.length (aO (vf PY) (DD T)):=eJ sp;have pa:0<aE PY.length (aO (vf PY) (DD T)):=c7 λl hl=>(g.pos hl).1;have c3:aE PY.length (aO (vf PY) (DD T'))=aE Ls.length λj=>II P1 j j:=by
  rw[<- eJ se];exact cancel pa (by rwa[<- pe]) Q.pr
 have pb:0<aE Ls.length (λj=>II P1 j j):=c7 λl hl=>Q.I.pos l hl;refine⟨Q4,T',QG,⟨⟨_,Q'⟩,by rw[eL',<- t1];unfold nz;rw[U8];exact YD _ _⟩,⟨_,_,T1,_,Q1,eL',λv=>⟨tH g' i2 PY.length 0 v ⋯,tH g1 i1 PY.length 0 v ⋯⟩⟩,?_,?_,c3,λl hl b hb=>?_,λu hu=>?_⟩
 .have key:bD (bB 0) none (bF az "weights_at" bx (aa 1) (ae (aa 0) ao)) ((Ve PY.length).map λ(i:Nat)=>.int (i:Int)) [none,some (.sh (oI pz PY Ls T P1))]=M.ok (((Ve PY.length).map Wf).map tI):=by
   rw[VC];refine fk (inj:=λ(i:Nat)=>PV.int (i:Int)) (Ve PY.length) λi hi=>?_;dsimp? [dq,wJ (m := "weights_at") rfl,(hW i (V9.mp hi)).1];rfl
  unfold jV jW;dsimp? [Q.MH,dq,Hi,dY (n:=(PY.length:Int)) ⋯ ⋯,VE,U8,VN,ar (aS (show PY.length<=1000 by lia)),key,Q1.NF (f:=tI) (p:=tI PY) (.inl rfl) rfl,ec (ones Tv)]
 .have:=Q'.pr;rw[c3] at this;exact(cancel pb Q.pr this).symm
 .obtain⟨d,hd,e⟩:=a1 l hl;rw[e];exact Cm hq wk (t:=PP T1 d) (s1.led d hd) hb
 .obtain⟨t,_,ht⟩:=k9 g hQ hq wk PY.length (U9 _) u (λi h1 h2=>by lia) hu;exact Cn g' (λd hd=>tH g' i2 PY.length 0 _ ⋯ (s1.cl d ⋯)) ht
def jH.kp(Q:jH ns PY Qz Ls T P1):∀l∈Ls,Kp PY l:=λl hl=>by
 obtain⟨k,hk,e⟩:=oB hl;have a:=Q.LL.at_ k hk;have b:=Q.LL.ja k hk;rw[e] at b;obtain⟨k',Rw,e'⟩:=Vh.mp hl;have c:=Q.LL.at_ k' Rw;rw[Va,U4 Rw,W8,e'] at c;exact⟨c,b⟩
def pM(S:Sz PY):Kp PY (U6 PY.length 0):=⟨by simp,Eg S⟩
theorem zw{xs:List Int}(hx:∀x∈xs,0<x/\x<2^60):∀c,c<=xs.length->0<aE c (vf xs)/\aE c (vf xs)<2^(60*c+1)
 | 0,_=>⟨show (0:Int)<1 by decide,show (1:Int)<2^1 by decide⟩
 | c+1,h=>by
  obtain⟨a,b⟩:=zw hx c ⋯;have q:=hx (vf xs c) (by rw[aP ⋯];exact Vx _);show 0<aE c (vf xs)*vf xs c/\aE c (vf xs)*vf xs c<_;refine⟨ada a q.1,?_⟩;have e:(2:Int)^(60*(c+1)+1)=2^(60*c+1)*2^60:=by rw[show 60*(c+1)+1=60*c+1+60 by lia,Int.pow_add]
  rw[e];exact Int.lt_of_lt_of_le (Int.mul_lt_mul_of_pos_right b q.1) (VA ⋯ (Zy (Int.lt_trans a b)))
theorem CT{a:Int}(h:0<a/\a<2^k):a.natAbs<2^k:=by
 have:(a.natAbs:Int)<((2^k:Nat):Int):=by
  rw[Int.natAbs_of_nonneg ⋯];push_cast;exact h.2
 exact Int.ofNat_lt.mp this
theorem yk(hl:xs.length<=8)(hx:∀x∈xs,0<x/\x<2^60):gu [tI xs]=M.ok (.int (aE xs.length (vf xs))):=by
 refine hV.eq ?_;unfold gu gJ;dsimp? [];refine hV.loop (xs:=xs) (inj:=PV.int) (λzs env=>∃(c:Nat)(y:Option SV),env=[some (.sh (tI xs)),some (.sh (.int (aE c (vf xs)))),y]/\zs=xs.drop c/\c<=xs.length) ⟨0,_,rfl,rfl,by lia⟩ ?_ ?_
 .rintro a r env ⟨c,y,rfl,hd,hc⟩;obtain⟨c1,c2,c3⟩:=drop_cons hd.symm;rw[U4 c1] at c2;have e2:xs[c]=a:=Vk c2;have ha:=hx a (by rw[<- e2];exact Vx _);have b:=CT (zw hx c hc);have b':(aE c (vf xs)).natAbs<2^490:=Vo b (Wh ↑12 ⋯);have ep:aE c (vf xs)*a=aE (c+1) (vf xs):=by show _=aE c (vf xs)*vf xs c;rw[aP c1,e2]
  dsimp? [bB,bu (i:=aE c (vf xs)) (j:=a) (k:=490) (l:=60) b' (CT ha),ep];exact⟨_,rfl,c+1,_,rfl,c3.symm,by lia⟩
 .rintro env ⟨c,y,rfl,hd,hc⟩;have:=congrArg Yc hd;rw[Wy] at this;simp at this;obtain rfl:c=xs.length:=by lia
  dsimp? [];exact⟨_,rfl,rfl⟩
theorem vX(Q:jH ns PY Qz Ls T P1):(ES P1).length=Ls.length/\(∀x∈ES P1,0<x/\x<2^60)/\aE Ls.length (vf (ES P1))=aE Ls.length λj=>II P1 j j:=by
 have il:=Q.I.len;refine⟨by rw[oy,il],λx hx=>?_,eJ λj hj=>B7 ⋯⟩;obtain⟨i,hi,rfl⟩:=Vh.mp hx;rw[oy,il] at hi;have:=B7 (P1:=P1) (i:=i) ⋯;rw[aP (by rw[oy];lia)] at this;rw[this];exact⟨Q.I.pos i hi,Q.I.le i hi⟩
end
variable{L:List (List Int)}
section
variable{Tr Q4 X Y rX:List (List Int)}{TL TX:List Row}{iL iX:List (List Int)}{q r s:PV}{H K:bR->Prop}
structure Pn (PY:List Int) (Ls:List (List Int)) (T:List Row) (P1:List (List Int)):Prop where
 S:Sz PY
 gd:Good PY.length (vf PY) (DD T)
 ld:∀d,d<PY.length->∃P,Led PY.length (vf PY) Ls.length (AA Ls) (DD T d) P
 cl:∀l,l<Ls.length->GT PY T (AA Ls l)
 I:Bb PY.length Ls.length (vf PY) (AA Ls) Ls.length P1
 pr:aE Ls.length (λj=>II P1 j j)*aE PY.length (aO (vf PY) (DD T))=aE PY.length (vf PY)
 ord:∀j,j<Ls.length->∀P:bR,Zf (j+1) Ls.length P->Led PY.length (vf PY) Ls.length (AA Ls) (λ_=>0) P->II P1 j j∣P j
theorem jH.pn(Q:jH ns PY Qz Ls T P1):Pn PY Ls T P1:=⟨Q.S,Q.st.gd,λd hd=>⟨_,Q.st.led d hd⟩,λl hl=>Q.st.cl l ⋯,Q.I,Q.pr,Q.ord⟩
theorem Pn.led(Q:Pn PY Ls T P1){v:bR}(h:GT PY T v):∃P,Led PY.length (vf PY) Ls.length (AA Ls) v P:=by
 have key:∀k d (v:bR),d+k=PY.length->G PY.length (vf PY) (DD T) k d v->∃P,Led PY.length (vf PY) Ls.length (AA Ls) v P:=by
  intro k
  induction k with
  | zero=>intro d v _ h;exact⟨λ_=>0,λi hi=>by rw[fc (g:=λ_=>0) λl _=>by simp,gS];simpa using h i hi⟩
  | succ k ih =>
   intro d v hn h;obtain⟨P,hP⟩:=ih (d+1) _ ⋯ h.2;obtain⟨P',hP'⟩:=Q.ld d ⋯;exact⟨_,Led.mix (a:=1) (b:=v d/aO (vf PY) (DD T) d) hP hP' (λi hi=>⟨0,by lia⟩) λl _=>rfl⟩
 exact key _ 0 v ⋯ h
theorem jH.led(Q:jH ns PY Qz Ls T P1){v:bR}(h:GT PY T v):∃P,Led PY.length (vf PY) Ls.length (AA Ls) v P:=Q.pn.led h
theorem jH.O0(Q:jH ns PY Qz Ls T P1){l:Nat}(h:l<Ls.length):GT PY T (AA Ls l):=Q.st.cl l ⋯
def jH.kept(ns:List Int)(S:Sz PY)(h8:L.length<=8)(h:∀l∈L,Kp PY l):∃T P1,jH ns PY L L T P1:=by
 obtain⟨Ls,T,P1,Q⟩:=jH.get ns S h8 λl hl=>⟨(h l hl).1,(h l hl).bd S⟩
 have e:Ls=L:=by rw[Q.eL];exact(XF λl hl=>lJ (h l hl).Mg).trans (YJ _)
 subst e;exact⟨T,P1,Q⟩
def An(PY:List Int)(H:bR->Prop)(u:bR):Prop:=∀v,H v->R PY∣eP PY.length (vf PY) (R PY) u v
end
theorem zx{x:Int}:vf (xs++[x]) i=if i<xs.length then vf xs i else if i=xs.length then x else vf (xs++[x]) i:=by
 split
 .rename_i h;rw[aP (by simp;lia),aP h,List.getElem_append_left h]
 .split
  .rename_i h;subst h;rw[aP ↑13,List.getElem_append_right ⋯];simp
  .rfl
def uu(k:List Int):Ak (tI k)=some k:=sE k
def BL(P5:KD)(k:List Int):(lO P5 k).isSome=true ↔ k∈P5.map (·.1):=by
 rw[<- oX,List.any_eq_true];constructor
 .rintro⟨x,h,e⟩;exact VH.mpr ⟨x,h,of_decide_eq_true e⟩
 .intro h;obtain⟨x,h,e⟩:=VH.mp h;exact⟨x,h,decide_eq_true e⟩
def sJ(l:List (List Int)):KD:=l.map λk=>(k,.bl true)
def DH(l:List (List Int)):(sJ l).map (·.1)=l:=by unfold sJ;rw[VC];exact YJ _
def zZ(l:List (List Int)):qr (sJ l)=l.map tI:=by unfold qr sJ;rw[VC];rfl
def CZ(l:List (List Int))(k:List Int):(lO (sJ l) k).isSome=decide (k∈l):=by
 rw[Z0,BL,DH,decide_eq_true_eq]
def yz(n:Bool)(l:List (List Int))(k:List Int):NO n (sJ l) (tI k)=M.ok (.bl (n ^^ decide (k∈l))):=by
 unfold NO;rw[uu];show M.ok (PV.bl (n ^^ (lO (sJ l) k).isSome))=_;rw[CZ]
variable{l:List (List Int)}
def BO{k:List Int}(h:k ∉ l):putD (sJ l) k (.bl true)=sJ (l++[k]):=by
 unfold putD;rw[oX,CZ,decide_eq_false h,if_neg ↑13];unfold sJ;rw[W4];rfl
def hV.L6{β:Type}{R:β->Prop}{u:af->M Bool}{b:af->M Out}{k:Out->M β}(J:af->Prop)(m:af->Nat){env:af}(h:J env)(H:∀env,J env->(u env=M.ok false)\/(u env=M.ok true/\∃P6,b env=M.ok (.nx P6)/\J P6/\m P6<m env))(hk:∀P6,J P6->u P6=M.ok false->hV (k (.nx P6)) R):hV (M.bind (i7 u b env) k) R:=by
 obtain⟨P6,e,h',hu⟩:=mU J m H env h;rw[e,M.aV];exact hk P6 h' hu
theorem DR{α:Type}[DecidableEq α]:∀(l m:List α),l.Nodup->(∀x∈l,x∈m)->l.length<=m.length
 | [],_,_,_=>Vd _
 | a::l,m,nd,h=>by
  have ha:=h a Vl;obtain⟨na,nd'⟩:=Yy.mp nd;have:=DR l (m.erase a) nd' λx hx=>(abY (λe:x=a=>na (by rwa[<- e]))).mpr (h x (Vi _ hx));rw[List.length_erase_of_mem ha] at this;have:=List.length_pos_of_mem ha;simp only[VF];lia
def vg(ls:List (List Int))(s:Int):List (List Int):=ls.flatMap λl=>(Ve s.toNat).map λ(k:Nat)=>l++[(k:Int)]
def jq(PY:List Int):List (List Int):=PY.foldl vg [[]]
theorem uh(ls:List (List Int))(s:Int):(vg ls s).length=ls.length*s.toNat:=by
 unfold vg
 induction ls with
 | nil=>simp
 |cons l r ih=>rw[List.flatMap_cons,Vw,ih,U8,VN,VF,ac7];lia
variable{x:List Int}
theorem GQ{ls:List (List Int)}:x∈vg ls s ↔ ∃l k,l∈ls/\0<=k/\k<s/\x=l++[k]:=by
 unfold vg;rw[List.mem_flatMap];constructor
 .rintro⟨l,hl,h⟩;obtain⟨k,hk,rfl⟩:=VH.mp h;have:=V9.mp hk;exact⟨l,k,hl,by lia,by lia,rfl⟩
 .rintro⟨l,k,hl,h0,h1,rfl⟩;exact⟨l,hl,VH.mpr ⟨k.toNat,V9.mpr ⋯,by rw[Xe h0]⟩⟩
def iK(d:List Int)(s:Int):jq (d++[s])=vg (jq d) s:=by unfold jq;rw[List.foldl_append];rfl
variable{c:Nat}
def take_snoc(PY:List Int)(h:c<PY.length):PY.take (c+1)=PY.take c++[PY[c]]:=VX h
theorem iT{PY:List Int}:∀c,c<=PY.length->∀x:List Int,x∈jq (PY.take c) ↔ x.length=c/\∀i,i<c->0<=vf x i/\vf x i<vf PY i
 | 0,_,x=>by
  rw[List.take_zero,show jq []=[[]] from rfl,Vs];exact⟨λh=>by rw[h];exact⟨rfl,λi hi=>absurd hi (YB i)⟩,λh=>aaY.mp h.1⟩
 | c+1,h,x=>by
  rw[take_snoc PY h,iK,GQ];have ih:=iT (PY:=PY) c ⋯;constructor
  .rintro⟨l,k,hl,h0,h1,rfl⟩;obtain⟨e,q⟩:=(ih l).mp hl;refine⟨by rw[Vw,e];rfl,λi hi=>?_⟩;rcases Yn.mp hi with z|z
   .rw[zx,if_pos ⋯];exact q i z
   .subst z;rw[zx,if_neg ⋯,if_pos ⋯,aP h];exact⟨h0,h1⟩
  .rintro⟨e,q⟩;have qc:=q c ⋯;rw[aP ⋯,aP (xs:=PY) h] at qc;refine⟨x.take c,x[c]'(by lia),(ih _).mpr ⟨by simp;lia,λi hi=>?_⟩,qc.1,qc.2,?_⟩
   .have:=q i ⋯;rw[aP ⋯] at this;rw[aP (by simp;lia),aaJ];exact this
   .rw[<- VX ⋯,Wr ⋯]
def p9:x∈jq PY ↔ Kp PY x:=by
 have:=iT (PY:=PY) PY.length (U9 _) x;rw[Xk] at this;exact this.trans ⟨λh=>⟨h.1,h.2⟩,λh=>⟨h.1,h.2⟩⟩
theorem tX{PY:List Int}(h5:∀x∈PY,2<=x/\x<=5):∀c,c<=PY.length->(jq (PY.take c)).length<=5^c
 | 0,_=>U9 1
 | c+1,h=>by
  rw[take_snoc PY h,iK,uh,abp];have:=h5 _ (Vx h);exact Ys (tX h5 c ⋯) ⋯
def GB.all(S:GB PY):(jq PY).length<=125:=by
 have h:=tX S.h5 PY.length (U9 _);rw[Xk] at h;exact Vz h (Vz (Wh ↑12 S.h3) ↑12)
def GB.Fg(S:GB PY)(nd:l.Nodup)(h:∀x∈l,Kp PY x):l.length<=125:=Vz (DR l (jq PY) nd λx hx=>p9.mpr (h x hx)) S.all
def sm(s x y:List Int):List Int:=(x.zip (y.zip s)).map λz=>(z.1+z.2.1)%z.2.2
theorem Hm{y:List Int}(S:Sz PY)(h1:x.length=PY.length)(h2:y.length=PY.length):Kp PY (sm PY x y)/\∀i,i<PY.length->vf PY i∣vf (sm PY x y) i-(vf x i+vf y i):=by
 have e:sm PY x y=CJ PY x y 1:=XF λz _=>by rw[Yu]
 have k:∀i,i<PY.length->vf (sm PY x y) i=(vf x i+vf y i)%vf PY i:=λi hi=>by rw[e,Ir h1 h2 hi,Yu]
 refine⟨⟨by rw[e];exact wC h1 h2,λi hi=>?_⟩,λi hi=>?_⟩
 .rw[k i hi];have:=nH S i hi;exact⟨VM _ ⋯,Vy _ ⋯⟩
 .rw[k i hi];exact dN _ _
theorem Jw{y:List Int}(h:Kp PY x)(k:Kp PY y)(d:∀i,i<PY.length->vf PY i∣vf x i-vf y i):x=y:=by
 refine pq (by rw[h.1,k.1]) λi hi=>?_;rw[h.1] at hi;have a:=h.2 i hi;have b:=k.2 i hi;have:=sG (d i hi) ⋯ ⋯;lia
section
variable{line:List (List Int)}
theorem yp(Q:jH ns PY Qz Ls T P1)(kp:∀x∈line,Kp PY x)(z:U6 PY.length 0∈line)(cl:∀x∈line,∀l∈Ls,sm PY x l∈line)(hx:Kp PY x)(gx:GT PY T (vf x)):x∈line:=by
 have S:=Q.S;have hR:=p7 S;have hq:=Bq S;obtain⟨P,hP⟩:=Q.led gx;have one:∀(v:bR) l,l<Ls.length->(∃y∈line,∀i,i<PY.length->vf PY i∣vf y i-v i)->∃y∈line,∀i,i<PY.length->vf PY i∣vf y i-(v i+AA Ls l i):=by
  rintro v l hl ⟨y,hy,d⟩;have ml:Ls[l]∈Ls:=Vx hl;have ea:AA Ls l=vf Ls[l]:=by unfold AA;rw[Va,U4 hl,W8]
  refine⟨_,cl y hy _ ml,λi hi=>?_⟩;have:=XA ((Hm S (kp y hy).1 (Q.kp _ ml).1).2 i hi) (d i hi);rw[ea]
  rwa [show ∀a b c e:Int,a-(b+c)+(b-e)=a-(e+c) by intros;lia] at this
 have many:∀(v:bR) l,l<Ls.length->(∃y∈line,∀i,i<PY.length->vf PY i∣vf y i-v i)->∀k:Nat,∃y∈line,∀i,i<PY.length->vf PY i∣vf y i-(v i+(k:Int)*AA Ls l i):=by
  intro v l hl h k
  induction k with
  | zero=>obtain⟨y,hy,d⟩:=h;exact⟨y,hy,λi hi=>by have:=d i hi;simpa using this⟩
  | succ k ih =>
   obtain⟨y,hy,d⟩:=one _ l hl ih;refine⟨y,hy,λi hi=>?_⟩;have:=d i hi
   rwa [show ∀a b:Int,a+(k:Int)*b+b=a+((k+1:Nat):Int)*b by intros;rw[Int.natCast_add,Int.add_mul];lia] at this
 have all:∀m,m<=Ls.length->∃y∈line,∀i,i<PY.length->vf PY i∣vf y i-bO m λl=>P l%R PY*AA Ls l i:=by
  intro m
  induction m with
  | zero=>exact λ_=>⟨_,z,λi hi=>by rw[fF];exact⟨0,by simp[bO]⟩⟩
  | succ m ih =>
   intro hm;obtain⟨y,hy,d⟩:=many _ m ⋯ (ih ⋯) (P m%R PY).toNat;rw[Xe (VM _ ⋯)] at d;exact⟨y,hy,d⟩
 obtain⟨y,hy,d⟩:=all Ls.length (U9 _);have:x=y:=Jw hx (kp y hy) λi hi=>by
  have h1:vf PY i∣(bO Ls.length λl=>P l*AA Ls l i)-bO Ls.length λl=>P l%R PY*AA Ls l i:=by
   have e:=gc 1 (-1) (λl=>P l*AA Ls l i) (λl=>P l%R PY*AA Ls l i) (λl=>(P l-P l%R PY)*AA Ls l i) Ls.length λl _=>by rw[ac6];lia
   have d:vf PY i∣bO Ls.length λl=>(P l-P l%R PY)*AA Ls l i:=qa λl hl=>Wi (Wi (hq i hi) (Int.dvd_self_sub_emod)) (aaI _ _);rw[e] at d
   rwa [show ∀a b:Int,1*a+-1*b=a-b by intros;lia] at d
  have:=adb (XA (hP i hi) h1) (d i hi)
  rwa [show ∀a b c e:Int,a-b+(b-c)-(e-c)=a-e by intros;lia] at this
 rwa[this]
end
abbrev zr(PY:List Int):List Int:=U6 PY.length 0
def CS(xs:List Int):AS (M.ok (tI xs))=M.ok (tI xs):=ar (vm xs)
def ue(b:Bool):EJ (M.ok b)=M.ok b:=V2 rfl rfl
def Kv(n:Nat):PV.tup (U6 n (.int 0))=tI (U6 n 0):=by rw[tI,WK]
theorem hV.nx{b:M Out}{J:af->Prop}(h:hV b λo=>∃e,o=.nx e/\J e):∃e,b=M.ok (.nx e)/\J e:=by
 obtain⟨_,e,e',rfl,j⟩:=h;exact⟨e',e,j⟩
structure Dg (PY:List Int) (Ls:List (List Int)) (T:List Row) (line:List (List Int)) (c:Nat):Prop where
 nd:line.Nodup
 kp:∀x∈line,Kp PY x/\GT PY T (vf x)
 z:zr PY∈line
 cl:∀x∈line.take c,∀l∈Ls,sm PY x l∈line
 le:c<=line.length
theorem Dg.Fg{line:List (List Int)}{c:Nat}(D:Dg PY Ls T line c)(S3:GB PY):line.length<=125:=S3.Fg D.nd λx hx=>(D.kp x hx).1
theorem L9(Q:jH ns PY Qz Ls T P1){l:List Int}(hx:Kp PY x/\GT PY T (vf x))(hl:l∈Ls):Kp PY (sm PY x l)/\GT PY T (vf (sm PY x l)):=by
 obtain⟨a,b⟩:=Hm Q.S hx.1.1 (Q.kp l hl).1;obtain⟨k,hk,e⟩:=oB hl;exact⟨a,Q.st.gd.oQ ⋯ b (G.add ⋯ hx.2 (by rw[<- e];exact Q.O0 hk))⟩
theorem A6(S3:GB PY)(Q:jH ns PY Qz Ls T P1):∃ks:List (List Int),dS [lI PY,.lst (Ls.map tI)]=M.ok (.nB (sJ ks))/\ks.Nodup/\∀x,x∈ks ↔ Kp PY x/\GT PY T (vf x):=by
 suffices h:hV (dS [lI PY,.lst (Ls.map tI)]) λp=>∃ks:List (List Int),p=.nB (sJ ks)/\ks.Nodup/\∀x,x∈ks ↔ Kp PY x/\GT PY T (vf x) by
  obtain⟨_,e,ks,rfl,q⟩:=h;exact⟨ks,e,q⟩
 have S:=S3.S;have l6:=S.h6;have m8:=Q.m8;have D0:Dg PY Ls T [zr PY] 0:=⟨by simp,λx hx=>by
  rw[Vs.mp hx];exact⟨pM S,G.ext ⋯ (λi hi=>by rw[fF]) (G.zero ⋯)⟩,Vl,(λx hx=>by cases hx),Vd _⟩
 unfold dS fJ;dsimp? [Li,U8,pZ (.int 0) PY.length ⋯,Kv,uu,xo,nV];refine hV.L6 (λenv=>∃(line:List (List Int))(c:Nat)(y5 y6:Option SV),env=[some (.sh (lI PY)),some (.sh (.lst (Ls.map tI))),some (.dw (sJ line)),some (.ow (line.map tI)),some (.sh (.int (c:Int))),y5,y6]/\Dg PY Ls T line c) (λenv=>match env with
  | [_,_,_,_,some (.sh (.int q)),_,_]=>125-q.toNat
  | _=>0) ⟨[zr PY],0,none,none,rfl,D0⟩ ?_ ?_
 .rintro env ⟨line,c,y5,y6,rfl,D⟩;have Fg:=D.Fg S3
  by_cases lt:(c:Int)<(line.length:Int)
  .have c1:c<line.length:=by lia
   obtain⟨x0,Ug⟩:∃x0,x0=line[c]:=⟨_,rfl⟩
   have kx:=D.kp x0 (by rw[Ug];exact Vx _);refine .inr ⟨by dsimp? [nu,ownAt,U8,lt,decide_true,ue],hV.nx ?_⟩;dsimp? [];refine hV.loop (xs:=Ls) (inj:=tI) (λzs env=>∃(ln:List (List Int))(d:Nat)(y5 y6:Option SV),env=[some (.sh (lI PY)),some (.sh (.lst (Ls.map tI))),some (.dw (sJ ln)),some (.ow (ln.map tI)),some (.sh (.int (c:Int))),y5,y6]/\Dg PY Ls T ln c/\ln[c]?=some x0/\zs=Ls.drop d/\∀l∈Ls.take d,sm PY x0 l∈ln) ⟨line,0,_,_,rfl,D,by rw[U4 c1,Ug],rfl,λl hl=>by cases hl⟩ ?_ ?_
   .rintro l rr env ⟨ln,d,y5,y6,rfl,D',hc,hd,hl⟩;have Us:=D'.Fg S3;obtain⟨d1,d2,d3⟩:=drop_cons hd.symm;rw[U4 d1] at d2;have el:Ls[d]=l:=Vk d2;have ml:l∈Ls:=by rw[<- el];exact Vx _
    have kl:=Q.kp l ml;have ix:a_ (.lst (ln.map tI)) (.int (c:Int))=M.ok (tI x0):=bV (p:=.lst (ln.map tI)) rfl (by rw[VD,hc];rfl);have key:bD (kG 0 1 2) none (aj dI (aj eh (aa 0) (aa 1)) (aa 2)) ((x0.zip (l.zip PY)).map λz=>.tup [.int z.1,.int z.2.1,.int z.2.2]) [none,none,none]=M.ok ((sm PY x0 l).map PV.int):=by
     rw[sm,VC];refine C1 (p:=λz:Int×Int×Int=>PV.int z.1) (q:=λz=>PV.int z.2.1) (s:=λz=>PV.int z.2.2) (x0.zip (l.zip PY)) λz hz=>?_;obtain⟨n1,n2⟩:=WL (a:=z.1) (b:=z.2) hz;obtain⟨n3,n4⟩:=WL (a:=z.2.1) (b:=z.2.2) n2;have:=S.hx _ n4;dsimp? [bw (i:=z.1+z.2.1) (j:=z.2.2) ⋯];rfl
    have z1:(x0.zip (l.zip PY)).length<=sizeLine:=by simp only[We];exact aS ⋯
    have et:PV.tup ((sm PY x0 l).map PV.int)=tI (sm PY x0 l):=rfl;have ts:∀k:List Int,k∈Ls.take (d+1)->k∈Ls.take d\/k=l:=λk hk=>by
     rw[VX d1,el] at hk;rcases Wc.mp hk with h|h
     .exact .inl h
     .exact .inr (Vs.mp h)
    by_cases mem:sm PY x0 l∈ln
    .dsimp? [bB,nI,ownAt,ix,lL (p:=tI x0) (q:=tI l) (r:=lI PY) x0 l PY rfl rfl rfl,U8,ar z1,key,et,CS,MV,nV,yz,decide_eq_true mem];exact⟨_,rfl,ln,d+1,_,_,rfl,D',hc,d3.symm,λk hk=>(ts k hk).elim (hl k) λe=>by rwa[e]⟩
    .have lz:(sJ ln).length<sizeLine:=by rw[sJ,U8];exact WH Us ↑12
     dsimp? [bB,nI,ownAt,ix,lL (p:=tI x0) (q:=tI l) (r:=lI PY) x0 l PY rfl rfl rfl,U8,ar z1,key,et,CS,MV,nV,yz,decide_eq_false mem,Bw,uu,lz,BO mem,uJ,vb (xs:=ln.map tI) (show (ln.map tI).length<1000 by simp;lia)];refine⟨_,rfl,ln++[sm PY x0 l],d+1,_,_,by rw[W4];rfl,⟨?_,λx hx=>?_,Xw _ D'.z,λx hx k hk=>?_,by rw[Vw];have:=D'.le;lia⟩,?_,d3.symm,λk hk=>(ts k hk).elim (λh=>Xw _ (hl k h)) λe=>by rw[e];exact V0 _ Vl⟩
     .rw[acM];exact⟨D'.nd,by simp,λa ha b hb e=>mem (by rwa[<- Vs.mp hb,<- e])⟩
     .rcases Wc.mp hx with h|h
      .exact D'.kp x h
      .rw[Vs.mp h];exact L9 Q kx ml
     .rw[List.take_append_of_le_length D'.le] at hx;exact Xw _ (D'.cl x hx k hk)
     .rw[VZ (by have:=VI.mp hc;exact this.1)];exact hc
   .rintro env ⟨ln,d,y5,y6,rfl,D',hc,hd,hl⟩;have Us:=D'.Fg S3;have Tf:Ls.length<=d:=Yg.mp hd.symm;rw[Wr Tf] at hl;obtain⟨h1,h2⟩:=VI.mp hc;dsimp? [];refine⟨_,rfl,_,rfl,⟨ln,c+1,_,_,rfl,D'.nd,D'.kp,D'.z,λx hx k hk=>?_,h1⟩,?_⟩
    .rw[VX h1,h2] at hx;rcases Wc.mp hx with h|h
     .exact D'.cl x h k hk
     .rw[Vs.mp h];exact hl k hk
    .show 125-((c:Int)+1).toNat<125-((c:Int)).toNat;lia
  .exact .inl (by dsimp? [nu,ownAt,U8,lt,decide_false,ue])
 .rintro env ⟨line,c,y5,y6,rfl,D⟩ hu;have ge:¬ (c:Int)<(line.length:Int):=by
   intro lt;revert hu;dsimp? [nu,ownAt,U8,lt,decide_true,ue];intro hu;injection hu with hu
   injection hu with hu
   cases hu
  have le:=D.le;have ec:c=line.length:=by lia
  have cl:=D.cl;rw[ec,Xk] at cl;dsimp? [NL,OP];exact⟨_,rfl,line,rfl,D.nd,λx=>⟨D.kp x,λh=>yp Q (λy hy=>(D.kp y hy).1) D.z cl h.1 h.2⟩⟩
theorem qz:∀S:List (List Int),(∀x∈S,x≠[])->pT (S.map tI)=some S
 | [],_=>rfl
 | []::S,h=>absurd rfl (h _ (.head _))
 | (n::x)::S,h=>by
  rw[Vu,pT,qz S λy hy=>h y (.tail _ hy)];rw[show Ci (tI (n::x))=some (n::x) from mw _]
theorem mT(xs ys:List (List Int)):oo (.lst (xs.map tI)) (.lst (ys.map tI))=M.ok (.bl (!decide (xs=ys))):=by
 simp only[oo,mI,dat,mO,Y8,EV];have h1:=fD xs;have h2:=fD ys;rw[ar (by simp[abl,WV,Xs,jQ,abV,i_];lia)];unfold Spec.same;rw[j_];rfl
def Ib(xs:List Int)(c:Nat):M_ (tI xs) none (some (c:Int))=M.ok (tI (xs.take c)):=by
 show M.ok (PV.tup (nO (xs.map PV.int) none (some (c:Int))))=_;have:xs.take (min c xs.length)=xs.take c:=by
  rcases Nat.le_total c xs.length with h|h
  .rw[Nat.min_eq_left h]
  .rw[Nat.min_eq_right h,Xk,Wr h]
 rw[nO,HT.C0,HT.uY,List.drop_zero,U8,acE,<- List.map_take,this];rfl
def Kd(n:Nat):PV.lst (U6 n (.int 0))=lI (U6 n 0):=by rw[lI,WK]
def BI{F:List (List Int)}(h:F≠[])(hn:∀x∈F,x≠[]):vM [.lst (F.map tI)]=M.ok (tI (ze F)):=by
 simp only[vM];rw[qz F hn];cases F with
 | nil=>exact absurd rfl h
 |cons x r=>rfl
def yU(h:c<T.length):nz PY.length (T.take (c+1))=if (row T c).1=zr PY then nz PY.length (T.take c) else nz PY.length (T.take c)++[(row T c).1]:=by
 unfold nz;rw[VX h,List.filter_append,W4,<- fE h]
 by_cases z:(row T c).1=zr PY
 .rw[if_pos z,aa1 (by simp[z])];simp
 .rw[if_neg z,aa0 (by simpa using z)];simp
theorem r_(Q:jH ns PY Qz Ls T P1){D:PV}{ks:List (List Int)}(hD:IB D=M.ok (ks.map tI))(hl:ks.length<=1000)(hk:∀x,x∈ks ↔ Kp PY x/\GT PY T (vf x)):e_ [lI PY,D]=M.ok (.tup ((nz PY.length T).map tI)):=by
 have S:=Q.S;have l6:=S.h6;have tl:=Q.st.wf.len;have g:=Q.st.gd;refine hV.eq ?_;unfold e_ gM;dsimp? [gT,U8,dY (n:=(PY.length:Int)) ⋯ ⋯,VE];refine hV.loop (xs:=Ve PY.length) (inj:=λ(i:Nat)=>.int (i:Int)) (λzs env=>∃(c:Nat)(y3 y4:Option SV),env=[some (.sh (lI PY)),some (.sh D),some (.ow ((nz PY.length (T.take c)).map tI)),y3,y4]/\zs=(Ve PY.length).drop c/\c<=PY.length) ⟨0,_,_,rfl,rfl,Vd _⟩ ?_ ?_
 .rintro i rr env ⟨c,y3,y4,rfl,hd,hc⟩;obtain⟨c1,c2,c3⟩:=drop_cons hd.symm;rw[VN] at c1;rw[WS c1] at c2;obtain rfl:c=i:=Vk c2;have key:bD (bB 0) (some (zP (eM (aj ET (aj a_ (aa 0) (aa 1)) (λ_=>M.ok (.int 0)))) (eM (aj oJ (ai w4 (ae (m9 (aa 0) G7 (lp (aa 1))) ao)) (aj b_ (qj (ae (λ_=>M.ok (.int 0)) ao)) (aa 1)))))) (aa 0) (ks.map tI) [none,some (.sh (.int (c:Int)))]=M.ok ((ks.filter λx=>decide (0<vf x c)&&decide (x.take c=U6 c 0)).map tI):=by
   refine uT (inj:=tI) ks (λx hx=>?_) λx hx=>by dsimp? []
   have kx:=((hk x).mp hx).1;have xl:=kx.1
   by_cases p:0<vf x c
   .dsimp? [zP,iB (xs:=x) (i:=c) ⋯,p,decide_true,m9,G7,lp,Jo,Ib,pZ (.int 0) c ⋯,Kd,show PV.lst ((x.take c).map PV.int)=lI (x.take c) from rfl,JB]
   .dsimp? [zP,iB (xs:=x) (i:=c) ⋯,p,decide_false]
  have zl:ks.length<=sizeLine:=aS hl;have tc:c<T.length:=by lia
  obtain⟨F,hF⟩:∃F,F=ks.filter λx=>decide (0<vf x c)&&decide (x.take c=U6 c 0):=⟨_,rfl⟩
  rw[<- hF] at key;have mF:∀x,x∈F ↔ (Kp PY x/\GT PY T (vf x))/\0<vf x c/\∀i,i<c->vf x i=0:=λx=>by
   rw[hF,Yx,hk x];refine and_congr_right λh=>?_;rw[Wg,decide_eq_true_eq,decide_eq_true_eq];refine and_congr_right λ_=>⟨λe i hi=>?_,λe=>?_⟩
   .have xl:=h.1.1;have:=congrArg (λl=>vf l i) e;simp only[fF] at this;rw[aP (by simp;lia),aaJ] at this;rw[aP ⋯];exact this
   .have xl:=h.1.1;refine pq (by simp;lia) λi hi=>?_;have Ss:i<c:=by simp at hi;lia
    rw[fF,aP (by simp;lia),aaJ,<- aP ⋯];exact e i Ss
  by_cases z:DD T c c=0
  .have eF:F=[]:=Yr.mpr λx hx=>by
    obtain⟨h1,h2,h3⟩:=(mF x).mp hx;have:=AE g c1 z (h1.1.2 c c1) h1.2 h3;lia
   have rz:(row T c).1=zr PY:=pq (by rw[Q.st.wf.lV c1];simp) λi hi=>by
    rw[Q.st.wf.lV c1] at hi;rw[fF];exact Q.nul c c1 z i hi
   rw[eF] at key;dsimp? [bB,anyOf,hD,U8,ar zl,key,show oo (.lst ([]:List PV)) (.lst [])=M.ok (.bl false) from mT [] []];exact⟨_,rfl,c+1,_,_,by rw[yU tc,if_pos rz],c3.symm,c1⟩
  .have rg:=g.ja c c1;have p:0<DD T c c:=by have:=(rg c c1).1;lia
   have rk:Kp PY (row T c).1/\GT PY T (vf (row T c).1):=⟨⟨Q.st.wf.lV c1,rg⟩,g.row c1 ⋯ (Vd _)⟩
   have rF:(row T c).1∈F:=(mF _).mpr ⟨rk,p,λi hi=>g.qM c c1 i hi⟩;have nF:F≠[]:=λe=>by rw[e] at rF;cases rF
   have rz:¬ (row T c).1=zr PY:=λe=>z (by show vf (row T c).1 c=0;rw[e,fF]);have mn:ze F=(row T c).1:=Dp rF λk Rw=>by
    obtain⟨h1,h2,h3⟩:=(mF k).mp Rw;rcases xh g Q.low c1 z (λi hi=>(h1.1.2 i hi).1) h1.2 h3 h2 with e|⟨e,he,pre,lt⟩
    .exact .inl (pq (by rw[h1.1.1,rk.1.1]) λi hi=>e i (by rwa[h1.1.1] at hi))
    .exact .inr (DO e (by rw[h1.1.1,rk.1.1]) (by rwa[rk.1.1]) (λi hi=>(pre i hi).symm) lt)
   have mt:=BI nF λx hx e=>by
    have:=((mF x).mp hx).1.1.1;rw[e] at this;have:=S.h1;simp at *;lia
   rw[mn] at mt;have ne:oo (.lst (F.map tI)) (.lst [])=M.ok (.bl true):=(mT F []).trans (by rw[decide_eq_false nF];rfl);have nl:(nz PY.length (T.take c)).length<=6:=by
    unfold nz;rw[U8];refine Vz (YD _ _) ?_;simp;lia
   dsimp? [bB,anyOf,hD,U8,ar zl,key,ne,mt,uJ,ownAt,vb (xs:=(nz PY.length (T.take c)).map tI) (show ((nz PY.length (T.take c)).map tI).length<1000 by simp;lia)];exact⟨_,rfl,c+1,_,_,by rw[yU tc,if_neg rz,W4];rfl,c3.symm,c1⟩
 .rintro env ⟨c,y3,y4,rfl,hd,hc⟩;have Tf:(Ve PY.length).length<=c:=Yg.mp hd.symm;rw[VN] at Tf;dsimp? [];exact⟨_,rfl,by rw[Wr ⋯]⟩
theorem A8(xs ys:List (List Int)):oJ (.tup (xs.map tI)) (.tup (ys.map tI))=M.ok (.bl (decide (xs=ys))):=by
 simp only[oJ,mI,dat,mO,Y8,EV];have h1:=fD xs;have h2:=fD ys;rw[ar (by simp[abl,WV,Xs,jQ,abV,i_];lia)];unfold Spec.same;rw[j_];rfl
def Pr:qy au "prices" dj (eK pz PY Ls) (M.ok [])=M.ok (tI pz):=(iJ (fl:=mX pz PY Ls) rfl).trans (Ad PY Ls)
theorem sk{X:List (List Int)}(h:X.length<=6):e6 [eK (ones X) PY X,lI PY,.tup (X.map tI)]=M.ok (.bl true):=by
 have e1:PV.tup (U6 X.length (.int 1))=tI (ones X):=by rw[tI,ones,WK]
 unfold e6 gI;dsimp? [dq,Hi,Pr,PF,DJ,show PV.tup (PY.map PV.int)=tI PY from rfl,decide_true,U8,mul_one (.int 1) X.length ⋯,e1,A8]
section
variable{f r:List Int}{t:List (List Int)}{Te:List Row}{ie:List (List Int)}
theorem Hl(Q:jH ns f Qz Ls T P1):(nz f.length T).length<=6:=by
 have:=Q.S.h6;have tl:=Q.st.wf.len;unfold nz;rw[U8];exact Vz (YD _ _) ⋯
def Cg(h:∀l∈L,Kp f l):(L.map λl=>uE l f)=L:=(XF λl hl=>lJ (h l hl).Mg).trans (YJ _)
end
def Es{env:af}{f:af->M PV}{xs ys:List PV}(e:env[i]?=some (some (.ow xs)))(h:f env=M.ok (.lst ys))(hz:xs.length+ys.length<=sizeLine):xr i f env=M.ok (.nx (env.set i (some (.ow (xs++ys))))):=by
 unfold xr;rw[e];show (f env).bind _=_;rw[h,M.aV];exact if_pos hz
def Bp(ls:List (List Int))(s:Int)(h:d<ls.length):vg (ls.take (d+1)) s=vg (ls.take d) s++(Ve s.toNat).map λ(k:Nat)=>ls[d]++[(k:Int)]:=by
 unfold vg;rw[VX h,List.flatMap_append];simp
theorem G9(S3:GB PY):jf [lI PY]=M.ok (.lst ((jq PY).map tI)):=by
 have l3:=S3.h3;refine hV.eq ?_;unfold jf i6;dsimp? [];refine hV.loop (xs:=PY) (inj:=PV.int) (λzs env=>∃(c:Nat)(y2 y3 y4:Option SV),env=[some (.sh (lI PY)),some (.sh (.lst ((jq (PY.take c)).map tI))),y2,y3,y4]/\zs=PY.drop c/\c<=PY.length) ⟨0,_,_,_,rfl,rfl,Vd _⟩ ?_ ?_
 .rintro s rr env ⟨c,y2,y3,y4,rfl,hd,hc⟩;obtain⟨c1,c2,c3⟩:=drop_cons hd.symm;rw[U4 c1] at c2;have es:PY[c]=s:=Vk c2;have hs:=S3.h5 s (by rw[<- es];exact Vx _);obtain⟨L,hL⟩:∃L,L=jq (PY.take c):=⟨_,rfl⟩
  have Ll:L.length<=25:=by
   rw[hL];exact Vz (tX S3.h5 c hc) (Vz (Wh ↑12 (show c<=2 by lia)) ↑12)
  have Lk:∀l∈L,l.length<=3:=λl hl=>by
   rw[hL] at hl;have:=((iT c hc l).mp hl).1;lia
  rw[<- hL];dsimp? [bB,gT];refine hV.loop (xs:=L) (inj:=tI) (λzs env=>∃(d:Nat)(y4:Option SV),env=[some (.sh (lI PY)),some (.sh (.lst (L.map tI))),some (.sh (.int s)),some (.ow ((vg (L.take d) s).map tI)),y4]/\zs=L.drop d/\d<=L.length) ⟨0,_,rfl,rfl,Vd _⟩ ?_ ?_
  .rintro l rr env ⟨d,y4,rfl,hd,Tf⟩;obtain⟨d1,d2,d3⟩:=drop_cons hd.symm;rw[U4 d1] at d2;have el:L[d]=l:=Vk d2;have ll:=Lk l (by rw[<- el];exact Vx _);have key:bD (bB 0) none (aj eh (aa 1) (iP (ae (aa 0) ao))) ((Ve s.toNat).map λ(i:Nat)=>.int (i:Int)) [none,some (.sh (tI l))]=M.ok (((Ve s.toNat).map λ(k:Nat)=>l++[(k:Int)]).map tI):=by
    rw[VC];refine fk (inj:=λ(i:Nat)=>PV.int (i:Int)) (Ve s.toNat) λk hk=>?_;have ad:eh (tI l) (.tup [.int (k:Int)])=M.ok (tI (l++[(k:Int)])):=by
     show cX _ _=_;rw[ar (aS (by simp;lia)),tI,W4];rfl
    dsimp? [ad];rfl
   have zl:s.toNat<=sizeLine:=aS ⋯;have nl:=uh (L.take d) s;rw[YN] at nl;have nl':(vg (L.take d) s).length<=25*5:=by
    rw[nl];exact Ys ⋯ ⋯
   have ev:xr 3 (bQ (bN (jE k8 (ae (aa 2) ao)) (bB 0) none (aj eh (aa 1) (iP (ae (aa 0) ao))) 1 [4])) [some (.sh (lI PY)),some (.sh (.lst (L.map tI))),some (.sh (.int s)),some (.ow ((vg (L.take d) s).map tI)),some (.sh (tI l))]=M.ok (.nx [some (.sh (lI PY)),some (.sh (.lst (L.map tI))),some (.sh (.int s)),some (.ow ((vg (L.take (d+1)) s).map tI)),some (.sh (tI l))]):=by
    rw[Es (i:=3) (xs:=(vg (L.take d) s).map tI) (ys:=((Ve s.toNat).map λ(k:Nat)=>l++[(k:Int)]).map tI) rfl (by dsimp? [dY (n:=s) ⋯ ⋯,U8,VN,ar zl,key]) (aS (by simp;lia)),Bp L s d1,el,W4];rfl
   dsimp? [bB,ev];exact⟨_,rfl,d+1,_,rfl,d3.symm,d1⟩
  .rintro env ⟨d,y4,rfl,hd,Tf⟩;have e:L.length<=d:=Yg.mp hd.symm;rw[Wr e];dsimp? [];exact⟨_,rfl,c+1,_,_,_,by rw[take_snoc PY c1,iK,es,hL],c3.symm,c1⟩
 .rintro env ⟨c,y2,y3,y4,rfl,hd,hc⟩;have e:PY.length<=c:=Yg.mp hd.symm;dsimp? [];exact⟨_,rfl,by rw[Wr e]⟩
def Dh(g:af->M (List PV))(env:af):Ph g (.nx env)=g env:=V2 rfl rfl
def Ee(h:n<=1024):n<=sizeLine:=Vz h ↑12
theorem xM {f : Nat -> Int}(h : ∀l,l < m -> 0 < f l) : ∀{d : Nat},d <= m -> aE d f <= aE m f := by
  induction m with
  | zero => intro d hd; have : d=0 := by lia
            subst this; exact Int.le_refl _
  | succ m ih =>
    intro d hd
    by_cases e : d=m + 1
    . subst e; exact Int.le_refl _
    . have a := ih (λl hl => h l ⋯) (show d <= m by lia);have b : 0 < aE m f := c7 λl hl => h l ⋯;have c := h m ⋯;show _ <= aE m f * f m;have : aE m f * 1 <= aE m f * f m := VA ⋯ ⋯;lia
section
variable{S:List (List Int)}{o:List Int}
abbrev cA(PY:List Int)(T:List Row):Nat->Int:=λi=>vf PY i/aO (vf PY) (DD T) i
def oM(g:Good PY.length (vf PY) (DD T))(h:d<PY.length):0<cA PY T d :=
 Int.ediv_pos_of_pos_of_dvd (g.sp d h) (Zy (g.pos h).1) (g.dv d h)
def qq(Q:jH ns PY Qz Ls T P1):aE PY.length (cA PY T)=aE Ls.length λj=>II P1 j j:=by
 have g:=Q.st.gd;have p:=Q.pr;have q:aE PY.length (vf PY)=aE PY.length (cA PY T)*aE PY.length (aO (vf PY) (DD T)):=mR λl hl=>(Y3 (g.dv l hl)).symm;have z:0<aE PY.length (aO (vf PY) (DD T)):=c7 λl hl=>(g.pos hl).1;rw[q] at p;exact(aau (acN z) p).symm
structure Ev (PY:List Int) (T:List Row) (o:List Int) (d:Nat) (S:List (List Int)):Prop where
 kp:∀x∈S,Kp PY x
 gt:∀x∈S,G PY.length (vf PY) (DD T) PY.length 0 (λi=>vf x i-vf o i)
 inj:∀x∈S,∀y∈S,(∀i,i<d->vf x i=vf y i)->x=y
 nd:S.Nodup
 len:(S.length:Int)=aE d (cA PY T)
 all:∀x,Kp PY x->G PY.length (vf PY) (DD T) PY.length 0 (λi=>vf x i-vf o i)->∃y∈S,∀i,i<d->vf x i=vf y i
def qK(PY r:List Int)(S:List (List Int)):Nat->List (List Int)
 | 0=>[]
 |n+1=>qK PY r S n++S.map λx=>ad PY x r (n:Int)
theorem kq{r:List Int}{z:List Int}:∀{n:Nat},z∈qK PY r S n->∃x∈S,∃t:Nat,t<n/\z=ad PY x r (t:Int)
 | 0,h=>nomatch h
 | n+1,h=>by
  rcases Wc.mp h with h|h
  .obtain⟨x,hx,t,ht,e⟩:=kq h;exact⟨x,hx,t,by lia,e⟩
  .obtain⟨x,hx,e⟩:=VH.mp h;exact⟨x,hx,n,by lia,e.symm⟩
theorem oq{r:List Int}:∀n:Nat,(qK PY r S n).length=n*S.length
 | 0=>by simp[qK]
 |n+1=>by rw[qK,Vw,oq n,U8,acA]
theorem yV{r x:List Int}(h:x∈S){k:Nat}:∀{n:Nat},k<n->ad PY x r (k:Int)∈qK PY r S n
 | 0,hk=>absurd hk (YB _)
 | n+1,hk=>by
  rcases Yn.mp hk with q|q
  .exact Xw _ (yV h q)
  .rw[q];exact V0 _ (VH.mpr ⟨x,h,rfl⟩)
theorem t5(Q:jH ns PY Qz Ls T P1)(E:Ev PY T o d S)(hd:d<PY.length){y:List Int}(hx:x∈S)(hy:y∈S){t u:Nat}(ht:(t:Int)<cA PY T d)(hu:(u:Int)<cA PY T d)(h:∀i,i<d+1->vf (ad PY x (row T d).1 (t:Int)) i=vf (ad PY y (row T d).1 (u:Int)) i):x=y/\t=u:=by
 have g:=Q.st.gd;have r1:=Q.st.wf.lV hd;obtain⟨_,ax⟩:=lD (t:=(t:Int)) Q.S (E.kp x hx).1 r1;obtain⟨_,ay⟩:=lD (t:=(u:Int)) Q.S (E.kp y hy).1 r1;have exy:x=y:=E.inj x hx y hy λi hi=>by
  have e:=h i ⋯;have z:vf (row T d).1 i=0:=g.qM d hd i hi;rwa[ax i ⋯,ay i ⋯,z,W3,W3,Yw,Yw,WC ((E.kp x hx).2 i ⋯).1 ((E.kp x hx).2 i ⋯).2,WC ((E.kp y hy).2 i ⋯).1 ((E.kp y hy).2 i ⋯).2] at e
 refine⟨exy,?_⟩;subst exy;have e:=h d ⋯;rw[ax d hd,ay d hd] at e;have dv:vf PY d∣((t:Int)-u)*DD T d d:=by
  have:=abZ;have q:=aa2 (YW.mp e);rwa[show vf x d+(t:Int)*vf (row T d).1 d-(vf x d+(u:Int)*vf (row T d).1 d)=((t:Int)-u)*vf (row T d).1 d by grind] at q
 have p:=g.pos hd;have hs:=g.dv d hd;have fe:cA PY T d*aO (vf PY) (DD T) d=vf PY d:=Y3 hs
 by_cases z:DD T d d=0
 .have:aO (vf PY) (DD T) d=vf PY d:=by unfold aO;rw[if_pos z]
  have f1:cA PY T d=1:=by
   show vf PY d/aO (vf PY) (DD T) d=1;rw[this];exact ab8 (acN (g.sp d hd))
  lia
 .have es:aO (vf PY) (DD T) d=DD T d d:=by unfold aO;rw[if_neg z]
  rw[<- es,<- fe] at dv;have dv:=Int.dvd_of_mul_dvd_mul_right (acN p.1) dv;obtain⟨c,hc⟩:=dv;have f0:=oM g hd;generalize cA PY T d=F at *;rcases XC c 0 with h0|h0|h0
  .have:F*c<=F*(-1):=VA ⋯ ⋯;lia
  .subst h0;lia
  .have:F*1<=F*c:=VA ⋯ ⋯;lia
theorem Ev.next(Q:jH ns PY Qz Ls T P1)(E:Ev PY T o d S)(hd:d<PY.length):Ev PY T o (d+1) (qK PY (row T d).1 S (cA PY T d).toNat):=by
 have g:=Q.st.gd;have r1:=Q.st.wf.lV hd;have f0:=oM g hd;refine⟨λz hz=>?_,λz hz=>?_,λz hz w hw e=>?_,?_,?_,λx kx gx=>?_⟩
 .obtain⟨x,hx,t,ht,rfl⟩:=kq hz;exact(Hz Q.S (E.kp x hx).1 r1).1
 .obtain⟨x,hx,t,ht,rfl⟩:=kq hz;have:=(Hz (t:=(t:Int)) Q.S (E.kp x hx).1 r1).2;exact g.oQ ⋯ (λi hi=>by obtain⟨c,hc⟩:=this i hi;exact⟨c,by rw[<- hc];have:DD T d i=vf (row T d).1 i:=rfl;grind⟩) (G.add ⋯ (E.gt x hx) (G.mul (t:Int) ⋯ (g.row hd ⋯ (Vd _))))
 .obtain⟨x,hx,t,ht,rfl⟩:=kq hz;obtain⟨y,hy,u,hu,rfl⟩:=kq hw;obtain⟨a,b⟩:=t5 Q E hd hx hy ⋯ ⋯ e;rw[a,b]
 .have:∀n:Nat,(n:Int)<=cA PY T d->(qK PY (row T d).1 S n).Nodup:=by
   intro n
   induction n with
   | zero=>intro _;exact List.nodup_nil
   | succ n ih =>
    intro hn;rw[qK,acM];refine⟨ih ⋯,?_,λz hz w hw e=>?_⟩
    .unfold List.Nodup;rw[YG];exact Yk (λ{x y} hx hy ne e=>ne (t5 Q E hd hx hy (t:=n) (u:=n) ⋯ ⋯ λi _=>by rw[e]).1) E.nd
    .obtain⟨x,hx,t,ht,rfl⟩:=kq hz;obtain⟨y,hy,rfl⟩:=VH.mp hw;have:=(t5 Q E hd hx hy (t:=t) (u:=n) ⋯ ⋯ λi _=>by rw[e]).2;lia
  exact this _ ⋯
 .show ((qK PY (row T d).1 S (cA PY T d).toNat).length:Int)=aE d (cA PY T)*cA PY T d;rw[oq,aby,E.len,Xe ⋯,W2]
 .obtain⟨y,hy,e⟩:=E.all x kx gx;have ky:=E.kp y hy;have gd:G PY.length (vf PY) (DD T) PY.length 0 (λi=>vf x i-vf y i):=G.ext ⋯ (λi _=>by lia) (g.sub ⋯ gx (E.gt y hy));have dv:=gd.at_ (j:=d) (λi _ hi=>by show vf x i-vf y i=0;rw[e i hi];lia) (Vd _) ⋯;have p:=g.pos hd;have hs:=g.dv d hd;have s0:=g.sp d hd;have fe:cA PY T d*aO (vf PY) (DD T) d=vf PY d:=Y3 hs;obtain⟨w,hw⟩:∃w,w=(vf x d-vf y d)%vf PY d:=⟨_,rfl⟩
  have w0:0<=w/\w<vf PY d:=by rw[hw];exact⟨VM _ ⋯,Vy _ s0⟩
  have wd:aO (vf PY) (DD T) d∣w:=by
   rw[hw,YT];exact adb dv (Wi hs (aaI _ _))
  obtain⟨u,hu⟩:=wd;have u0:0<=u:=by
   rcases show u<0\/0<=u by lia with q|q
   .have:aO (vf PY) (DD T) d*u<=aO (vf PY) (DD T) d*(-1):=VA ⋯ ⋯;lia
   .exact q
  have u1:u<cA PY T d:=by
   rcases show u<cA PY T d\/cA PY T d<=u by lia with q|q
   .exact q
   .have:aO (vf PY) (DD T) d*cA PY T d<=aO (vf PY) (DD T) d*u:=VA q ⋯;rw[W2,fe] at this;lia
  obtain⟨k,rfl⟩:=Zg u0;obtain⟨_,ay⟩:=lD (t:=(k:Int)) Q.S ky.1 r1;refine⟨_,yV hy (show k<(cA PY T d).toNat by lia),λi hi=>?_⟩;rcases Yn.mp hi with q|q
  .have z:vf (row T d).1 i=0:=g.qM d hd i q;have:=ky.2 i ⋯;rw[ay i ⋯,z,W3,Yw,WC this.1 this.2];exact e i q
  .subst q;have kd:=kx.2 i hd;have yd:=ky.2 i hd;rw[ay i hd];have key:vf PY i∣vf x i-(vf y i+(k:Int)*vf (row T i).1 i):=by
    have e1:vf PY i∣w-(vf x i-vf y i):=by rw[hw];exact dN _ _
    by_cases z:DD T i i=0
    .have es:aO (vf PY) (DD T) i=vf PY i:=by unfold aO;rw[if_pos z]
     rw[es] at dv;rwa[show vf (row T i).1 i=0 from z,W3,Yw]
    .have es:aO (vf PY) (DD T) i=DD T i i:=by unfold aO;rw[if_neg z]
     rw[es,W2] at hu;obtain⟨c,hc⟩:=e1;exact⟨-c,by rw[abW,<- hc,hu];show _=-((k:Int)*vf (row T i).1 i-_);lia⟩
   have:=abZ;have q:=YW.mpr (aa3 key);rwa[WC kd.1 kd.2] at q
theorem Ev.start(Q:jH ns PY Qz Ls T P1)(h:Kp PY o):Ev PY T o 0 [lst PY Ls T o]:=by
 obtain⟨a,b,c,e⟩:=Av Q.st h.1 h.2;refine⟨λx hx=>by rw[Vs.mp hx];exact⟨a,c⟩,λx hx=>?_,λx hx y hy _=>by rw[Vs.mp hx,Vs.mp hy],by simp,rfl,λx _ _=>⟨_,Vs.mpr rfl,λi hi=>absurd hi (YB i)⟩⟩;rw[Vs.mp hx];exact G.ext ⋯ (λi hi=>by lia) (G.mul (-1) ⋯ e)
theorem zm(Q:jH ns PY Qz Ls T P1)(z:Kp PY o)(hm:aE Ls.length (λj=>II P1 j j)<=1024):∃S,Ev PY T o PY.length S/\eU [eK pz PY Ls,tI o]=M.ok ((kU S).map tI):=by
 have m8:=Q.m8;have l6:=Q.S.h6;have l1:=Q.S.h1;have g:=Q.st.gd;have tl:=Q.st.wf.len;obtain⟨sl,sb,sp⟩:=vX Q;have ep:=yk (xs:=ES P1) ⋯ sb;rw[sl,sp] at ep;rw[<- qq Q] at hm ep
 suffices h:hV (eU [eK pz PY Ls,tI o]) λp=>∃S,Ev PY T o PY.length S/\p=(kU S).map tI by
  obtain⟨_,e,S,E,rfl⟩:=h;exact⟨S,E,e⟩
 have lb:=DQ (P1:=P1) (pz:=pz) Q.S Q.m8 Q.st (show Ls.length+1<=9 by lia) z.1 z.2;unfold eU cO;dsimp? [CF,vx,Dh,ou Q.S z.Mg,Q.MH,dq,wJ (m := "spans") rfl,AY (P1:=P1) m8 Q.I,ep,decide_eq_false (show ¬ (1024:Int)<aE PY.length (cA PY T) by lia),wJ (m := "least") rfl,lb,Hi,wJ (m := "steps") rfl,wq (P1:=P1) Q.S Q.st,wJ (m := "rows") rfl,zh (T:=T) (show T.length<=1000 by lia),lL (p:=tI PY) (q:=tI (jt PY T)) (r:=.lst (T.map λr=>tI r.1)) PY (jt PY T) T rfl rfl rfl];have zl3:(PY.zip ((jt PY T).zip T)).length=PY.length:=by simp only[We,g8];lia
 refine hV.loop (xs:=PY.zip ((jt PY T).zip T)) (inj:=λz=>PV.tup [PV.int z.1,PV.int z.2.1,tI z.2.2.1]) (λzs env=>∃(d:Nat)(S:List (List Int))(y4 y5 y6 y7 y8:Option SV),env=[some (.sh (eK pz PY Ls)),some (.sh (tI o)),some (.sh (oI pz PY Ls T P1)),some (.sh (.lst (S.map tI))),y4,y5,y6,y7,y8]/\zs=(PY.zip ((jt PY T).zip T)).drop d/\d<=PY.length/\Ev PY T o d S) ⟨0,_,_,_,_,_,_,rfl,rfl,Vd _,Ev.start Q z⟩ ?_ ?_
 .rintro⟨a1,a2,a3⟩ r env ⟨d,S,y4,y5,y6,y7,y8,rfl,hz,hd0,E⟩;obtain⟨c1,c2,c3⟩:=drop_cons hz.symm;rw[zl3] at c1;rw[U4 ⋯] at c2;have c2:=Vk c2;rw[Xl,Xl] at c2;obtain⟨q1,q2⟩:=ac5 c2;obtain⟨q2,q3⟩:=ac5 q2;have e1:a1=vf PY d:=by rw[aP c1,q1]
  have e2:a2=aO (vf PY) (DD T) d:=by rw[<- uV c1,aP (by rwa[g8]),q2]
  have e3:a3=row T d:=by rw[fE ⋯,q3]
  subst e1 e2 e3;have p:=g.pos c1;have f0:=oM g c1;have s360:=nH Q.S d c1;have E':=E.next Q c1;have hn:((qK PY (row T d).1 S (cA PY T d).toNat).length:Int)<=1024:=by
   rw[E'.len];exact abq (xM (λl hl=>oM g hl) c1) hm
  rw[oq] at hn;have fb:cA PY T d<=360:=by
   have:cA PY T d*1<=cA PY T d*aO (vf PY) (DD T) d:=VA ⋯ ⋯;rw[show cA PY T d*aO (vf PY) (DD T) d=vf PY d from Y3 (g.dv d c1)] at this;lia
  have r1:=Q.st.wf.lV c1;have rb:Bd 200 (row T d).1:=pG Q.S r1 (g.ja d c1);dsimp? [kG,gT,bh (i:=vf PY d) (j:=aO (vf PY) (DD T) d) p.1 ⋯,dY (n:=vf PY d/aO (vf PY) (DD T) d) (Zy f0) (by show cA PY T d<_;lia)];refine hV.loop (xs:=Ve (vf PY d/aO (vf PY) (DD T) d).toNat) (inj:=λ(i:Nat)=>.int (i:Int)) (λzs env=>∃(t:Nat)(y8:Option SV),env=[some (.sh (eK pz PY Ls)),some (.sh (tI o)),some (.sh (oI pz PY Ls T P1)),some (.sh (.lst (S.map tI))),some (.sh (.int (vf PY d))),some (.sh (.int (aO (vf PY) (DD T) d))),some (.sh (tI (row T d).1)),some (.ow ((qK PY (row T d).1 S t).map tI)),y8]/\zs=(Ve (cA PY T d).toNat).drop t/\t<=(cA PY T d).toNat) ⟨0,_,rfl,rfl,Vd _⟩ ?_ ?_
  .rintro w r2 env ⟨t,y8,rfl,S8,_⟩;obtain⟨w1,w2,w3⟩:=drop_cons S8.symm;rw[VN] at w1;rw[WS w1] at w2;obtain rfl:t=w:=Vk w2;have key:bD (bB 0) none (ai lB (ae (aa 1) (ae (aa 0) (ae (aa 2) (ae (aa 3) ao))))) (S.map tI) [none,some (.sh (eK pz PY Ls)),some (.sh (tI (row T d).1)),some (.sh (.int (t:Int)))]=M.ok (S.map λx=>tI (ad PY x (row T d).1 (t:Int))) :=
    fk S λx hx=>by dsimp? [z7 (Ls:=Ls) (t:=(t:Int)) Q.S (E.kp x hx).1 rb ⋯]
   have hS:(t+1)*S.length<=1024:=Vz (YL _ w1) ⋯;have hS1:S.length<=1024:=Vz (Nat.le_mul_of_pos_left _ (Zu t)) hS;rw[acA] at hS;dsimp? [bB];rw[Es (xs:=(qK PY (row T d).1 S t).map tI) (ys:=S.map λx=>tI (ad PY x (row T d).1 (t:Int))) rfl (by dsimp? [U8,ar (Ee hS1),key]) (by rw[U8,U8,oq];exact Ee hS)];dsimp? [];have ew:(qK PY (row T d).1 S (t+1)).map tI=(qK PY (row T d).1 S t).map tI++S.map λx=>tI (ad PY x (row T d).1 (t:Int)):=by rw[qK,W4,VC];rfl
   rw[<- ew];exact⟨_,rfl,t+1,_,rfl,w3.symm,w1⟩
  .rintro env ⟨t,y8,rfl,S8,ht2⟩;have ht:(cA PY T d).toNat<=t:=by
    have:=congrArg Yc S8;rw[Wy,VN] at this;simp at this;lia
   have ht3:t=(cA PY T d).toNat:=by lia
   subst ht3;dsimp? [];exact⟨_,rfl,d+1,_,_,_,_,_,_,rfl,c3.symm,c1,E'⟩
 .rintro env ⟨d,S,y4,y5,y6,y7,y8,rfl,hz,hd0,E⟩;have hd:d=PY.length:=by
   have:=congrArg Yc hz;rw[Wy,zl3] at this;simp at this;lia
  subst hd;dsimp? [vx,Dh,lC,zd,qz S λx hx=>by have:=(E.kp x hx).1;rintro rfl;simp at this;lia];exact⟨_,rfl,S,E,rfl⟩
end
theorem wO:∀{S M:List (List Int)},S.Nodup->(∀x∈S,x∈M)->M.length<=S.length->S.Perm M
 | [],M,_,_,h=>by cases M with
  | nil=>exact .nil
  | cons _ _=>simp at h
 | a::S,M,n,h,l=>by
  rw[Yy] at n;have ha:=h a (.head _);have p:=List.perm_cons_erase ha;refine(List.Perm.cons a (wO n.2 (λx hx=>?_) ?_)).trans p.symm
  .exact(abY (by rintro rfl;exact n.1 hx)).mpr (h x (.tail _ hx))
  .have:=p.length_eq;simp only[VF] at this l;lia
theorem BW(PY:List Int)(h:Sz PY):gC [lI PY]=M.ok (.int (R PY)):=by
 unfold gC gG;dsimp? [];refine dy PY (λr env=>∃acc x y z,env=[some (.sh (lI PY)),some (.sh (.int (acc:Nat))),x,y,z]/\Acc PY r acc) ⟨1,_,_,_,rfl,.start h⟩ ?_ ?_
 .rintro a r env ⟨acc,x,y,z,rfl,A⟩;obtain⟨A2,e1,e2,e3⟩:=A.turn;have l1:=A.lt;have ha:=A.ja a Vl;have g1:VG acc a<=acc:=aaO A.pos (ace.mp (XN ..));have d0:0<=(acc:Int)/(VG acc a:Nat):=Xg ⋯ ⋯;refine⟨_,[some (.sh (lI PY)),some (.sh (.int (X3 acc a.toNat:Nat))),some (.sh (.int a)),some (.sh (.int (VG acc a:Nat))),some (.sh (.int 0))],rfl,?_,_,_,_,_,rfl,A2⟩;dsimp? [Fv,zg];refine xU (λenv=>∃p q:Nat,env=[some (.sh (lI PY)),some (.sh (.int (acc:Nat))),some (.sh (.int a)),some (.sh (.int p)),some (.sh (.int q))]/\Nat.gcd p q=VG acc a) (λenv=>match env with
   | [_,_,_,_,some (.sh (.int q))]=>q.toNat
   | _=>0) ⟨acc,a.toNat,by rw[Xe ⋯],?_⟩ ?_ ?_
  .obtain⟨n,rfl⟩:=Zg (show 0<=a by lia);rfl
  .rintro env ⟨p,q,rfl,hg⟩
   by_cases h0:¬ (0:Int)<q
   .exact .inl (by dsimp? [h0,decide_false])
   .have h0':(0:Int)<q:=by lia
    refine .inr ⟨by dsimp? [h0',decide_true],[some (.sh (lI PY)),some (.sh (.int (acc:Nat))),some (.sh (.int a)),some (.sh (.int q)),some (.sh (.int ((p%q:Nat):Int)))],?_,⟨q,p%q,rfl,?_⟩,?_⟩
    .dsimp? [Fv,zg,bw (i:=(p:Int)) h0'];rfl
    .rw[<- hg,Nat.gcd_comm p q,Nat.gcd_rec q p,Nat.gcd_comm]
    .show ((p%q:Nat):Int).toNat<(q:Int).toNat;have:=Nat.mod_lt p (show 0<q by lia);lia
  .rintro P6 ⟨p,q,rfl,hg⟩ hu;have hq:q=0:=by
    revert hu;dsimp? [];intro hu;have:(decide ((0:Int)<q))=false:=by injection hu with hu;injection hu
    simp at this;lia
   subst hq;rw[Nat.gcd_zero_right] at hg;subst hg;dsimp? [bh (i:=(acc:Int)) (show (0:Int)<(VG acc a:Nat) by lia) (show ((VG acc a:Nat):Int)<2^64 by lia),bu (k:=64) (l:=64) (show ((acc:Int)/(VG acc a:Nat)).natAbs<2^64 by lia) (show a.natAbs<2^64 by lia),e1];rfl
 .rintro P6 ⟨acc,x,y,z,rfl,A⟩;dsimp? [];have:=A.val;rw[R,<- this];rfl
theorem yO:∀{a b:List Int}(k k':Int),a.length=b.length->HT.lexLt a b=true->HT.lexLt (a++[k]) (b++[k'])=true
 | [],[],_,_,_,h=>by cases h
 | [],_::_,_,_,hl,_=>by cases hl
 | _::_,[],_,_,hl,_=>by cases hl
 | x::a,y::b,k,k',hl,h=>by
  rw[HT.bA] at h;rw[YQ,YQ,HT.bA]
  split at h
  .rename_i e;rw[if_pos e];exact yO k k' (YS hl) h
  .rename_i e;rwa[if_neg e]
theorem wt:∀(a:List Int){k k':Int},k<k'->HT.lexLt (a++[k]) (a++[k'])=true
 | [],k,k',h=>by
  rw[Y6,Y6,HT.bA,if_neg ⋯];exact decide_eq_true h
 | x::a,k,k',h=>by
  rw[YQ,YQ,HT.bA,if_pos rfl];exact wt a h
theorem y_{PY:List Int}:∀c,c<=PY.length->(jq (PY.take c)).Pairwise λa b=>HT.lexLt a b=true
 | 0,_=>by rw[List.take_zero];exact List.pairwise_singleton _ _
 | c+1,h=>by
  have ih:=y_ (PY:=PY) c ⋯;rw[take_snoc PY h,iK,vg,List.pairwise_flatMap];refine⟨λl _=>?_,ih.imp_of_mem λ{a b} ha hb e=>?_⟩
  .rw[YG];exact List.pairwise_lt_range.imp λ{k k'} e=>wt l ⋯
  .intro x hx y hy;obtain⟨k,_,rfl⟩:=VH.mp hx;obtain⟨k',_,rfl⟩:=VH.mp hy;exact yO _ _ (by rw[((iT c ⋯ a).mp ha).1,((iT c ⋯ b).mp hb).1]) e
theorem sI(S:Sz PY)(kw:Kp PY W)(ky:Kp PY ys):gQ [tI W,tI ys,lI PY]=M.ok (.int (eP PY.length (vf PY) (R PY) (vf W) (vf ys)%R PY)):=by
 have l6:=S.h6;have Wl:=kw.1;have yl:=ky.1
 let tm:Int×Int×Int->Int:=λz=>z.1*z.2.1*(R PY/z.2.2)
 have et:((W.zip (ys.zip PY)).map tm).sum=eP PY.length (vf PY) (R PY) (vf W) (vf ys):=by
  have hl:((W.zip (ys.zip PY)).map tm).length=PY.length:=by simp;lia
  rw[wm,hl];refine fc λi hi=>?_;rw[aP (by rwa[hl]),aP ⋯,aP ⋯,aP ⋯];simp[tm]
 have key:bD (kG 0 1 2) none (aj b_ (aj b_ (aa 0) (aa 1)) (aj bZ (aa 3) (aa 2))) ((W.zip (ys.zip PY)).map λz=>.tup [.int z.1,.int z.2.1,.int z.2.2]) [none,none,none,some (.sh (.int (R PY)))]=M.ok (((W.zip (ys.zip PY)).map tm).map PV.int):=by
  rw[VC];refine C1 (p:=λz:Int×Int×Int=>PV.int z.1) (q:=λz=>PV.int z.2.1) (s:=λz=>PV.int z.2.2) (W.zip (ys.zip PY)) λz hz=>?_;obtain⟨m1,m2⟩:=WL (a:=z.1) (b:=z.2) hz;obtain⟨m3,m4⟩:=WL (a:=z.2.1) (b:=z.2.2) m2;have a1:=kw.bd S _ m1;have a2:=ky.bd S _ m3;have a3:=qw S m4;have a4:=S.hx _ m4;have a5:(z.1*z.2.1).natAbs<2^400:=by
   rw[XU];rw[show 400=200+200 from rfl,abX];exact Nat.mul_lt_mul'' a1 a2
  dsimp? [bh (i:=R PY) (j:=z.2.2) ⋯ ⋯,bu (k:=200) (l:=200) a1 a2,bu (k:=400) (l:=64) a5 (show (R PY/z.2.2).natAbs<2^64 by lia)];rfl
 have z1:(W.zip (ys.zip PY)).length<=sizeLine:=by simp only[We];exact aS ⋯
 unfold gQ gN;dsimp? [BW PY S,lL (p:=tI W) (q:=tI ys) (r:=lI PY) W ys PY rfl rfl rfl,U8,ar z1,key,vI,et,bw (i:=eP PY.length (vf PY) (R PY) (vf W) (vf ys)) (j:=R PY) (p7 S)]
section
variable{Q4:List (List Int)}
def B5(Q:jH ns PY Qz Ls T P1)(kw:Kp PY W):∃b:Bool,cT [tI W,.lst (Ls.map tI),lI PY]=M.ok (.bl b)/\(b=true ↔ An PY (GT PY T) (vf W)):=by
 have S:=Q.S;have hR:=p7 S;have an:An PY (GT PY T) (vf W) ↔ ∀l∈Ls,R PY∣eP PY.length (vf PY) (R PY) (vf W) (vf l):=by
  constructor
  .intro h l hl;obtain⟨k,hk,e⟩:=oB hl;rw[<- e];exact h _ (Q.O0 hk)
  .intro h v hv;obtain⟨P,hP⟩:=Q.led hv;refine uN (Bq S) (λl hl=>?_) hP;have:Ls[l]∈Ls:=Vx hl;have ea:AA Ls l=vf Ls[l]:=by unfold AA;rw[Va,U4 hl,W8]
   rw[ea];exact h _ this
 suffices h:hV (cT [tI W,.lst (Ls.map tI),lI PY]) λp=>∃b:Bool,p=.bl b/\(b=true ↔ An PY (GT PY T) (vf W)) by
  obtain⟨_,e,b,rfl,q⟩:=h;exact⟨b,e,q⟩
 rw[an];unfold cT gA;dsimp? [];refine hV.Np (xs:=Ls) (inj:=tI) (λzs env=>∃(c:Nat)(y3:Option SV),env=[some (.sh (tI W)),some (.sh (.lst (Ls.map tI))),some (.sh (lI PY)),y3]/\zs=Ls.drop c/\∀l∈Ls.take c,R PY∣eP PY.length (vf PY) (R PY) (vf W) (vf l)) ⟨0,_,rfl,rfl,by simp⟩ ?_ ?_
 .rintro l rr env ⟨c,y3,rfl,hd,hl⟩;obtain⟨c1,c2,c3⟩:=drop_cons hd.symm;rw[U4 c1] at c2;have el:Ls[c]=l:=Vk c2;have ml:l∈Ls:=by rw[<- el];exact Vx _
  by_cases z:eP PY.length (vf PY) (R PY) (vf W) (vf l)%R PY=0
  .dsimp? [bB,sI S kw (Q.kp l ml),z,decide_true];refine⟨_,rfl,c+1,_,rfl,c3.symm,λx hx=>?_⟩;rw[VX c1,el] at hx;rcases Wc.mp hx with h|h
   .exact hl x h
   .rw[Vs.mp h];exact aa2 z
  .dsimp? [bB,sI S kw (Q.kp l ml),z,decide_false];exact⟨_,rfl,_,rfl,false,rfl,⟨(λh=>by cases h),λh=>absurd (aa3 (h l ml)) z⟩⟩
 .rintro env ⟨c,y3,rfl,hd,hl⟩;have e:Ls.length<=c:=Yg.mp hd.symm;rw[Wr e] at hl;dsimp? [];exact⟨_,rfl,true,rfl,λ_=>hl,λ_=>rfl⟩
theorem Ox.an(Q:jH ns PY Qz Ls T P1)(E:Ox pz ns PY Ls T P1 Q4 T' QG)(u:bR):An PY (GT PY T) u ↔ GT PY T' u:=by
 obtain⟨⟨Tr,Q'⟩,ln⟩:=E.Q;have hq:=Bq Q.S;exact⟨λh=>E.all u λb hb=>h _ (Q.st.gd.row hb ⋯ (Vd _)),λh v hv=>by
  obtain⟨P,hP⟩:=Q'.led h;rw[jI];refine uN hq (λl hl=>?_) hP;rw[jI];exact DZ hq PY.length 0 v ⋯ (λb _ hb=>E.dead l hl b hb) hv⟩
end
section
variable{Q4:List (List Int)}{S:List (List Int)}
theorem v5(h2:∀x∈PY,0<=x):∀c,c<=PY.length->((jq (PY.take c)).length:Int)=aE c (vf PY)
 | 0,_=>rfl
 | c+1,h=>by
  rw[take_snoc PY h,iK,uh,aby,v5 h2 c ⋯,Xe (h2 _ (Vx h)),<- aP h];rfl
theorem BG(E:Ev PY T (zr PY) PY.length S)(x:List Int):x∈S ↔ Kp PY x/\GT PY T (vf x):=by
 have e:∀x:List Int,∀i,i<PY.length->vf x i-vf (zr PY) i=vf x i:=λx i _=>by rw[fF];lia
 constructor
 .exact λh=>⟨E.kp x h,G.ext ⋯ (λi hi=>by show vf x i-vf (zr PY) i=_;exact e x i ⋯) (E.gt x h)⟩
 .rintro⟨k,g⟩;obtain⟨y,hy,q⟩:=E.all x k (G.ext ⋯ (λi hi=>by show _=vf x i-vf (zr PY) i;exact(e x i ⋯).symm) g);have:x=y:=pq (by rw[k.1,(E.kp y hy).1]) λi hi=>q i (by rwa[k.1] at hi);rwa[this]
def zv{A B:List (List Int)}(na:A.Nodup)(nb:B.Nodup)(h:∀x,x∈A ↔ x∈B):A.Perm B:=wO na (λx hx=>(h x).mp hx) (DR B A nb λx hx=>(h x).mpr hx)
def G8{RZ:List (List Int)}(h:e9 [eK pz PY Ls]=M.ok (RZ.map tI)):ip [eK pz PY Ls,.lst (RZ.map tI)]=M.ok (.bl true):=by
 unfold ip iq;dsimp? [lC,h,nu,ownAt,ph,ue,mT,decide_true,J3,Ae]
end
def A3{f:List Int}(S:Sz f)(h8:L.length<=8)(hL:∀l∈L,Kp f l){w:Nat->Int}(hw:∀k,k<L.length->1<=w k/\w k<=1000):ff au cS [] [lI f,.lst (L.map tI),.lst ((Ve L.length).map λ(k:Nat)=>.int (w k))]=M.ok (eK ((Ve L.length).map w) f L):=by
 have:=C8 (p:=lI f) (pp:=.lst ((Ve L.length).map λ(k:Nat)=>.int (w k))) (pz:=(Ve L.length).map w) (f:=tI) (.inl rfl) f L (by rw[VC];rfl) rfl ↑13 (λx hx=>by
  obtain⟨k,hk,rfl⟩:=VH.mp hx;exact hw k (V9.mp hk)) rfl S h8 λl hl=>(hL l hl).1
 rwa [Cg hL] at this
theorem JY(ns:List Int):sd [.jX (ns.map PV.int)]=M.ok (.bl true):=by
 obtain⟨c0,ec0⟩:=GO ns 0 ↑12;rw[show ((0:Nat):Int)=0 from rfl] at ec0;obtain⟨_,es,f,rfl,Sf⟩:=Ap c0;have l6:=Sf.S.h6;have lv:∀c:Int,∃l:List Int,dF [.int c,lI f]=M.ok (tI l)/\Kp f l:=λc=>by
  obtain⟨_,el,l,rfl,lk⟩:=AJ Sf.S c;exact⟨l,el,JG Sf.S lk⟩
 obtain⟨lf,hlf⟩:=YV.mp lv;have l8:=zM ns 1 9;obtain⟨L,hL⟩:∃L,L=(l7 ns 1 9).map lf:=⟨_,rfl⟩
 have m0:L.length<=8:=by rw[hL,U8];lia
 have k0:∀l∈L,Kp f l:=λl hl=>by
  rw[hL] at hl;obtain⟨c,_,rfl⟩:=VH.mp hl;exact(hlf c).2
 have key0:bD (bB 0) none (ai dF (ae (aa 0) (ae (aa 1) ao))) ((l7 ns 1 9).map PV.int) [none,some (.sh (lI f))]=M.ok (L.map tI):=by
  rw[hL,VC];exact fk (inj:=PV.int) (l7 ns 1 9) λc _=>by dsimp? [(hlf c).1];rfl
 obtain⟨T,P1,Q⟩:=jH.kept ns Sf.S m0 k0;have exm:∀k:Nat,∃y:Int,k<=10->bT [.int c0,.int (90+(k:Int))]=M.ok (.int y):=λk=>by
  by_cases hk:k<=10
  .obtain⟨y,ey,_⟩:=ym c0 (90+k) ⋯;rw[show ((90+k:Nat):Int)=90+(k:Int) by lia] at ey;exact⟨y,λ_=>ey⟩
  .exact⟨0,λh=>(hk h).elim⟩
 obtain⟨w,hw⟩:=YV.mp exm;have p0:=A3 Sf.S m0 k0 (w:=λk=>1+w k%1000) λk _=>by show 1<=1+w k%1000/\1+w k%1000<=1000;lia
 generalize hz0:((Ve L.length).map λk=>1+w k%1000)=z0 at p0;have key1:bD (bB 0) none (aj eh (λ_=>M.ok (.int 1)) (aj dI (ai bT (ae (ai eI (ae (aa 1) (ae (λ_=>M.ok (.int 0)) ao))) (ae (aj eh (λ_=>M.ok (.int 90)) (aa 0)) ao))) (λ_=>M.ok (.int 1000)))) ((Ve L.length).map λ(i:Nat)=>.int (i:Int)) [none,some (.sh (.jX (ns.map PV.int)))]=M.ok ((Ve L.length).map λ(k:Nat)=>.int (1+w k%1000)):=by
  refine fk (inj:=λ(i:Nat)=>PV.int (i:Int)) (Ve L.length) λk hk=>?_;have:=V9.mp hk;dsimp? [ec0,hw k ⋯,bw (i:=w k) (j:=1000) ↑12]
 obtain⟨ks,ed,nd,Ue⟩:=A6 Sf Q;have Fg:=Sf.Fg nd λx hx=>((Ue x).mp hx).1;have al:=G9 Sf;have fa:=Sf.all;have bex:∀x:List Int,∃b:Bool,Kp f x->cT [tI x,.lst (L.map tI),lI f]=M.ok (.bl b)/\(b=true ↔ An f (GT f T) (vf x)):=λx=>by
  by_cases h:Kp f x
  .obtain⟨b,q⟩:=B5 Q h;exact⟨b,λ_=>q⟩
  .exact⟨true,λk=>absurd k h⟩
 obtain⟨bf,hbf⟩:=YV.mp bex;obtain⟨RZ,TN⟩:∃RZ,RZ=(jq f).filter bf:=⟨_,rfl⟩
 have T7:bD (bB 0) (some (eM (ai cT (ae (aa 0) (ae (aa 2) (ae (aa 1) ao)))))) (aa 0) ((jq f).map tI) [none,some (.sh (lI f)),some (.sh (.lst (L.map tI)))]=M.ok (RZ.map tI):=by
  rw[TN];exact uT (inj:=tI) (jq f) (λx hx=>by dsimp? [(hbf x (p9.mp hx)).1]) λx _=>by dsimp? []
 have T8:∀x,x∈RZ ↔ Kp f x/\An f (GT f T) (vf x):=λx=>by
  rw[TN,Yx,p9];exact and_congr_right λk=>(hbf x k).2
 have up:=y_ (PY:=f) f.length (U9 _);rw[Xk] at up;have upd:RZ.Pairwise λa b=>HT.lexLt a b=true:=by rw[TN];exact up.filter _
 have ndd:RZ.Nodup:=upd.imp λ{a b} h e=>by rw[e,tD] at h;cases h
 have lend:RZ.length<=125:=Sf.Fg ndd λx hx=>((T8 x).mp hx).1;have al2:=v5 (PY:=f) (λx hx=>by have:=Sf.h5 x hx;lia) f.length (U9 _);rw[Xk] at al2;obtain⟨Q4,T',QG,E⟩:=Bc (pz:=z0) Q;obtain⟨⟨Tr,Q'⟩,ln⟩:=E.Q;obtain⟨UY,Tv,T1,i1,Q1,e1,h1⟩:=E.cw;have an:=E.an Q;have pr:=Q.pr;have pI:0<aE L.length λj=>II P1 j j:=c7 λl hl=>Q.I.pos l hl;have pS:0<aE f.length (aO (vf f) (DD T)):=c7 λl hl=>(Q.st.gd.pos hl).1;have b1:aE f.length (aO (vf f) (DD T))<=125:=by
  have:1*aE f.length (aO (vf f) (DD T))<=(aE L.length λj=>II P1 j j)*aE f.length (aO (vf f) (DD T)):=Xo ⋯ ⋯;lia
 have b2:(aE L.length λj=>II P1 j j)<=125:=by
  have:(aE L.length λj=>II P1 j j)*1<=(aE L.length λj=>II P1 j j)*aE f.length (aO (vf f) (DD T)):=VA ⋯ ⋯;lia
 obtain⟨SS,EE,ea⟩:=zm (pz:=ones Q4) Q' (pM Sf.S) (by rw[E.c2];lia);obtain⟨S0,E0,_⟩:=zm (pz:=[]) Q (pM Sf.S) ⋯;have pd:RZ.Perm SS:=zv ndd EE.nd λx=>by rw[T8,BG EE,an]
 have pk:ks.Perm S0:=zv nd E0.nd λx=>by rw[Ue,BG E0]
 have J4:kU SS=RZ:=xK ((nr SS).trans pd.symm) (rY SS) (upd.imp λ{a b} h=>vJ h);rw[J4] at ea;have at':e9 [eK z0 f L]=M.ok (RZ.map tI):=by
  unfold e9 dC;dsimp? [CF,lC,E.ev,mC (Ls:=L) l6,ea]
 have td:=G8 at';have cnt:(RZ.length:Int)*(ks.length:Int)=((jq f).length:Int):=by
  rw[pd.length_eq,pk.length_eq,EE.len,E0.len,qq Q',qq Q,E.c2,al2,<- pr,W2]
 obtain⟨LC,TC,iC,eC,QC,eL⟩:=wB Q;have ak:IB (.nB (sJ ks))=M.ok (ks.map tI):=by show M.ok (qr (sJ ks))=_;rw[zZ]
 have st:=r_ Q (D:=.nB (sJ ks)) ak ⋯ Ue;have lc:=sk (PY:=f) (Hl Q);rw[eL] at eC;have Rm:=r_ Q1 (D:=.lst (RZ.map tI)) rfl ⋯ λx=>by rw[T8,an,h1]
 have lc1:=sk (PY:=f) (Hl Q1);have ev:=E.ev;rw[e1] at ev;have z8:(l7 ns 1 9).length<=sizeLine:=aS ⋯;have zl:L.length<=sizeLine:=aS ⋯;have za:(jq f).length<=sizeLine:=aS ⋯;unfold sd Ej;dsimp? [ec0,es,m9,lp,Jo,show M_ (.jX (ns.map PV.int)) (some 1) (some 9)=M.ok (.lst ((l7 ns 1 9).map PV.int)) from FV ns 1 9,U8,ar z8,key0,dY (n:=(L.length:Int)) ⋯ ⋯,VE,VN,ar zl,key1,p0,ed,al,ar za,T7,eC,st,lc,ev,Rm,lc1,td,Gs,bu (i:=(RZ.length:Int)) (j:=(ks.length:Int)) (k:=31) (l:=31) ⋯ ⋯,show (sJ ks).length=ks.length from U8 _,cnt,decide_true]
end xf
theorem PySem.Challenge.cw_dialvault_k42_whole_all_still_weights_holds : PySem.Challenge.rw_dialvault_k42_whole_all_still_weights.Holds :=
  xf.hold HD.said λns _ _ => xf.JY ns
end