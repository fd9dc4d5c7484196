import PyProof.Rows.All
import Wide.All
import OpenK.AllK
import Wide.FinOn
import Lean
import PyProof.EqAt
import PyProof.EqKinds
import PyProof.TupleCall
import PySem.Challenge.RW_dialvault_k32_all_that_belong_together
set_option compiler.extract_closed false
set_option compiler.reuse false
set_option compiler.small 0
set_option Elab.async false
set_option linter.all false
set_option maxRecDepth 100000
set_option maxHeartbeats 0
open PySem renaming wpAny_bind->TR,wpAny_pure->UX,wpAny_field->Vq,wpAny_callSpecial?_slot->VL,wpAny_setField_rec->VU,wpAny_seqItems->VZ,wpAny_call_entry->V8,wpAny_newObj_type->Wi,wpAny_mono->Wu,wpAny_holding->Wx,wpAny_rule->W0,wpAny_onRaise->W6,wpAny_attempt->W7,wpAny_typeNameOfWhole_keyiter->W_,wpAny_truthy_bool->Xc,wpAny_Call_Name_kw->Xr,wpAny_passesOwn->XD,wpAny_typeNameOf_keyiter->XM,mem_of_lookup->XO,wpAny_setField->XU,wpAny_letGo->XZ,wpAny_pyIter_tuple->X3,call_meets->Ye,wpAny_isInstance->Yp,wpAny_execs_nil->YA,wpAny_loadPart->YR,wpAny_typeOf->YW,wpAny_pyIter_enum->YX,plainObj_wpAny_Assign_Attribute->Y9,wpAny_pyIter_zip->Ze,wpAny_standAt->Zl,wpAny_updateSeq_pair->Zs,wpAny_updateSeq->ZC,wpAny_loadPart'->ZD,codeAny_mono->ZR,wpAny_letOwnedTupleGo_enum->Z5,isSubtype_stop->Z6,wpAny_call->Z7,wpAny_binaryOp_repeat_ref->aad,wpAny_letOwnedTupleGo_zip->aae,wpAny_pyIter_list->aai,wpAny_loadPart_at->aaj,wpAny_dictEntries->aan,noFill_tuple_add->aat,wpAny_pyNext_range_end->aaB,wpAny_pyIter_rangeiter->aaC,seqIndex_neg->aaF,wpAny_getItem_list_neg->aaH,typeIs_int->aaI,wpAny_ite_false->aa4,wpAny_dictEpoch->aa5,codeAny_handlers_test->aba,wpAny_isOneOf_keyiter->abg,wpAny_newTuple->abl,codeAny_call_builtin->abm,wpAny_pyIter_keyiter->abo,seq_tuple_add->abA,Within->abU,concat_meets->ab4,callType_new->ab7,seqSlot_of->acv
open PySem.Heap renaming get?_push_of_some->UT,get?_push_size->U1,lt_size->U3,get?_update_other->Vy,size_push->VN,get?_update_self->VS,SameBut->XE,get?_none_of_le->Yb,ExtBut->acH
open PySem.W renaming Frag->UU,findIn->VY,keepIn->V4,fnOf->Wb,kia_one->Wc,emptyDict->Ww,codeIn->WN,kitOne->W9,instObj->Xf,clsIn->XJ,InstAt->XS,any_some->XT,callWith_K->X4,typeIn->Yc,looks_findIn->Yd,exmOne->Yh,isFn->Yn,Looks->Yy,takerIn->YB,lookIn->YO,hasDictIn->YQ,specialIn->YS,kitx_list->YT,kitx_dict->YU,plainGet->Zc,excIn->Zo,takesIn->Zy,plainGet_of->ZI,looks_clsIn->ZJ,looks_mroIn->ZK,kitAny->Z8,methodObj->aah,mroIn->aao,cellsFrom_some->aaE,nsIn->aaL,findObj->aa3,methodCall_KW->aa_,kitx_float->abI,kitx_tuple->abJ,check_slot->abK,isNs_of_in->abM,tail_of_in->abN,plainOver->abW,set_plain->abX,kitx_none->ab0,kitx_bool->ab1,handedIn->acm,kitx_int->acn,kitx_str->aco,kitx_own->acp,makesIn->acN,bind_fn->acO,exm_one->acQ,mg_of->acW,KitX->acX
open List renaming getElem?_eq_getElem->UW,replicate->UY,length_map->U0,size_toArray->U6,mem_cons->U9,length_append->Vb,range->Vc,getD_eq_getElem?_getD->Ve,map_cons->Vg,mem_cons_of_mem->Vm,mem_iff_getElem->Vn,getElem?_append_right->Vp,mem_singleton->Vr,getElem?_map->Vu,length_cons->Vw,mem_cons_self->VA,map_map->VB,append_assoc->VG,mem_map->VI,length_range->VJ,getElem_mem->VP,append_nil->VT,getElem?_eq_some_iff->VW,getElem?_append_left->VX,length_drop->V2,mem_range->V3,mem_append_right->V6,mem_append->V7,all_eq_true->Wd,mem_nil_iff->We,replicate_succ->Wk,lookup_cons->Ws,find?_cons->WC,length_zip->WG,map_append->WH,length->WJ,pairwise_append->WK,flatten_cons->WQ,getElem?_range->WT,of_mem_zip->WU,drop_eq_getElem_cons->WX,length_zipIdx->W4,getElem?_set->Xd,map_nil->Xh,zipIdx_cons->Xn,getElem_map->Xo,not_mem_nil->Xp,length_mapIdx->Xs,zip_cons_cons->Xw,set_cons_zero->Xx,perm_append_comm->Xz,lookup->XF,pairwise_map->XG,eq_of_mem_replicate->XN,drop_eq_nil_of_le->X5,map_replicate->X7,fst_mem_of_mem_zipIdx->Yl,nodup_cons->YC,length_nil->YD,forIn_cons->YE,range_succ->YG,set_cons_succ->YH,getElem?_replicate->YJ,forIn_nil->YY,pairwise_lt_range->Y7,nodup_append->Y8,getElem?_eq_none->Y_,length_take->Zd,eq_nil_iff_forall_not_mem->Zi,any_cons->Zk,mem_append_left->Zq,getElem?_set_ne->Zr,zipIdx_nil->Zz,filterMap_cons->ZH,length_zipWith->ZL,getElem_zipIdx->ZN,flatMap_append->ZO,mem_filterMap->Z0,foldl->Z4,pairwise_iff_getElem->aaf,ext_getElem?->aak,map_id->aam,all_cons->aap,getElem_append_left->aas,mem_reverse->aax,length_eq_zero_iff->aay,getElem_zip->aaz,getElem?_set_self->aaA,zipWith->aaM,take_of_length_le->aaZ,length_set->aa0,nil_append->aa1,length_replicate->aa7,length_singleton->aa8,mem_iff_getElem?->abb,pairwise_reverse->abd,pairwise_flatMap->abi,getElem?_mapIdx->abn,getElem_of_mem->abv,map_congr_left->aby,getElem_of_eq->abP,reverse_perm->ab9,mapM_toArray->ab_,length_tail->acw,ext_getElem->acD,mem_flatMap->acE,mem_filter->acM,foldl_cons->acP,set_append->acR,map_const'->acU
open Nat renaming le_refl->UZ,lt_of_lt_of_le->U8,zero_le->Va,ne_of_lt->Vh,lt_or_ge->VH,le_trans->VM,lt_of_le_of_lt->V9,le_add_right->Wt,ne_of_gt->WB,pow_le_pow_right->WL,two_pow_pos->WV,lt_succ_self->WZ,mul_le_mul_right->Xb,le_of_lt->Xg,lt_irrefl->Xl,mul_le_mul_left->XR,le_succ->Yg,mul_le_mul->Ym,succ_mul->Yo,zero_add->Y4,log2_lt->Zu,min_le_left->ZG,mul_comm->ZQ,lt_or_eq_of_le->aac,le_of_eq->aaD,add_comm->aaK,eq_zero_of_not_pos->aaN,add_zero->aaO,lt_of_succ_lt_succ->aaS,lcm->aaX,eq_or_lt_of_le->abT,le_succ_of_le->acd,succ_pos->ace,pow_succ->acg,sub_self->acj,succ_ne_self->acy,max_eq_right->acz,succ_lt_succ->acC,pow_add->acK
open PyProof.Rows renaming wpS_bind->U4,wpS_pure->U_,callWith_type1->V_,slot_tuple_getitem->Wa,wpS_forRange->W8,wpS_mono->Xu,KK_mirror_equal->X8,wpS_modify->Zj,wpS_get->ZS,wpS_lift->aaw,subscriptTail_builtinR->aaG,listItems_at->aaP,pairsOf_size->aaQ,boot_zip->aa9,listUpdate_at->abC
open PySem.Value renaming ref->U5,none->VC,type->Wm,bool->Xq,int->Zb,builtin->Zn,str->ZX,float->abk
open Int renaming mul_le_mul_of_nonneg_left->U7,emod_lt_of_pos->Vd,emod_nonneg->Vk,gcd->Vv,toNat_natCast->VE,mul_ediv_cancel_left->V1,mul_le_mul_of_nonneg_right->Wg,eq_ofNat_of_zero_le->Wh,dvd_trans->WA,dvd_zero->WE,mul_comm->WR,toNat_of_nonneg->WS,ediv_nonneg->WW,eq_of_mul_eq_mul_left->WY,dvd_mul_left->W3,natAbs_mul->Xa,emod_eq_of_lt->Xe,mul_zero->Xk,gcd_dvd_left->XY,le_of_lt->X6,fdiv_eq_ediv_of_nonneg->Yj,one_mul->Yk,ediv_le_self->Ys,emod_eq_emod_iff_emod_sub_eq_zero->Yt,natCast_mul->YF,mul_nonpos_of_nonneg_of_nonpos->YI,emod_def->Y5,zero_mul->Y6,mul_ediv_add_emod->Za,mul_assoc->Zp,dvd_add->Zw,ediv_mul_cancel->ZP,add_zero->ZT,le_trans->ZU,mul_lt_mul_of_pos_right->ZW,natAbs_neg->aab,natAbs_ediv_le_natAbs->aag,lt_or_le->aaU,sub_zero->aaV,dvd_refl->aaW,le_ediv_iff_mul_le->aaY,emod_add_mul_ediv->abh,le_ediv_of_mul_le->abj,mul_neg->abq,mul_pos->abr,mul_ediv_self_le->abt,mul_ediv_cancel->abz,ediv_self->abD,sub_add_cancel->abQ,mul_ediv_assoc->abR,lt_of_lt_of_le->abS,sub_self->acf,gcd_dvd_right->ach,lt_trichotomy->aci,ne_of_gt->ack,dvd_antisymm->acF,mul_one->acG,neg_mul->acJ,le_refl->acL
open Option.some renaming inj->Vf
open PySem.W.Fast renaming te4187177175401517315->Vi,te5923862056798008813->Vj,te14364793385576792824->V0,te10110043849684766642->Xm
open PySem.Builtin.SmallTypes renaming nextOf->Vl,ownedTupleIsFree->Vx,ownedTupleHandOut->Wv
open Option renaming map_eq_some_iff->Vo,isSome_iff_exists->Yw,bind_eq_some_iff->YL,getD_some->Zg,map_some->aa6,isSome_map->ab5,getD_none->acr,bind_some->acu
open PySem.Builtin.Range renaming rangeSize->Vs,small->ZM,rangeFitsLong->ZV
open Array renaming length_toList->Vt,getElem?_toList->VO,toList_append->VQ,getElem?_extract->Wj,getElem?_eq_some_iff->Wq,size_extract->Wr,getElem?_eq_none->Xi,perm_iff_toList_perm->Xv,toList_reverse->Yi,getElem?_eq_getElem->Yv,eq_empty_of_size_eq_zero->Zh,toList_setIfInBounds->aaa,toList_push->aal,getElem_toList->abp,find?_toList->abG,append_empty->abO,toList->abV,toList_inj->acA,size_map->acV
open Eq renaming trans->Vz
open Bool renaming false_ne_true->VD,and_eq_true->VR,false_eq_true->V5,and_eq_true_iff->Zv,eq_iff_iff->ZA,false_and->ZZ,true_and->abE,and_true->abF,not_eq_true'->ab8
open PySem.Str renaming ofString->VF
open PySem.Builtin.Int renaming intBits->Wl
open True renaming intro->Wn
open PySem.Obj renaming mapSeq->Wo,data_mapFields->WI,mapFields->WM,isFreed_of_fields->Xy,cls_mapFields->ab6
open PySem.AutoSeq1 renaming wpAny_loadPart'->Wy,sub_tuple_tuple->Yz,idx_int->aav
open List.Pairwise renaming imp_of_mem->Wz,imp->Y0
open PyProof.Rows.KeyOrd renaming kle_refl->WD,kle_of_not_klt->XA,kle_of_klt->X_,kle_trans->Yq,klt_of_klt_of_kle->aaq,not_klt_of_kle->abc,kle_antisymm->abx
open False renaming elim->WO
open PySem.PyData renaming int->W2,canLay0->XX,depth->Yr,canLayAll0->Y3,depthAll->ZF
open Ne renaming symm->W5
open PySem.Builtin.List renaming listExtendWith->Xj,listTooLong->XI,listSameRef->aar,listItems->aaR
open PySem.Builtin.Slice renaming slicePlaces->XC,sliceAdjust->Yu,sliceApplied->Z1
open PySem.Builtin.Tuple renaming tupleExact->XH,tupleItemsOf->Z2,tupleTooMany->Z9
open PySem.Heap.SameBut renaming update->XQ
open List.Perm renaming append_left->X9,append_right->YZ
open PySem.F renaming args_tuple_add_2->Yx,entry_tuple_add->YK,plainAttrs_list->YM,slot_tuple_add->YV,excBase_ValueError->Z_,attr_ValueError->aau
open Sum renaming inl->YN,inr->abu
open PySem.NameKind renaming free->Zm,cell->abB
open PySem.Shared renaming heap->Zt
open PySem.Builtin.Dict_items renaming ownsTuple->ZE
open PySem.Calls renaming Name_function_global->ZY,callWith_builtin->aaJ
open Nat.succ renaming inj->aaT
open ForInStep renaming yield->aa2
open Classical renaming choose_spec->abe,choose->acB
open PySem.Builtin.Dict renaming showsAll->abf
open PySem.EntryCells renaming newEntry->abw
open PySem.W.Looks renaming here->abH
open PySem.Code renaming quiet_builtin->abL,isFrame->ab3
open PySem.Within renaming cons->abY
open PySem.Heap.Ns1 renaming of_empty->abZ
open PySem.Around renaming under->ab2
open PyProof.Rows.IsTup renaming new->acq
open PySem.Flow renaming next->acs
open Prod.mk renaming inj->acI
open Array.Perm renaming refl->acS
open PySem.W.Frag renaming In->acT
open List.modifyTailIdx renaming go->acY
set_option hygiene false
local macro_rules|`(⋯)=>`(by lia)
local macro_rules|`(↑$n:num)=>#[`(starEach (e::es) X.env=(false,eval e X.env)::starEach es X.env),`(X.fn x=true\/X.env.scope.names.lookup x=some .local),`((backTo pos (starEach es X.env)).any (·.1)=false),`(by first|exact .inl rfl|exact .inr (.inl rfl)),`(.cons rfl rfl (by walk_at "l") rfl rfl .nil),`(∀x,foldedSetIterable iter X.env x=pure x),`((x==("__classdict__" : Str))=false),`((x==("__debug__" : Str))=false),`(model X.prog X.w),`(by walk_at "l"),`(by kernel_rfl),`(model prog w),`(by decide),`(by simp)][n.getNat]!
noncomputable section
def aR(h:True:=by rfl):True:=h
def aD(h:True:=by decide):True:=h
def aI(h:True:=by intro _;rfl):True:=h
def aK(h:True:=by kernel_rfl):True:=h
def aF(h:True:=by first|exact .inl rfl|exact .inr rfl|assumption):True:=h
def aU(h:True:=by with_unfolding_all rfl):True:=h
def aN(h:True:=by decide +kernel):True:=h
def aG(h:True:=by first|exact .inl rfl|exact .inr rfl):True:=h
namespace L2
open PySem PySem.Spec PyProof.Rows
abbrev Key:=Sum Int Str
def sU:Key->Value->Bool
 | .inl k,v=>Value.isInt k v
 |.inr x,v=>Value.isStrOf x v
noncomputable def O5(w:World):Key->Int
 | .inl k=>hashInt k
 |.inr x=>hashStr w x
def cu:∀{k:Key}{v:Value},sU k v=true->(∃i t,k=YN i/\v=Zb i t)\/(∃x t,k=abu x/\v=ZX x t)
 | .inl i,v,h=>by
  obtain⟨t,e⟩:=Value.isInt_shape (k:=i) (v:=v) h;exact .inl ⟨i,t,rfl,e⟩
 | .inr x,v,h=>by
  obtain⟨t,e⟩:=Value.isStrOf_shape (x:=x) (v:=v) h;exact .inr ⟨x,t,rfl,e⟩
def Ad(i:Int)(t:Tok):sU (.inl i) (.int i t)=true:=by simp[sU,Value.isInt]
def zj(x:Str)(t:Tok):sU (.inr x) (.str x t)=true:=by simp[sU,Value.isStrOf]
def IU(a b:Int):decide ((YN a:Key)=YN b)=(a==b):=by
 by_cases e:a=b
 .subst e;simp
 .have h:¬ (YN a:Key)=YN b:=λq=>e (Sum.inl.inj q);rw[decide_eq_false h];exact(beq_eq_false_iff_ne.mpr e).symm
def Kw(a b:Str):decide ((abu a:Key)=abu b)=decide (a=b):=by
 by_cases e:a=b
 .subst e;simp
 .have h:¬ (abu a:Key)=abu b:=λq=>e (Sum.inr.inj q);rw[decide_eq_false h,decide_eq_false e]
def KW(a:Int)(b:Str):decide ((YN a:Key)=abu b)=false:=decide_eq_false (λq=>nomatch q)
def Ja(a:Str)(b:Int):decide ((abu a:Key)=YN b)=false:=decide_eq_false (λq=>nomatch q)
noncomputable def cz(prog:Program)(w:World):PySem.KeyKind prog w Key where
 is:=sU
 hash:=O5 w
 inj:=λv a b ha hb=>by
  rcases cu ha with ⟨i,t,rfl,rfl⟩|⟨x,t,rfl,rfl⟩
  .rcases cu hb with ⟨j,u,rfl,e⟩|⟨y,u,rfl,e⟩
   .injection e with e1 _;rw[e1]
   .exact nomatch e
  .rcases cu hb with ⟨j,u,rfl,e⟩|⟨y,u,rfl,e⟩
   .exact nomatch e
   .injection e with e1 _;rw[e1]
 byValue:=λk v h=>by
  rcases cu h with ⟨i,t,rfl,rfl⟩|⟨x,t,rfl,rfl⟩<;>rfl
 pyHash:=λhv h=>by
  rcases cu hv with ⟨i,t,rfl,rfl⟩|⟨x,t,rfl,rfl⟩
  .exact wpAny_pyHash_int h
  .exact wpAny_pyHash_str h
 eqBool:=λhu hv h=>by
  rcases cu hu with ⟨i,t,rfl,rfl⟩|⟨x,t,rfl,rfl⟩
  .rcases cu hv with ⟨j,u,rfl,rfl⟩|⟨y,u,rfl,rfl⟩
   .rw[IU] at h;exact wpAny_eqBool_int h
   .rw[KW] at h;exact SeqAt.EqAt.int_str i t y u _ _ _ _ h
  .rcases cu hv with ⟨j,u,rfl,rfl⟩|⟨y,u,rfl,rfl⟩
   .rw[Ja] at h;exact SeqAt.EqAt.str_int x t j u _ _ _ _ h
   .rw[Kw] at h;exact wpAny_eqBool_str h
 «strs»:=λk x t v h=>by
  rcases cu h with ⟨i,u,rfl,e⟩|⟨y,u,rfl,e⟩
  .exact nomatch e
  .injection e with e1 _
   subst e1;cases v<;>rfl
def vR(prog:Program)(w:World)(i:Int)(t:Tok):(cz prog w).is (.inl i) (.int i t)=true:=Ad i t
def v_(prog:Program)(w:World)(x:Str)(t:Tok):(cz prog w).is (.inr x) (.str x t)=true:=zj x t
inductive V where
 | c8|bl (b:Bool)|int (i:Int)|str (x:Str)|byt (b:Array UInt8)|HL (b:UInt64)|ref (a:Addr)|ty (n:String)
 deriving DecidableEq
def RelV:V->Value->Prop
 | .c8,u=>u=VC
 | .bl b,u=>u=Xq b
 | .int i,u=>∃t,u=Zb i t
 | .str x,u=>∃t,u=ZX x t
 | .byt b,u=>∃t,u=Value.bytes b t
 | .HL b,u=>∃t,u=abk b t
 | .ref a,u=>u=U5 a
 |.ty n,u=>u=Wm n
abbrev Vals:List V->List Value->Prop:=Paired RelV
theorem Vals.length{xs:List V}{us:List Value}(r:Vals xs us):xs.length=us.length:=Paired.length r
theorem Vals.get:∀{xs:List V}{us:List Value}{i:Nat}{x:V},Vals xs us->xs[i]?=some x->∃u,us[i]?=some u/\RelV x u
 | _,_,_,_,.nil,e=>by simp at e
 | _,_,0,_,.cons r _,e=>by simp at e;subst e;exact⟨_,rfl,r⟩
 | _,_,i+1,x,.cons _ t,e=>by
  obtain⟨u,h1,h2⟩:=Vals.get (i:=i) (x:=x) t (by simpa using e);exact⟨u,by simpa using h1,h2⟩
theorem Vals.set{x:V}{u:Value}(r:RelV x u):∀{xs:List V}{us:List Value}(i:Nat),Vals xs us->Vals (xs.set i x) (us.set i u)
 | _,_,_,.nil=>.nil
 | _,_,0,.cons _ t=>.cons r t
 |_,_,i+1,.cons q t=>.cons q (Vals.set r i t)
theorem Vals.append:∀{xs ys:List V}{us ws:List Value},Vals xs us->Vals ys ws->Vals (xs++ys) (us++ws)
 | _,_,_,_,.nil,s=>s
 |_,_,_,_,.cons r t,s=>.cons r (Vals.append t s)
theorem Vals.take:∀{xs:List V}{us:List Value}(n:Nat),Vals xs us->Vals (xs.take n) (us.take n)
 | _,_,0,_=>.nil
 | _,_,_+1,.nil=>.nil
 |_,_,n+1,.cons r t=>.cons r (Vals.take n t)
theorem Vals.drop:∀{xs:List V}{us:List Value}(n:Nat),Vals xs us->Vals (xs.drop n) (us.drop n)
 | _,_,0,r=>r
 | _,_,_+1,.nil=>.nil
 |_,_,n+1,.cons _ t=>Vals.drop n t
def j9:Option V->Option Value->Prop
 | some v,some u=>RelV v u
 | none,none=>True
 |_,_=>False
def KV{κ:Type}:List (κ×V)->List (κ×Value)->Prop:=Paired λ(p:κ×V) (q:κ×Value)=>p.1=q.1/\RelV p.2 q.2
def kV:Key->V
 | .inl i=>.int i
 |.inr x=>.str x
inductive HO where
 | lst (xs:List V)
 | tup (xs:List V)
 | dK (Qk:List (Key×V))|dT (Qk:List (List Key×V))
 | set (S:Int->Bool) (n:Nat)
 | ins (C dx:Addr) (fs:List (Str×V))
 | own (x:Addr)
 | xd (fs:List (Str×V))
 | met (f x:Addr)
 | kU (lo hi:Int)
 | kX (o:Obj) (u:HO)
 | HX (ps:Array Value)
 |ext (φ:Heap->Prop)
abbrev Hp:=Addr->Option HO
noncomputable def upd(H:Hp)(a:Addr)(o:HO):Hp:=λb=>if b=a then some o else H b
variable{o:HO}{H:Hp}
def av{a:Addr}:upd H a o a=some o:=by unfold upd;rw[if_pos rfl]
variable{b:Addr}
def au{a:Addr}(h:b≠a):upd H a o b=H b:=by unfold upd;rw[if_neg h]
def yv{a:Addr}{u:HO}:upd (upd H a o) a u=upd H a u:=by
 funext b;unfold upd;split<;>rfl
def Du{a:Addr}{u:HO}(h:H a=some o)(h':H b=some u)(d:o≠u):a≠b:=by
 intro e;subst e;rw[h] at h';exact d (Vf h')
def bN{a:Addr}(h:H a=some o)(h':H b=none):a≠b:=by
 intro e;subst e;rw[h] at h';cases h'
section
variable(P:Program)(w:World)
def bw(H:Hp)(h:Heap)(a:Addr):HO->Prop
 | .lst xs=>xs.length<=sizeLine/\∃(Qo:List Value)(n:Nat),Vals xs Qo/\h.get? a=some { cls:=.type "list",data:=.seq Qo.toArray n }
 | .tup xs=>xs.length<=sizeLine/\∃Qo:List Value,Vals xs Qo/\IsTup h a Qo.toArray
 | .dK Qk=>Qk.length<=sizeLine/\(a==sysModules)=false/\∃vs,KV Qk vs/\h.DictOf (cz P w) a vs
 | .dT Qk=>Qk.length<=sizeLine/\(a==sysModules)=false/\∃xs:List (List Key×Addr×Value),
   Paired (λ(p:List Key×V) (q:List Key×Addr×Value)=>p.1=q.1/\H q.2.1=some (.tup (p.1.map kV))/\RelV p.2 q.2.2) Qk xs ∧
   ∃o es ep,h.get? a=some o/\o.ExactDict/\o.data=.dict es ep/\es.toList=xs.map (entryOfKey (tupleKind (cz P w)))/\(xs.map (·.1)).Nodup
 | .set S n=>h.SetOf (intKind P w) a S n
 | .ins C dx fs=>H dx=some (.own a)/\fs.length<=1000/\dx≠a/\h.get? a=some (Xf C dx) ∧
   ∃mA,h.Ns1 dx mA/\(∀f,j9 (fs.lookup f) (mA f))/\abU mA (fs.map (·.1))
 | .own _=>∃o,h.get? a=some o
 | .xd fs=>∃mA,h.Ns1 a mA/\∀f,j9 (fs.lookup f) (mA f)
 | .kU lo hi=>∃t u v,h.get? a=some { cls:=.type "range",data:=.fields #[.int lo t,.int hi u,.int 1 v] }
 | .kX o u=>h.get? a=some o/\bw H h a u
 | .HX ps=>h.get? a=some { cls:=.none,data:=.fields ps }
 | .met f x=>h.get? a=some (aah (.ref f) (.ref x))
 |.ext φ=>φ h/\(∃o,h.get? a=some o)/\∀h1 h2:Heap,φ h1->(∀o,h1.get? a=some o->h2.get? a=some o)->φ h2
def kS(H:Hp)(h:Heap):Prop:=∀a o,H a=some o->bw P w H h a o
end
variable{h h':Heap}{H':Hp}{w:World}{P:Program}
section
variable{a:Addr}
theorem bw.lt(x:bw P w H h a o):a<h.objs.size:=by
 cases o with
 | lst xs=>obtain⟨_,_,_,_,e⟩:=x;exact U3 e
 | tup xs=>obtain⟨_,_,_,p⟩:=x;exact p.lt
 | dK Qk=>obtain⟨_,_,_,_,o,_,_,e,_⟩:=x;exact U3 e
 | dT Qk=>obtain⟨_,_,_,_,o,_,_,e,_⟩:=x;exact U3 e
 | set S n=>obtain⟨o,_,_,_,e,_⟩:=x;exact U3 e
 | ins C dx fs=>obtain⟨_,_,_,e,_⟩:=x;exact U3 e
 | own y=>obtain⟨_,e⟩:=x;exact U3 e
 | xd fs=>obtain⟨_,⟨_,_,_,e,_⟩,_⟩:=x;exact U3 e
 | kU lo hi=>obtain⟨_,_,_,e⟩:=x;exact U3 e
 | kX ob u=>obtain⟨e,_⟩:=x;exact U3 e
 | HX ps=>exact U3 (show h.get? a=some _ from x)
 | met f y=>exact U3 (show h.get? a=some _ from x)
 |ext φ=>obtain⟨_,⟨_,e⟩,_⟩:=x;exact U3 e
theorem Paired.K0{α β:Type}{F G:α->β->Prop}:∀{l₁:List α}{l₂:List β},Paired F l₁ l₂->(∀a b,F a b->G a b)->Paired G l₁ l₂
 | _,_,.nil,_=>.nil
 |_,_,.cons r t,f=>.cons (f _ _ r) (Paired.K0 t f)
def bw.mB(x:bw P w H h a o)(k:∀b u,(b=a\/H b=some (.own a))->h.get? b=some u->h'.get? b=some u)(ho:∀b,H b=some (.own a)->H' b=some (.own a))(ht:∀b xs,H b=some (.tup xs)->H' b=some (.tup xs)):bw P w H' h' a o:=by
 induction o with
 | lst xs=>obtain⟨z,Qo,n,r,e⟩:=x;exact⟨z,Qo,n,r,k _ _ (.inl rfl) e⟩
 | tup xs=>obtain⟨z,Qo,r,ob,e,c⟩:=x;exact⟨z,Qo,r,ob,k _ _ (.inl rfl) e,c⟩
 | dK Qk=>obtain⟨z,y,vs,r,ob,es,ep,e,c⟩:=x;exact⟨z,y,vs,r,ob,es,ep,k _ _ (.inl rfl) e,c⟩
 | dT Qk =>
  obtain⟨z,y,xs,r,ob,es,ep,e,c⟩:=x;exact⟨z,y,xs,Paired.K0 r λp q z=>⟨z.1,ht _ _ z.2.1,z.2.2⟩,ob,es,ep,k _ _ (.inl rfl) e,c⟩
 | set S n=>obtain⟨ob,es,ep,t,e,c⟩:=x;exact⟨ob,es,ep,t,k _ _ (.inl rfl) e,c⟩
 | ins C dx fs =>
  obtain⟨d,z,ne,e,mA,⟨od,es,ep,e2,c⟩,r⟩:=x;exact⟨ho _ d,z,ne,k _ _ (.inl rfl) e,mA,⟨od,es,ep,k _ _ (.inr d) e2,c⟩,r⟩
 | own y=>obtain⟨ob,e⟩:=x;exact⟨ob,k _ _ (.inl rfl) e⟩
 | xd fs=>obtain⟨mA,⟨od,es,ep,e,c⟩,r⟩:=x;exact⟨mA,⟨od,es,ep,k _ _ (.inl rfl) e,c⟩,r⟩
 | kU lo hi=>obtain⟨t,u,v,e⟩:=x;exact⟨t,u,v,k _ _ (.inl rfl) e⟩
 | kX ob u ih=>obtain⟨e,q⟩:=x;exact⟨k _ _ (.inl rfl) e,ih q⟩
 | HX ps =>
  have e:h.get? a=some { cls:=.none,data:=.fields ps }:=x;show h'.get? a=some { cls:=.none,data:=.fields ps };exact k a _ (.inl rfl) e
 | met f y =>
  have e:h.get? a=some (aah (.ref f) (.ref y)):=x;show h'.get? a=some (aah (.ref f) (.ref y));exact k a _ (.inl rfl) e
 |ext φ=>obtain⟨p,⟨o,e⟩,st⟩:=x;exact⟨st _ _ p λo q=>k _ _ (.inl rfl) q,⟨o,k _ _ (.inl rfl) e⟩,st⟩
theorem kS.lt(x:kS P w H h)(e:H a=some o):a<h.objs.size:=(x a o e).lt
def kS.fresh(x:kS P w H h)(e:h.objs.size<=a):H a=none:=by
 cases q:H a with
 | none=>rfl
 |some u=>exact absurd (U8 (x.lt q) e) (Xl _)
def kS.kept(x:kS P w H h)(k:∀b u,h.get? b=some u->h'.get? b=some u):kS P w H h':=λa o e =>
 (x a o e).mB (λb u _ q=>k b u q) (λ_ q=>q) λ_ _ q=>q
def kS.laid(x:kS P w H h)(k:∀b u,h.get? b=some u->h'.get? b=some u)(hp:h.objs.size<=a)(new:bw P w (upd H a o) h' a o):kS P w (upd H a o) h':=λb u e=>by
 have hn:=x.fresh hp
 by_cases hb:b=a
 .subst hb;rw[av] at e;cases e;exact new
 .rw[au hb] at e;exact(x b u e).mB (λc v _ q=>k c v q) (λc q=>by rwa[au (bN q hn)]) λc xs q=>by rwa[au (bN q hn)]
end
def Rd(H:Hp)(a:Addr)(u:HO):Prop:=H a=some u\/∃o,H a=some (.kX o u)
def Rd.ok{a:Addr}{u:HO}(r:Rd H a u)(x:kS P w H h):bw P w H h a u:=by
 rcases r with r|⟨o,r⟩
 .exact x a u r
 .obtain⟨_,q⟩:=x a _ r;exact q
def MV:Option HO->Prop
 | some (.lst _)=>True
 | some (.dK _)=>True
 | some (.dT _)=>True
 | some (.set _ _)=>True
 | some (.ins _ _ _)=>True
 | some (.ext _)=>True
 |_=>False
section
variable{x e:Addr}{o':HO}
def kS.write(ok:kS P w H h)(mu:MV (H x))(he:e=x\/H e=some (.own x))(k:∀b u,b≠e->h.get? b=some u->h'.get? b=some u)(T8:∃u,h'.get? e=some u)(new:bw P w (upd H x o') h' x o'):kS P w (upd H x o') h':=λb u q=>by
 have UP:∀c y,H c=some (.own y)->c≠x:=λc y r z=>by subst z;rwa[r] at mu
 have ntup:∀c xs,H c=some (.tup xs)->c≠x:=λc xs r z=>by subst z;rwa[r] at mu
 by_cases hb:b=x
 .subst hb;rw[av] at q;cases q;exact new
 .rw[au hb] at q
  by_cases Su:b=e
  .have q':H b=some (.own x):=by
    rcases he with z|z
    .exact absurd (Su.trans z) hb
    .rw[Su];exact z
   rw[q] at q';cases q';obtain⟨v,hv⟩:=T8;exact⟨v,by rwa[Su]⟩
  .refine(ok b u q).mB (λc v hc r=>k c v ?_ r) (λc r=>by rwa[au (UP c b r)]) λc xs r=>by rwa[au (ntup c xs r)]
   rcases hc with rfl|hc
   .exact Su
   .rintro rfl;rcases he with z|z
    .exact UP c b hc z
    .rw[hc] at z;cases z;exact hb rfl
end
structure Un (fs ex:List Addr) (H H':Hp) (h h':Heap):Prop where
 keep:∀b o,h.get? b=some o->H b=none->b ∉ fs->b ∉ ex->h'.get? b=some o
 slot:∀b o,h.get? b=some o->H b=none->b∈fs->b ∉ ex->∃sl,h'.get? b=some { o with slots:=sl }
 free:∀b o,h.get? b=some o->H b=none->b ∉ ex->H' b=none
 there:∀b o,h.get? b=some o->b ∉ ex->∃o',h'.get? b=some o'
 pQ:∀b xs,H b=some (.tup xs)->H' b=some (.tup xs)
 lJ:∀b o u,H b=some (.kX o u)->H' b=some (.kX o u)
 qT:∀b ps,H b=some (.HX ps)->∃more,H' b=some (.HX (ps++more))
section
variable{fs fs' ex ex':List Addr}{H1 H2:Hp}{h1 h2:Heap}{a x e:Addr}
def Un.any(u:Un fs ex H H1 h h1){ob:Obj}(q:h.get? b=some ob)(n:H b=none)(hx:b ∉ ex):∃sl,h1.get? b=some { ob with slots:=sl }:=by
 by_cases hb:b∈fs
 .exact u.slot b ob q n hb hx
 .exact⟨ob.slots,u.keep b ob q n hb hx⟩
def Un.kept(k:∀b u,h.get? b=some u->h'.get? b=some u):Un fs ex H H h h' :=
 ⟨λb ob q _ _ _=>k b ob q,λb ob q _ _ _=>⟨ob.slots,k b ob q⟩,λ_ _ _ n _=>n,λb ob q _=>⟨ob,k b ob q⟩,λ_ _ q=>q,λ_ _ _ q=>q,λ_ ps q=>⟨#[],by rw[q];simp⟩⟩
def Un.refl:Un fs ex H H h h:=Un.kept λ_ _ q=>q
def Un.laid(k:∀b u,h.get? b=some u->h'.get? b=some u)(hp:h.objs.size<=a)(hn:H a=none):Un fs ex H (upd H a o) h h' where
 keep:=λb u q _ _ _=>k b u q
 slot:=λb u q _ _ _=>⟨u.slots,k b u q⟩
 free:=λb u q n _=>by rwa[au (Vh (U8 (U3 q) hp))]
 there:=λb u q _=>⟨u,k b u q⟩
 pQ:=λb xs q=>by rwa[au (bN q hn)]
 lJ:=λb u xs q=>by rwa[au (bN q hn)]
 qT:=λb ps q=>⟨#[],by rw[au (bN q hn),q];simp⟩
def Un.write(mu:MV (H x))(he:e=x\/H e=some (.own x))(k:∀b u,b≠e->h.get? b=some u->h'.get? b=some u)(T8:∃u,h'.get? e=some u):Un fs ex H (upd H x o) h h':=by
 have hx:∀b,H b=none->b≠x:=λb n z=>by subst z;rwa[n] at mu
 have hb:∀b,H b=none->b≠e:=λb n z=>by
  subst z;rcases he with r|r
  .exact hx b n r
  .rw[n] at r;cases r
 have hm:∀b u,H b=some u->¬ MV (some u)->b≠x:=λb u q nm z=>by subst z;rw[q] at mu;exact nm mu
 refine⟨λb u q n _ _=>k b u (hb b n) q,λb u q n _ _=>⟨u.slots,k b u (hb b n) q⟩,λb u q n _=>by rwa[au (hx b n)],λb u q _=>?_,
  λb xs q=>by rwa[au (hm b _ q λz=>z)],λb u xs q=>by rwa[au (hm b _ q λz=>z)],λb ps q=>⟨#[],by rw[au (hm b _ q λz=>z),q];simp⟩⟩
 by_cases Su:b=e
 .subst Su;exact T8
 .exact⟨u,k b u Su q⟩
end
noncomputable def NA(h:Heap)(H:Hp):List Addr:=(Vc h.objs.size).filter λa=>(H a).isSome
def uJ(h:Heap)(H:Hp):Heap:=PySem.W.hideAll h (NA h H)
def zt(h:Heap)(H:Hp):(uJ h H).objs.size=h.objs.size:=PySem.W.hideAll_size _ _
def CN{o:Obj}(e:h.get? b=some o)(n:H b=none):(uJ h H).get? b=some o :=
 PySem.W.hideAll_get _ e λhm=>by
  have q:(H b).isSome=true:=(acM.mp hm).2;rw[n] at q;simp at q
def Fg{o:Obj}(e:(uJ h H).get? b=some o):h.get? b=some o/\H b=none:=by
 have e':h.get? b=some o:=PySem.W.of_hideAll (NA h H) e;refine⟨e',?_⟩;cases q:H b with
 | none=>rfl
 | some x =>
  have hm:b∈NA h H:=acM.mpr ⟨V3.mpr (U3 e'),by simp[q]⟩;have z:(uJ h H).get? b=none:=PySem.W.hideAll_none (NA h H) hm;rw[z] at e;cases e
noncomputable def G7(g h:Heap)(L:Addr):List (Addr×Obj):=(Vc h.objs.size).filterMap λa=>if a=L\/(g.get? a).isSome=true then none else (h.get? a).map λo=>(a,o)
noncomputable def rest(g h:Heap)(L d:Addr):List (Addr×Obj):=(G7 g h L).filter λp=>decide (p.1≠d)
structure Mod (K:UU) (mg:Str->Option Value) (base:Heap):Prop where
 Hw:K.In base
 glob:base.Ns mainGlobals mg
 blt:∃mb,base.Ns builtinsNs mb/\∀x:Str,x ≠ "__name__" -> mb x=bootBuiltins x
 nolimit:base.NoLimit
structure Cx where
 prog:Program
 w:World
 K:UU
 mg:Str->Option Value
 base:Heap
 A:Around
 N:List Str
 s₀:Shared
 H₀:Hp
 env:Env
 outer:List Env
 stack:List Env
 ex:List Addr
 fn:Str->Bool
 calm:Bool
 pn:List (Addr×Obj)
 xe:Value->Shared->Prop
def wU(l:List Env):List Addr:=l.filterMap (·.frame)
abbrev Cx.fs(X:Cx):List Addr:=wU X.outer
def xh(sc:Scope)(x:Str):Prop:=sc.names.lookup x=some .local\/sc.names.lookup x=some .cell\/sc.names.lookup x=some .free
def Loc(sc:Scope)(x:Str):Prop:=sc.names.lookup x=some .local\/sc.names.lookup x=some .cell
def Look(env:Env)(h:Heap)(m:Str->Option Value)(x:Str)(u:Value):Prop :=
 (env.kindOf x=some .local/\m x=some u)\/((env.kindOf x=some .cell\/env.kindOf x=some .free)/\∃c,env.cells.lookup x=some c/\h.IsCell c (some u))
structure Cx.Ok (X:Cx):Prop where
 mod:Mod X.K X.mg X.base
 kind:X.env.scope.kind=.function
 glob:X.env.globals=mainGlobals
 blt:X.env.builtins=builtinsNs
 above:X.s₀.heap.objs.size<=X.env.locals
 inj:∀x y c,X.env.cells.lookup x=some c->X.env.cells.lookup y=some c->x=y
 has:∀x,(X.env.kindOf x=some .cell\/X.env.kindOf x=some .free)->∃c,X.env.cells.lookup x=some c
 HR:∀x c,X.fn x=true->X.env.cells.lookup x=some c->X.s₀.heap.objs.size<=c
 hd:X.calm=true->X.A.handled=none
 frames:X.A.frames=some X.stack
 Jy:X.stack=X.outer\/(X.stack=X.env::X.outer/\X.env.frame=some X.env.locals)
 Lx:∀b∈X.ex,b≠X.env.locals/\∀x c,X.env.cells.lookup x=some c->c≠b
 bs:∀b o,X.base.get? b=some o->X.s₀.heap.get? b=some o/\X.H₀ b=none
 Ee:X.base.objs.size<=X.s₀.heap.objs.size
 uZ:∀b o,X.base.get? b=some o->b ∉ X.ex
 vK:∀b∈X.ex,b ∉ X.fs
 lu:X.s₀.heap.FunFrames X.base X.outer
 EO:∀b∈X.fs,X.H₀ b=none
structure Inv (X:Cx) (Qg:List (Addr×Obj)) (σ:List (Option V)) (H:Hp) (s:Shared):Prop where
 ok:X.Ok
 os:s.os=X.s₀.os
 bare:AllBare s.gens
 base:Un X.fs X.ex X.H₀ H X.s₀.heap s.heap
 loc:∃m,s.heap.Ns X.env.locals m/\∀(i:Nat)(x:Str)(v:V),X.N[i]?=some x->σ[i]?=some (some v)->xh X.env.scope x->∃u,RelV v u/\Look X.env s.heap m x u
 cell:∀x c,X.env.cells.lookup x=some c->∃v,s.heap.IsCell c v
 free:H X.env.locals=none
 gf:∀x c,X.env.cells.lookup x=some c->H c=none
 pin:∀p∈X.pn++Qg,s.heap.get? p.1=some p.2/\H p.1=none/\p.1≠X.env.locals/\p.1 ∉ X.fs/\∀v,p.2.data≠.cell v
 bq:kS X.prog X.w H s.heap
 len:σ.length=X.N.length
variable{s:Shared}{Qg:List (Addr×Obj)}{X:Cx}
variable{ch:List Addr}{d':Drawn}{t':Nat}{g':Array GenState}
variable{it:Addr}
variable{x:Str}{i:Nat}{N:List Str}
variable{u:Value}{v:V}{E:Value->Shared->Prop}{A:Around}
section
variable{σ:List (Option V)}
def Cx.Ok.O8(ok:X.Ok){o:Obj}(e:X.base.get? b=some o):b ∉ X.fs:=λhb=>by
 have:=(ok.lu.mem hb).1;rw[e] at this;cases this
theorem Inv.bs(I:Inv X Qg σ H s):∀b o,X.base.get? b=some o->s.heap.get? b=some o/\H b=none:=λb o e =>
 ⟨I.base.keep b o (I.ok.bs b o e).1 (I.ok.bs b o e).2 (I.ok.O8 e) (I.ok.uZ b o e),I.base.free b o (I.ok.bs b o e).1 (I.ok.bs b o e).2 (I.ok.uZ b o e)⟩
def Inv.bk(I:Inv X Qg σ H s):∀b o,X.base.get? b=some o->s.heap.get? b=some o:=λb o e=>(I.bs b o e).1
theorem Inv.mod(I:Inv X Qg σ H s):Mod X.K X.mg X.base:=I.ok.mod
def Inv.jG(I:Inv X Qg σ H s):X.K.In s.heap:=I.ok.mod.Hw.keeps I.bk
theorem Inv.lt(I:Inv X Qg σ H s):X.env.locals<s.heap.objs.size:=let ⟨_,hn,_⟩:=I.loc;hn.lt
def Inv.sz(I:Inv X Qg σ H s):X.s₀.heap.objs.size<=s.heap.objs.size:=VM I.ok.above (Xg I.lt)
def Inv.NR(I:Inv X Qg σ H s){a:Addr}(h:s.heap.objs.size<=a):a ∉ X.fs:=λhb=>by
 obtain⟨_,o,ho,_⟩:=I.ok.lu.mem hb;exact absurd (U8 (U3 ho) (VM I.sz h)) (Xl _)
def Inv.DN(I:Inv X Qg σ H s):∀x c,X.env.cells.lookup x=some c->c≠X.env.locals:=λx c e z=>by
 obtain⟨v,o,ho,hd⟩:=I.cell x c e;obtain⟨m,⟨o',es,ep,R9,Um,_⟩,_⟩:=I.loc;rw[z,R9] at ho;cases ho;rw[Um] at hd;cases hd
theorem Inv.lu(I:Inv X Qg σ H s):s.heap.FunFrames X.base X.outer:=by
 have all:∀(l:List Env),(∀b∈wU l,b∈X.fs)->X.s₀.heap.FunFrames X.base l->s.heap.FunFrames X.base l:=by
  intro l
  induction l with
  | nil=>intro _ _;trivial
  | cons env r ih =>
   intro hs hl;obtain⟨hk,⟨L,o,hf,hn,ho,hd⟩,hr⟩:=hl;have hL:L∈X.fs:=hs L (by unfold wU;rw[ZH,hf];exact VA);obtain⟨sl,e⟩:=I.base.slot L o ho (I.ok.EO L hL) hL λz=>I.ok.vK L z hL;exact⟨hk,⟨L,_,hf,hn,e,hd⟩,ih (λb hb=>hs b (by unfold wU;rw[ZH,hf];exact Vm _ hb)) hr⟩
 exact all X.outer (λ_ hb=>hb) I.ok.lu
theorem Inv.stack(I:Inv X Qg σ H s):s.heap.FunFrames X.base X.stack:=by
 rcases I.ok.Jy with e|⟨e,hf⟩
 .rw[e];exact I.lu
 .rw[e];obtain⟨m,hn,_⟩:=I.loc;refine .cons (by rw[I.ok.kind];decide) hf hn ?_ I.lu;exact Yb (VM I.ok.Ee I.ok.above)
def Inv.uS(I:Inv X Qg σ H s):∀b∈wU X.stack,b∈X.env.locals::X.fs:=λb hb=>by
 rcases I.ok.Jy with e|⟨e,hf⟩
 .rw[e] at hb;exact Vm _ hb
 .rw[e] at hb;unfold wU at hb;rwa[ZH,hf] at hb
def Inv.tW(I:Inv X Qg σ H s):∀b∈wU X.stack,H b=none:=λb hb=>by
 rcases U9.mp (I.uS b hb) with e|hb
 .rw[e];exact I.free
 .obtain⟨_,o,ho,_⟩:=I.ok.lu.mem hb;exact I.base.free b o ho (I.ok.EO b hb) λz=>I.ok.vK b z hb
def Inv.step(I:Inv X Qg σ H s)(R3:∀b∈ch,(b∈X.ex\/X.s₀.heap.objs.size<=b)/\b≠X.env.locals/\(∀x c,X.env.cells.lookup x=some c->c≠b)/\∀p∈X.pn++Qg,p.1≠b)(keep:∀b o,b≠X.env.locals->b ∉ X.fs->b ∉ ch->s.heap.get? b=some o->H b=none->h'.get? b=some o)(slot:∀b o,b≠X.env.locals->b∈X.fs->b ∉ ch->s.heap.get? b=some o->H b=none->∃sl,h'.get? b=some { o with slots:=sl })(free:∀b o,b ∉ ch->s.heap.get? b=some o->H b=none->H' b=none)(there:∀b o,b ∉ ch->s.heap.get? b=some o->∃o',h'.get? b=some o')(pQ:∀b xs,H b=some (.tup xs)->H' b=some (.tup xs))(lJ:∀b o u,H b=some (.kX o u)->H' b=some (.kX o u))(qT:∀b ps,H b=some (.HX ps)->∃more,H' b=some (.HX (ps++more)))(ns:∀m,s.heap.Ns X.env.locals m->h'.Ns X.env.locals m)(bq:kS X.prog X.w H' h')(hg:AllBare g'):Inv X Qg σ H' { s with heap:=h',gens:=g',drawn:=d',toks:=t' }:=by
 have neL:∀b o,X.s₀.heap.get? b=some o->b≠X.env.locals:=λb o e=>Vh (U8 (U3 e) I.ok.above);have neC:∀b o,X.s₀.heap.get? b=some o->b ∉ X.ex->b ∉ ch:=λb o e hx hb=>by
  rcases(R3 b hb).1 with z|z
  .exact hx z
  .exact absurd (U8 (U3 e) z) (Xl _)
 have cellK:∀x c,X.env.cells.lookup x=some c->∀v,s.heap.IsCell c v->h'.IsCell c v:=λx c e v ⟨o,ho,hd⟩=>by
  have UO:c ∉ ch:=λz=>(R3 c z).2.2.1 x c e rfl
  by_cases hc:c∈X.fs
  .obtain⟨sl,q⟩:=slot c o (I.DN x c e) hc UO ho (I.gf x c e);exact⟨_,q,hd⟩
  .exact⟨o,keep c o (I.DN x c e) hc UO ho (I.gf x c e),hd⟩
 refine⟨I.ok,I.os,hg,⟨λb o e n hb hx=>?_,λb o e n hb hx=>?_,λb o e n hx=>?_,λb o e hx=>?_,λb xs e=>pQ b xs (I.base.pQ b xs e),λb o xs e=>lJ b o xs (I.base.lJ b o xs e),λb ps e=>?_⟩,?_,λx c e=>?_,?_,λx c e=>?_,λp hp=>?_,bq,I.len⟩
 .exact keep b o (neL b o e) hb (neC b o e hx) (I.base.keep b o e n hb hx) (I.base.free b o e n hx)
 .obtain⟨sl,e1⟩:=I.base.slot b o e n hb hx;obtain⟨sl',e2⟩:=slot b _ (neL b o e) hb (neC b o e hx) e1 (I.base.free b o e n hx);exact⟨sl',e2⟩
 .obtain⟨o',e1⟩:=I.base.there b o e hx;exact free b o' (neC b o e hx) e1 (I.base.free b o e n hx)
 .obtain⟨o',e1⟩:=I.base.there b o e hx;exact there b o' (neC b o e hx) e1
 .obtain⟨m1,e1⟩:=I.base.qT b ps e;obtain⟨m2,e2⟩:=qT b _ e1;exact⟨m1++m2,by rw[e2,Array.append_assoc]⟩
 .obtain⟨m,hn,hl⟩:=I.loc;refine⟨m,ns m hn,λi x v e1 e2 e3=>?_⟩;obtain⟨u,r,l⟩:=hl i x v e1 e2 e3;refine⟨u,r,?_⟩;rcases l with l|⟨k,c,e,z⟩
  .exact .inl l
  .exact .inr ⟨k,c,e,cellK x c e _ z⟩
 .obtain⟨v,z⟩:=I.cell x c e;exact⟨v,cellK x c e v z⟩
 .obtain⟨m,⟨o,_,_,ho,_⟩,_⟩:=I.loc;exact free _ o (λz=>(R3 _ z).2.1 rfl) ho I.free
 .obtain⟨v,o,ho,hd⟩:=I.cell x c e;exact free c o (λz=>(R3 c z).2.2.1 x c e rfl) ho (I.gf x c e)
 .obtain⟨e,n,ne,nf,d⟩:=I.pin p hp;have UO:p.1 ∉ ch:=λz=>(R3 p.1 z).2.2.2 p hp rfl;exact⟨keep p.1 p.2 ne nf UO e n,free p.1 p.2 UO e n,ne,nf,d⟩
def Inv.un(I:Inv X Qg σ H s)(u:Un X.fs [] H H' s.heap h')(bq:kS X.prog X.w H' h'):Inv X Qg σ H' { s with heap:=h',toks:=t' }:=by
 obtain⟨m,⟨o,es,ep,ho,r⟩,_⟩:=id I.loc;obtain⟨sl,hL⟩:=u.any ho I.free ↑13;exact I.step (g':=s.gens) (d':=s.drawn) (ch:=[]) (λ_ z=>nomatch z) (λb o _ hb _ e n=>u.keep b o e n hb ↑13) (λb o _ hb _ e n=>u.slot b o e n hb ↑13) (λb o _ e n=>u.free b o e n ↑13) (λb o _ e=>u.there b o e ↑13) u.pQ u.lJ u.qT (λm' hm=>by
  obtain⟨o',T6,Ug,R9,r'⟩:=hm;rw[ho] at R9;cases R9;exact⟨_,T6,Ug,hL,r'⟩) bq I.bare
def Inv.call(I:Inv X Qg σ H s)(u:Un (wU X.stack) ch H H' s.heap h')(bq:kS X.prog X.w H' h')(hg:AllBare g')(R3:∀b∈ch,(b∈X.ex\/X.s₀.heap.objs.size<=b)/\b≠X.env.locals/\(∀x c,X.env.cells.lookup x=some c->c≠b)/\∀p∈X.pn++Qg,p.1≠b):Inv X Qg σ H' { s with heap:=h',gens:=g',drawn:=d',toks:=t' }:=by
 obtain⟨m,⟨o,es,ep,ho,r⟩,_⟩:=id I.loc;obtain⟨sl,hL⟩:=u.any ho I.free λz=>(R3 _ z).2.1 rfl;exact I.step (ch:=ch) R3 (λb o hL hb hc e n=>u.keep b o e n (λz=>(U9.mp (I.uS b z)).elim hL hb) hc) (λb o _ _ hc e n=>u.any e n hc) (λb o hc e n=>u.free b o e n hc) (λb o hc e=>u.there b o e hc) u.pQ u.lJ u.qT (λm' hm=>by
  obtain⟨o',T6,Ug,R9,r'⟩:=hm;rw[ho] at R9;cases R9;exact⟨_,T6,Ug,hL,r'⟩) bq hg
def Inv.turned(I:Inv X Qg σ H s)(k:∀b o,b≠it->s.heap.get? b=some o->h'.get? b=some o)(hn:H it=none)(hL:it≠X.env.locals)(h1:it∈X.ex\/X.s₀.heap.objs.size<=it)(h2:∀x c,X.env.cells.lookup x=some c->c≠it)(h3:∀p∈X.pn++Qg,p.1≠it):Inv X Qg σ H { s with heap:=h',toks:=t' }:=by
 have nit:∀b u,H b=some u->b≠it:=λb u e z=>by rw[z,hn] at e;cases e
 refine I.step (g':=s.gens) (d':=s.drawn) (ch:=[it]) (λb hb=>?_) (λb o _ _ hc e _=>k b o (λz=>hc (by simp[z])) e) (λb o _ _ hc e _=>⟨o.slots,k b o (λz=>hc (by simp[z])) e⟩) (λ_ _ _ _ n=>n)
  (λb o hc e=>⟨o,k b o (λz=>hc (by simp[z])) e⟩) (λ_ _ e=>e) (λ_ _ _ e=>e) (λb ps e=>⟨#[],by rw[e];simp⟩) (λm hm=>?_) (λb u e=>?_) I.bare
 .have e:b=it:=by simpa using hb
  subst e;exact⟨h1,hL,h2,h3⟩
 .obtain⟨o,es,ep,ho,r⟩:=hm;exact⟨o,es,ep,k _ o (W5 hL) ho,r⟩
 .refine(I.bq b u e).mB (λc v hc q=>k c v ?_ q) (λ_ q=>q) λ_ _ q=>q;rcases hc with z|z
  .rw[z];exact nit b u e
  .exact nit c _ z
def Inv.tok(I:Inv X Qg σ H s)(t:Nat):Inv X Qg σ H { s with toks:=t }:=I.un (h':=s.heap) (t':=t) Un.refl I.bq
theorem Inv.kept{t':Nat}(I:Inv X Qg σ H s)(k:∀b u,s.heap.get? b=some u->h'.get? b=some u):Inv X Qg σ H { s with heap:=h',toks:=t' }:=I.un (Un.kept k) (I.bq.kept k)
theorem Inv.laid{a:Addr}{o:HO}{t':Nat}(I:Inv X Qg σ H s)(k:∀b u,s.heap.get? b=some u->h'.get? b=some u)(hp:s.heap.objs.size<=a)(new:bw X.prog X.w (upd H a o) h' a o):Inv X Qg σ (upd H a o) { s with heap:=h',toks:=t' }:=I.un (Un.laid k hp (I.bq.fresh hp)) (I.bq.laid k hp new)
theorem Inv.write{x e:Addr}{o:HO}{t':Nat}(I:Inv X Qg σ H s)(mu:MV (H x))(he:e=x\/H e=some (.own x))(k:∀b u,b≠e->s.heap.get? b=some u->h'.get? b=some u)(T8:∃u,h'.get? e=some u)(new:bw X.prog X.w (upd H x o) h' x o):Inv X Qg σ (upd H x o) { s with heap:=h',toks:=t' }:=I.un (Un.write mu he k T8) (I.bq.write mu he k T8 new)
def Inv.yK{R6:List (Addr×Obj)}(I:Inv X Qg σ H s)(h:∀p∈R6,s.heap.get? p.1=some p.2/\H p.1=none/\p.1≠X.env.locals/\p.1 ∉ X.fs/\∀v,p.2.data≠.cell v):Inv X R6 σ H s :=
 ⟨I.ok,I.os,I.bare,I.base,I.loc,I.cell,I.free,I.gf,λp hp=>(V7.mp hp).elim (λz=>I.pin p (Zq _ z)) (h p),I.bq,I.len⟩
def pA(hN:N.Nodup){j:Nat}(a:N[i]?=some x)(b:N[j]?=some x):i=j:=by
 obtain⟨h1,e1⟩:=VW.mp a;obtain⟨h2,e2⟩:=VW.mp b;exact(List.getElem_inj hN).mp (e1.trans e2.symm)
def sM{M:Model}{Q:Unit->Shared->Prop}(I:Inv X Qg σ H s)(hN:X.N.Nodup)(hi:X.N[i]?=some x)(hx:Loc X.env.scope x)(r:RelV v u)(h:∀s',Inv X Qg (σ.set i (some v)) H s'->(∃a,XE a s.heap s'.heap/\(a=X.env.locals\/X.env.cells.lookup x=some a))->Q () s')(hf:autoParam ↑1 aF._auto_1):wpAny M A (storeName X.env x u) Q E s:=by
 obtain⟨m,hn,hl⟩:=id I.loc;have hcls:(X.env.scope.kind==.class||(X.env.scope.kind==.module&&X.env.locals != X.env.globals))=false:=by rw[I.ok.kind];rfl
 have hiσ:i<σ.length:=by rw[I.len];exact(VW.mp hi).1
 have DN:=I.DN;have tracked:∀{a:Addr}{h':Heap},(∃o,s.heap.get? a=some o/\H a=none)->XE a s.heap h'->kS X.prog X.w H h':=λ{a h'} ha hs b ob e=>by
  obtain⟨_,_,Sl⟩:=ha;refine(I.bq b ob e).mB (λc w' hc q=>(hs.2 c ?_).trans q) (λ_ q=>q) λ_ _ q=>q;rintro rfl;rcases hc with rfl|hc
  .rw[Sl] at e;cases e
  .rw[Sl] at hc;cases hc
 rcases hx with hk|hk
 .refine wpAny_storeName_local hk hn (λh' Uy hs=>?_) hcls;obtain⟨oL,_,_,hoL,_⟩:=id hn;refine h _ ⟨I.ok,I.os,I.bare,⟨λb o e n hb hx=>?_,λb o e n hb hx=>?_,I.base.free,λb o e hx=>?_,I.base.pQ,I.base.lJ,I.base.qT⟩,⟨_,Uy,λj y v' e1 e2 e3=>?_⟩,λy c e=>?_,I.free,I.gf,λp hp=>?_,tracked ⟨oL,hoL,I.free⟩ hs,by simpa using I.len⟩ ⟨_,hs,.inl rfl⟩
  .exact(hs.2 b (Vh (U8 (U3 e) I.ok.above))).trans (I.base.keep b o e n hb hx)
  .obtain⟨sl,e1⟩:=I.base.slot b o e n hb hx;exact⟨sl,(hs.2 b (Vh (U8 (U3 e) I.ok.above))).trans e1⟩
  .obtain⟨o',e1⟩:=I.base.there b o e hx;exact⟨o',(hs.2 b (Vh (U8 (U3 e) I.ok.above))).trans e1⟩
  .by_cases hj:j=i
   .subst hj;rw[hi] at e1;cases e1;rw[aaA hiσ] at e2;cases e2;exact⟨u,r,.inl ⟨hk,by simp⟩⟩
   .rw[Zr (W5 hj)] at e2;obtain⟨u',r',q⟩:=hl j y v' e1 e2 e3;refine⟨u',r',?_⟩;rcases q with ⟨k,e⟩|⟨k,c,e,z⟩
    .refine .inl ⟨k,?_⟩;have:y≠x:=λe=>hj (pA hN e1 (e▸hi));simp[this,e]
    .exact .inr ⟨k,c,e,z.sameBut hs (DN y c e)⟩
  .obtain⟨w',z⟩:=I.cell y c e;exact⟨w',z.sameBut hs (DN y c e)⟩
  .obtain⟨e,n,ne,nf,d⟩:=I.pin p hp;exact⟨(hs.2 p.1 ne).trans e,n,ne,nf,d⟩
 .have hfn:X.fn x=true:=by
   rcases hf with z|z
   .exact z
   .rw[z] at hk;cases hk
  obtain⟨c,hc⟩:=I.ok.has x (.inl hk);obtain⟨w',z⟩:=I.cell x c hc;refine wpAny_storeName_cell I.ok.kind hk hc z (λh' SN hs=>?_);obtain⟨oc,hoc,hocd⟩:=id z;refine h { s with heap:=h' } ⟨I.ok,I.os,I.bare,⟨λb o e n hb hx=>?_,λb o e n hb hx=>?_,I.base.free,λb o e hx=>?_,I.base.pQ,I.base.lJ,I.base.qT⟩,⟨m,hn.sameBut hs (W5 (DN x c hc)),λj y v' e1 e2 e3=>?_⟩,λy c' e=>?_,I.free,I.gf,λp hp=>?_,tracked ⟨oc,hoc,I.gf x c hc⟩ hs,by simpa using I.len⟩ ⟨c,hs,.inr hc⟩
  .exact(hs.2 b (Vh (U8 (U3 e) (I.ok.HR x c hfn hc)))).trans (I.base.keep b o e n hb hx)
  .obtain⟨sl,e1⟩:=I.base.slot b o e n hb hx;exact⟨sl,(hs.2 b (Vh (U8 (U3 e) (I.ok.HR x c hfn hc)))).trans e1⟩
  .obtain⟨o',e1⟩:=I.base.there b o e hx;exact⟨o',(hs.2 b (Vh (U8 (U3 e) (I.ok.HR x c hfn hc)))).trans e1⟩
  .by_cases hj:j=i
   .subst hj;rw[hi] at e1;cases e1;rw[aaA hiσ] at e2;cases e2;exact⟨u,r,.inr ⟨.inl hk,c,hc,SN⟩⟩
   .rw[Zr (W5 hj)] at e2;obtain⟨u',r',q⟩:=hl j y v' e1 e2 e3;refine⟨u',r',?_⟩;rcases q with q|⟨k,c',e,z'⟩
    .exact .inl q
    .refine .inr ⟨k,c',e,z'.sameBut hs ?_⟩;rintro rfl;exact hj (pA hN e1 (I.ok.inj _ _ _ e hc▸hi))
  .by_cases hcc:c'=c
   .subst hcc;exact⟨_,SN⟩
   .obtain⟨w2,z2⟩:=I.cell y c' e;exact⟨w2,z2.sameBut hs hcc⟩
  .obtain⟨e,n,ne,nf,d⟩:=I.pin p hp;refine⟨(hs.2 p.1 ?_).trans e,n,ne,nf,d⟩;intro q;rw[q,hoc] at e;have q':oc=p.2:=Vf e;exact d w' (by rwa[<- q'])
def qD{M:Model}{Q:Unit->Shared->Prop}(I:Inv X Qg σ H s)(hN:X.N.Nodup)(hi:X.N[i]?=some x)(hx:Loc X.env.scope x)(r:RelV v u)(h:∀s',Inv X Qg (σ.set i (some v)) H s'->Q () s')(hf:autoParam ↑1 aF._auto_1):wpAny M A (storeName X.env x u) Q E s :=
 sM I hN hi hx r (λs' I' _=>h s' I') hf
def Inv.CG{s':Shared}(I:Inv X Qg σ H s)(ho:s'.os=s.os)(u:Un (wU X.stack) ch H H' s.heap s'.heap)(bq:kS X.prog X.w H' s'.heap)(hg:AllBare s'.gens)(R3:∀b∈ch,(b∈X.ex\/X.s₀.heap.objs.size<=b)/\b≠X.env.locals/\(∀x c,X.env.cells.lookup x=some c->c≠b)/\∀p∈X.pn++Qg,p.1≠b):Inv X Qg σ H' s':=by
 obtain⟨h',g',d',t',o'⟩:=s';have e:o'=s.os:=ho;subst e;exact I.call (g':=g') (t':=t') (d':=d') u bq hg R3
end
abbrev XK:=Value->Option Addr->Hp->Prop
abbrev St:=List (Option V)
abbrev VK:=V->Hp->Prop
abbrev TE:=St->Hp->VK->Prop
abbrev TT:=St->Hp->(Bool->Hp->Prop)->Prop
abbrev TA:=St->Hp->(List V->Hp->Prop)->Prop
structure Ends where
 nx:St->Hp->Prop
 rt:VK
 bk:St->Hp->Prop:=λ_ _=>False
 ct:St->Hp->Prop:=λ_ _=>False
abbrev TS:=Ends->St->Hp->Prop
def EP(X:Cx)(Qg:List (Addr×Obj))(σ:St)(Q:VK)(u:Value)(s':Shared):Prop:=∃v H',Inv X Qg σ H' s'/\RelV v u/\Q v H'
def TP(X:Cx)(Qg:List (Addr×Obj))(σ:St)(Q:Bool->Hp->Prop)(b:Bool)(s':Shared):Prop:=∃H',Inv X Qg σ H' s'/\Q b H'
def AP(X:Cx)(Qg:List (Addr×Obj))(σ:St)(Q:List V->Hp->Prop)(us:List Value)(s':Shared):Prop:=∃vs H',Inv X Qg σ H' s'/\Vals vs us/\Q vs H'
def SP(X:Cx)(Qg:List (Addr×Obj))(D:Ends)(f:Flow)(s':Shared):Prop :=
 match f with
 | .next=>∃σ' H',Inv X Qg σ' H' s'/\D.nx σ' H'
 | .brk=>∃σ' H',Inv X Qg σ' H' s'/\D.bk σ' H'
 | .cont=>∃σ' H',Inv X Qg σ' H' s'/\D.ct σ' H'
 |.ret u=>∃v σ' H',Inv X Qg σ' H' s'/\RelV v u/\D.rt v H'
def PE(X:Cx)(e:Expr)(t:TE):Prop :=
 ∀(Qg:List (Addr×Obj))(s:Shared)(σ:St)(H:Hp)(Q:VK),Inv X Qg σ H s->t σ H Q->wpAny ↑8 X.A (eval e X.env) (EP X Qg σ Q) X.xe s
def PT(X:Cx)(e:Expr)(t:TT):Prop :=
 ∀(Qg:List (Addr×Obj))(s:Shared)(σ:St)(H:Hp)(Q:Bool->Hp->Prop),Inv X Qg σ H s->t σ H Q->wpAny ↑8 X.A (isTrue e X.env (eval e X.env)) (TP X Qg σ Q) X.xe s
def PW(X:Cx)(e:Expr)(t:TT):Prop :=
 ∀(whole:Sem Value)(Qg:List (Addr×Obj))(s:Shared)(σ:St)(H:Hp)(Q:Bool->Hp->Prop),Inv X Qg σ H s->t σ H Q->wpAny ↑8 X.A (isTrue e X.env whole) (TP X Qg σ Q) X.xe s
variable{e:Expr}
def PW.pt{t:TT}(h:PW X e t):PT X e t:=h _
def PA(X:Cx)(es:List Expr)(t:TA):Prop :=
 ∀(pos:Pos)(Qg:List (Addr×Obj))(s:Shared)(σ:St)(H:Hp)(Q:List V->Hp->Prop),Inv X Qg σ H s->t σ H Q->wpAny ↑8 X.A (spliced (backTo pos (starEach es X.env))) (AP X Qg σ Q) X.xe s
def PS(X:Cx)(st:Stmt)(t:TS):Prop :=
 ∀(Qg:List (Addr×Obj))(s:Shared)(σ:St)(H:Hp)(D:Ends),Inv X Qg σ H s->t D σ H->wpAny ↑8 X.A (exec st X.env) (SP X Qg D) X.xe s
def jE(X:Cx)(st:List Stmt)(t:TS):Prop :=
 ∀(Qg:List (Addr×Obj))(s:Shared)(σ:St)(H:Hp)(D:Ends),Inv X Qg σ H s->t D σ H->wpAny ↑8 X.A (execs st X.env) (SP X Qg D) X.xe s
def ck{α:Type}{t:Sem α}{Q Q':α->Shared->Prop}{M:Model}(h:wpAny M A t Q E s)(hQ:∀a s,Q a s->Q' a s):wpAny M A t Q' E s:=Wu h hQ λ_ _ x=>x
variable{Q:Value->Shared->Prop}{σ:St}
variable{ta:TE}
variable{c:Expr}
section
def L8(i:Nat):TE:=fun σ H Q=>∃v,σ[i]?=some (some v)/\Q v H
def tC(v:V):TE:=λ_ H Q=>Q v H
def gN{pos:Pos}(hN:X.N[i]?=some x)(hv:xh X.env.scope x)(hd:autoParam ↑7 aD._auto_1)(QP:autoParam ↑6 aD._auto_1):PE X (.Name x pos) (L8 i):=by
 intro Qg s σ H Q I h;obtain⟨v,e,h⟩:=h;obtain⟨m,hn,hl⟩:=I.loc;obtain⟨u,r,l⟩:=hl i x v hN e hv;have fin:EP X Qg σ Q u s:=⟨v,H,I,r,h⟩
 rcases l with ⟨hk,hm⟩|⟨hk,c,hc,Sk⟩
 .exact wpAny_Name (wpAny_loadName_local I.ok.kind hk hn hm fin) hd
 .rcases hk with hk|hk
  .exact wpAny_Name (wpAny_loadName_cell I.ok.kind hk hc Sk fin) hd
  .exact wpAny_Name (wpAny_loadName_free I.ok.kind hk hc Sk fin QP) hd
def BE{i j pos}:PE X (.Constant (.int i) j pos) (tC (.int i)):=λ_ _ _ H _ I h=>wpAny_Constant_int ⟨.int i,H,I.tok _,⟨_,rfl⟩,h⟩
def Nf{b j pos}:PE X (.Constant (.bool b) j pos) (tC (.bl b)):=λ_ _ _ H _ I h=>Constant_bool ⟨.bl b,H,I,rfl,h⟩
def Js{j pos}:PE X (.Constant .none j pos) (tC .c8):=λ_ _ _ H _ I h=>Constant_none ⟨.c8,H,I,rfl,h⟩
def Kn{x j pos}:PE X (.Constant (.str x) j pos) (tC (.str x)):=λ_ _ _ H _ I h=>Calls.Constant_str ⟨.str x,H,I.tok _,⟨_,rfl⟩,h⟩
def Gl(X:Cx)(x:Str):Prop:=X.env.kindOf x=some .globalImplicit
def i6{pos:Pos}(I:Inv X Qg σ H s)(hg:Gl X x)(hm:X.mg x=some u)(h:Q u s)(hd:autoParam ↑7 aD._auto_1):wpAny ↑8 X.A (eval (.Name x pos) X.env) Q E s :=
 ZY I.ok.kind hg (Calls.loadGlobal_global (by rw[I.ok.glob];exact I.mod.glob.keeps I.bk) hm h) hd
def jr{pos:Pos}(I:Inv X Qg σ H s)(hg:Gl X x)(hm:X.mg x=none)(hv:bootBuiltins x=some u)(h:Q u s)(hn:autoParam (x ≠ "__name__") aD._auto_1)(hd:autoParam ↑7 aD._auto_1):wpAny ↑8 X.A (eval (.Name x pos) X.env) Q E s:=by
 obtain⟨mb,h1,h2⟩:=I.mod.blt;exact ZY I.ok.kind hg (Calls.loadGlobal_builtin (by rw[I.ok.glob];exact I.mod.glob.keeps I.bk) hm (by rw[I.ok.blt];exact h1.keeps I.bk) ((h2 x hn).trans hv) h) hd
def GW{pos:Pos}(hg:Gl X x)(hm:X.mg x=some u)(r:RelV v u)(hd:autoParam ↑7 aD._auto_1):PE X (.Name x pos) (tC v) :=
 λ_ _ _ H _ I h=>i6 I hg hm ⟨v,H,I,r,h⟩ hd
def iU{pos:Pos}(hg:Gl X x)(hm:X.mg x=none)(hv:bootBuiltins x=some u)(r:RelV v u)(hn:autoParam (x ≠ "__name__") aD._auto_1)(hd:autoParam ↑7 aD._auto_1):PE X (.Name x pos) (tC v) :=
 λ_ _ _ H _ I h=>jr I hg hm hv ⟨v,H,I,r,h⟩ hn hd
variable{a b:Expr}{tb:TE}{pos:Pos}
def tB(t:TE):TT:=fun σ H Q=>t σ H λx H1=>∃c,x=.bl c/\Q c H1
def IJ{t:TE}(h:PE X e t)(he:autoParam (∀whole,isTrue e X.env whole=(do let v <- whole;standAt e.pos;holding [v] (truthy v))) aI._auto_1):PT X e (tB t):=by
 intro Qg s σ H Q I hw;refine isTrue_plain (ck (h Qg s σ H _ I hw) λv s1 ⟨x,H1,I1,r1,q1⟩=>?_) (he _);obtain⟨d,rfl,q⟩:=q1;cases r1;exact Xc ⟨H1,I1,q⟩
variable{tA tB':TT}{rest:List Expr}
def Ot(t u:TT):TT:=fun σ H Q=>t σ H λc H1=>if c=true then u σ H1 Q else Q false H1
def P7(t u:TT):TT:=fun σ H Q=>t σ H λc H1=>if c=true then Q true H1 else u σ H1 Q
def O1(t:TT):TT:=fun σ H Q=>t σ H λc H1=>Q (!c) H1
def pw_and1(ha:PT X a tA):PW X (.BoolOp .And [a] pos) tA:=by
 intro wh Qg s σ H Q I h;refine isTrue_and (ck (ha Qg s σ H Q I h) λc s1 e=>?_);cases c with
 | true=>exact isTrue_and_nil e
 |false=>exact e
def pw_or1(ha:PT X a tA):PW X (.BoolOp .Or [a] pos) tA:=by
 intro wh Qg s σ H Q I h;refine isTrue_or (ck (ha Qg s σ H Q I h) λc s1 e=>?_);cases c with
 | false=>exact isTrue_or_nil e
 |true=>exact e
def pw_and(ha:PT X a tA)(hb:PW X (.BoolOp .And (b::rest) pos) tB'):PW X (.BoolOp .And (a::b::rest) pos) (Ot tA tB'):=by
 intro wh Qg s σ H Q I h;refine isTrue_and (ck (ha Qg s σ H _ I h) λc s1 ⟨H1,I1,q1⟩=>?_);cases c with
 | true=>exact hb wh Qg s1 σ H1 Q I1 q1
 |false=>exact⟨H1,I1,q1⟩
def pw_or(ha:PT X a tA)(hb:PW X (.BoolOp .Or (b::rest) pos) tB'):PW X (.BoolOp .Or (a::b::rest) pos) (P7 tA tB'):=by
 intro wh Qg s σ H Q I h;refine isTrue_or (ck (ha Qg s σ H _ I h) λc s1 ⟨H1,I1,q1⟩=>?_);cases c with
 | true=>exact⟨H1,I1,q1⟩
 |false=>exact hb wh Qg s1 σ H1 Q I1 q1
def ID(ha:PT X a tA):PT X (.UnaryOp .Not a pos) (O1 tA):=by
 intro Qg s σ H Q I h;exact isTrue_not (ha Qg s σ H (λc H1=>Q (!c) H1) I h)
def MC(ta tb:TE):TE:=fun σ H Q=>ta σ H λx H1=>∃c,x=.bl c/\if c=true then tb σ H1 Q else Q (.bl false) H1
def MU(ta:TE):TE:=fun σ H Q=>ta σ H λx H1=>∃c,x=.bl c/\Q (.bl (!c)) H1
def Cm{op}{t:TE}(h:PE X a t):PE X (.BoolOp op [a] pos) t:=λQg s σ H Q I hw=>BoolOp_one (h Qg s σ H Q I hw)
def Ky(ha:PE X a ta)(hb:PE X (.BoolOp .And (b::rest) pos) tb):PE X (.BoolOp .And (a::b::rest) pos) (MC ta tb):=by
 intro Qg s σ H Q I h;refine BoolOp_and (ck (ha Qg s σ H _ I h) λv s1 ⟨x,H1,I1,r1,q1⟩=>?_);obtain⟨c,rfl,q1⟩:=q1;cases r1;refine Xc ?_;cases c with
 | true=>exact hb Qg s1 σ H1 Q I1 q1
 |false=>exact⟨.bl false,H1,I1,rfl,q1⟩
def Iq(ha:PE X a ta):PE X (.UnaryOp .Not a pos) (MU ta):=by
 intro Qg s σ H Q I h;refine UnaryOp_ (ck (ha Qg s σ H _ I h) λv s1 ⟨x,H1,I1,r1,q1⟩=>?_);obtain⟨c,rfl,q1⟩:=q1;cases r1;exact not_of (Xc ⟨.bl (!c),H1,I1,rfl,q1⟩)
def Qa(t:TT)(ta tb:TE):TE:=fun σ H Q=>t σ H λc H1=>if c=true then ta σ H1 Q else tb σ H1 Q
def Cs(hc:PT X c tA)(ha:PE X a ta)(hb:PE X b tb):PE X (.IfExp c a b pos) (Qa tA ta tb):=by
 intro Qg s σ H Q I h;refine wpAny_IfExp (ck (hc Qg s σ H _ I h) λd s1 ⟨H1,I1,q1⟩=>?_);cases d with
 | true=>exact ha Qg s1 σ H1 Q I1 q1
 |false=>exact hb Qg s1 σ H1 Q I1 q1
end
def g9(K:UU)(H:Hp)(a:Addr)(xs:List V):Prop :=
 Rd H a (.lst xs) ∨
  ∃(o:Obj)(Qo:Array Value)(n:Nat),K.lookup a=some o/\o.cls=.type "list" /\ o.dict=none/\o.data=.seq Qo n/\Qo.size<=sizeLine/\Vals xs Qo.toList
def gR(K:UU)(H:Hp)(a:Addr)(xs:List V):Prop :=
 Rd H a (.tup xs) ∨
  ∃(o:Obj)(Qo:Array Value)(n:Nat),K.lookup a=some o/\o.cls=.type "tuple" /\ o.data=.seq Qo n/\Qo.size<=sizeLine/\Vals xs Qo.toList
noncomputable def NV:Value->Option V
 | .none=>some .c8
 | .bool b=>some (.bl b)
 | .int i _=>some (.int i)
 | .str x _=>some (.str x)
 | .bytes b _=>some (.byt b)
 | .float b _=>some (.HL b)
 | .ref a=>some (.ref a)
 | .type n=>some (.ty n)
 |_=>none
def RelV.abs{x:V}(r:RelV x u):NV u=some x:=by
 cases x with
 | c8=>cases r;rfl
 | bl _=>cases r;rfl
 | int _=>obtain⟨t,rfl⟩:=r;rfl
 | str _=>obtain⟨t,rfl⟩:=r;rfl
 | byt _=>obtain⟨t,rfl⟩:=r;rfl
 | HL _=>obtain⟨t,rfl⟩:=r;rfl
 | ref _=>cases r;rfl
 |ty _=>cases r;rfl
def RelV.inj{x y:V}{u:Value}(r:RelV x u)(q:RelV y u):x=y:=Vf (r.abs.symm.trans q.abs)
theorem Vals.inj:∀{xs ys:List V}{us:List Value},Vals xs us->Vals ys us->xs=ys
 | _,_,_,.nil,.nil=>rfl
 |_,_,_,.cons r t,.cons r' t'=>by rw[r.inj r',Vals.inj t t']
section
variable{a:Addr}{xs ys:List V}
def g9.of{K:UU}(h:H a=some (.lst xs)):g9 K H a xs:=.inl (.inl h)
def gR.of{K:UU}(h:H a=some (.tup xs)):gR K H a xs:=.inl (.inl h)
theorem Inv.list(I:Inv X Qg σ H s)(h:g9 X.K H a xs):∃Qo:List Value,Vals xs Qo/\PlainL s.heap a Qo.toArray/\xs.length<=sizeLine:=by
 rcases h with h|⟨o,Qo,n,hk,hc,hd,hs,hz,r⟩
 .obtain⟨z,Qo,n,r,e⟩:=h.ok I.bq;exact⟨Qo,r,⟨_,n,e,rfl,rfl,rfl⟩,z⟩
 .refine⟨Qo.toList,r,⟨o,n,I.jG a o hk,hc,hd,by simpa using hs⟩,?_⟩;have e:=r.length;simp only[Vt] at e;lia
theorem Inv.tuple(I:Inv X Qg σ H s)(h:gR X.K H a xs):∃Qo:List Value,Vals xs Qo/\IsTup s.heap a Qo.toArray/\xs.length<=sizeLine:=by
 rcases h with h|⟨o,Qo,n,hk,hc,hs,hz,r⟩
 .obtain⟨z,Qo,r,p⟩:=h.ok I.bq;exact⟨Qo,r,p,z⟩
 .refine⟨Qo.toList,r,⟨o,I.jG a o hk,hc,n,by simpa using hs⟩,?_⟩;have e:=r.length;simp only[Vt] at e;lia
def Inv.qX(I:Inv X Qg σ H s)(h:g9 X.K H a xs)(h':g9 X.K H a ys):xs=ys:=by
 obtain⟨Qo,r,⟨o,n,e,_,_,d⟩,_⟩:=I.list h;obtain⟨its',r',⟨o',n',e',_,_,d'⟩,_⟩:=I.list h';rw[e] at e';cases e';rw[d] at d';injection d' with d1 _
 have:Qo=its':=by simpa using congrArg abV d1
 subst this;exact r.inj r'
def Inv.nv(I:Inv X Qg σ H s)(h:gR X.K H a xs)(h':gR X.K H a ys):xs=ys:=by
 obtain⟨Qo,r,⟨o,e,_,n,d⟩,_⟩:=I.tuple h;obtain⟨its',r',⟨o',e',_,n',d'⟩,_⟩:=I.tuple h';rw[e] at e';cases e';rw[d] at d';injection d' with d1 _
 have:Qo=its':=by simpa using congrArg abV d1
 subst this;exact r.inj r'
end
noncomputable abbrev Cx.qM(X:Cx)(E:Value->Shared->Prop):Cx:={ X with xe:=E }
theorem Cx.Ok.qM{X:Cx}(ok:X.Ok)(E:Value->Shared->Prop):(X.qM E).Ok :=
 ⟨ok.mod,ok.kind,ok.glob,ok.blt,ok.above,ok.inj,ok.has,ok.HR,ok.hd,ok.frames,ok.Jy,ok.Lx,ok.bs,ok.Ee,ok.uZ,ok.vK,ok.lu,ok.EO⟩
def Cx.Ok.eI(ok:(X.qM E).Ok):X.Ok :=
 ⟨ok.mod,ok.kind,ok.glob,ok.blt,ok.above,ok.inj,ok.has,ok.HR,ok.hd,ok.frames,ok.Jy,ok.Lx,ok.bs,ok.Ee,ok.uZ,ok.vK,ok.lu,ok.EO⟩
theorem Inv.qM(I:Inv X Qg σ H s)(E:Value->Shared->Prop):Inv (X.qM E) Qg σ H s:=⟨I.ok.qM E,I.os,I.bare,I.base,I.loc,I.cell,I.free,I.gf,I.pin,I.bq,I.len⟩
theorem Inv.eI(I:Inv (X.qM E) Qg σ H s):Inv X Qg σ H s:=⟨I.ok.eI,I.os,I.bare,I.base,I.loc,I.cell,I.free,I.gf,I.pin,I.bq,I.len⟩
theorem SP.eI{D:Ends}{f:Flow}{s':Shared}(h:SP (X.qM E) Qg D f s'):SP X Qg D f s':=by
 cases f with
 | next=>obtain⟨σ',H',I,q⟩:=h;exact⟨σ',H',I.eI,q⟩
 | brk=>obtain⟨σ',H',I,q⟩:=h;exact⟨σ',H',I.eI,q⟩
 | cont=>obtain⟨σ',H',I,q⟩:=h;exact⟨σ',H',I.eI,q⟩
 |ret u=>obtain⟨v,σ',H',I,r,q⟩:=h;exact⟨v,σ',H',I.eI,r,q⟩
variable{te:TE}
variable{tc:TT}
section
variable{st:Stmt}{rest:List Stmt}{t u:TS}{pos:Pos}
def MA:TS:=λD σ H=>D.nx σ H
def O4(t u:TS):TS:=λD σ H=>t { D with nx:=u D } σ H
def zc:jE X [] MA:=λ_ _ σ H _ I h=>YA ⟨σ,H,I,h⟩
def pK(h1:PS X st t)(h2:jE X rest u):jE X (st::rest) (O4 t u):=by
 intro Qg s σ H D I h;refine wpAny_execs_cons (ck (h1 Qg s σ H { D with nx:=u D } I h) λf s1 q=>?_);cases f with
 | next =>
  obtain⟨σ',H',I',q⟩:=q;exact h2 Qg s1 σ' H' D I' q
 | ret v=>exact q
 | brk=>exact q
 |cont=>exact q
def yL(h1:PS X st t):jE X [st] t:=by
 intro Qg s σ H D I h;refine wpAny_execs_cons (ck (h1 Qg s σ H D I h) λf s1 q=>?_);cases f with
 | next=>exact YA q
 | ret v=>exact q
 | brk=>exact q
 |cont=>exact q
def Inv.quiet(I:Inv X Qg σ H s):interactive X.env=false:=by simp[interactive,I.ok.kind]
def Ng(te:TE):TS:=λD σ H=>te σ H λ_ H1=>D.nx σ H1
def lO(he:PE X e te)(hs:autoParam (swapsWith e none pos.line X.env=pure false) aR._auto_1):PS X (.Expr e pos) (Ng te):=by
 intro Qg s σ H D I h;exact wpAny_Expr_any (ck (he Qg s σ H _ I h) λv s1 ⟨x,H1,I1,r1,q1⟩=>⟨σ,H1,I1,q1⟩) I.quiet hs
def OG(te:TE):TS:=λD σ H=>te σ H D.rt
def Dr(he:PE X e te):PS X (.Return (some e) pos) (OG te):=by
 intro Qg s σ H D I h;exact wpAny_Return_some (ck (he Qg s σ H _ I h) λv s1 ⟨x,H1,I1,r1,q1⟩=>⟨x,σ,H1,I1,r1,q1⟩)
def N_(c:TT)(t u:TS):TS:=λD σ H=>c σ H λb H1=>if b=true then t D σ H1 else u D σ H1
def Nl{a b:List Stmt}(hc:PT X c tc)(ha:jE X a t)(hb:jE X b u):PS X (.If c a b pos) (N_ tc t u):=by
 intro Qg s σ H D I h;refine wpAny_If (ck (hc Qg s σ H _ I h) λd s1 ⟨H1,I1,q1⟩=>?_);cases d with
 | true=>exact ha Qg s1 σ H1 D I1 q1
 |false=>exact hb Qg s1 σ H1 D I1 q1
end
abbrev TG:=V->St->Hp->(St->Hp->Prop)->Prop
abbrev ER:=List V->St->Hp->(St->Hp->Prop)->Prop
def PG(X:Cx)(target:Expr)(t:TG):Prop :=
 ∀ (Qg:List (Addr×Obj)) (s:Shared) (σ:St) (H:Hp) (v:V) (u:Value) (Q:St->Hp->Prop),Inv X Qg σ H s->RelV v u->t v σ H Q ->
  wpAny ↑8 X.A (assign target X.env u) (λ_ s'=>∃σ' H',Inv X Qg σ' H' s'/\Q σ' H') X.xe s
def LP(X:Cx)(ts:List Expr)(t:ER):Prop :=
 ∀ (Qg:List (Addr×Obj)) (s:Shared) (σ:St) (H:Hp) (vs:List V) (us:List Value) (Q:St->Hp->Prop),Inv X Qg σ H s->Vals vs us->t vs σ H Q ->
  wpAny ↑8 X.A (assignInOrder ((assignEach ts X.env).map (·.2)) us) (λ_ s'=>∃σ' H',Inv X Qg σ' H' s'/\Q σ' H') X.xe s
abbrev J6:=V->V->V->Hp->(Hp->Prop)->Prop
def MD(X:Cx)(t:J6):Prop :=
 ∀ (Qg:List (Addr×Obj)) (s:Shared) (σ:St) (H:Hp) (o i v:V) (ov iv u:Value) (Q:Hp->Prop),Inv X Qg σ H s->RelV o ov->RelV i iv->RelV v u->t o i v H Q ->
  wpAny ↑8 X.A (setItem ov iv u) (λ_ s'=>∃H',Inv X Qg σ H' s'/\Q H') X.xe s
abbrev NB:=V->V->Hp->VK->Prop
def Pf(X:Cx)(op:Operator)(t:NB):Prop :=
 ∀ (Qg:List (Addr×Obj)) (s:Shared) (σ:St) (H:Hp) (x y:V) (v u:Value) (Q:VK),Inv X Qg σ H s->RelV x v->RelV y u->t x y H Q ->
  wpAny ↑8 X.A (inplaceOp op v u) (EP X Qg σ Q) X.xe s
variable{es:List Expr}
variable{n k:Nat}
variable{tg:Expr}
section
variable{pos:Pos}
def aM(i:Nat):TG:=λv σ H Q=>Q (σ.set i (some v)) H
def GP(hN:X.N.Nodup)(hi:X.N[i]?=some x)(hx:Loc X.env.scope x)(hf:autoParam ↑1 aF._auto_1):PG X (.Name x pos) (aM i):=by
 intro Qg s σ H v u Q I r h;exact wpAny_assign_Name (qD I hN hi hx r (λs' I'=>⟨_,H,I',h⟩) hf)
def jY:ER:=λvs σ H Q=>vs=[]/\Q σ H
def bK(t:TG)(u:ER):ER:=λvs σ H Q=>∃v r,vs=v::r/\t v σ H fun σ' H'=>u r σ' H' Q
def c7:LP X [] jY:=by
 intro Qg s σ H vs us Q I r h;obtain⟨e,h⟩:=h;subst e;cases r;exact assignInOrder_nil ⟨σ,H,I,h⟩
def aP{t:TG}{u:ER}(h1:PG X e t)(h2:LP X es u)(hs:autoParam ((assignEach (e::es) X.env).map (·.2)=assign e X.env::(assignEach es X.env).map (·.2)) aR._auto_1):LP X (e::es) (bK t u):=by
 intro Qg s σ H vs us Q I r h;obtain⟨v,vr,e1,h⟩:=h;subst e1;cases r with
 | cons r rr =>
  rw[hs];refine assignInOrder_cons (ck (h1 Qg s σ H _ _ _ I r h) λ_ s1 ⟨σ1,H1,I1,q1⟩=>?_);exact h2 Qg s1 σ1 H1 _ _ Q I1 rr q1
def kM(K:UU)(n:Nat)(t:ER):TG:=λv σ H Q=>∃a xs,v=.ref a/\gR K H a xs/\xs.length=n/\t xs σ H Q
def e9{t:ER}(hc:X.calm=true)(h:LP X es t)(hn:autoParam ((assignEach es X.env).length=n) aR._auto_1)(QO:autoParam ((assignEach es X.env).findIdx? (·.1)=none) aR._auto_1):PG X (.Tuple es k pos) (kM X.K n t):=by
 intro Qg s σ H v u Q I r hw;obtain⟨a,xs,e1,hq,hl,hw⟩:=hw;subst e1;cases r;obtain⟨Qo,rv,ht,hz⟩:=I.tuple hq;refine assign_Tuple_tuple (I.ok.hd hc) ht (by simp[hn,<- hl,rv.length]) QO λh' hx=>?_;have I1:Inv X Qg σ H { s with heap:=h' }:=I.kept (t':=s.toks) λb o e=>hx b o (Vh (U3 e)) e;exact h Qg _ σ H xs _ Q I1 (by simpa using rv) hw
def J8(te:TE)(g:TG):TS:=λD σ H=>te σ H λx H1=>g x σ H1 D.nx
def Jt{g:TG}(he:PE X e te)(hg:PG X tg g)(hs:autoParam (swapsWithSole [tg] e pos.line X.env=pure false) aR._auto_1)(hw:autoParam (swappedStores [tg] e X.env=pure none) aR._auto_1)(h1:autoParam ((assignEach [tg] X.env).map (·.2)=[assign tg X.env]) aR._auto_1):PS X (.Assign [tg] e pos) (J8 te g):=by
 intro Qg s σ H D I h;refine wpAny_Assign_stores (ck (he Qg s σ H _ I h) λv s1 ⟨x,H1,I1,r1,q1⟩=>?_) hs hw;rw[h1];exact ck (hg Qg s1 σ H1 x v _ I1 r1 q1) λ_ s2 q=>q
def xB{pos':Pos}(hN:X.N.Nodup)(hi:X.N[i]?=some x)(hx:Loc X.env.scope x)(he:PE X e te)(hs:autoParam (swapsWith e (some (.Name x pos')) pos.line X.env=pure false) aR._auto_1)(hf:autoParam ↑1 aF._auto_1):PS X (.Assign [.Name x pos'] e pos) (J8 te (aM i)):=by
 intro Qg s σ H D I h;refine wpAny_Assign_Name (ck (he Qg s σ H _ I h) λv s1 ⟨y,H1,I1,r1,q1⟩=>?_) hs;exact qD I1 hN hi hx r1 (λs2 I2=>⟨_,H1,I2,q1⟩) hf
def LZ(to ti te:TE)(Tu:V->V->Hp->VK->Prop)(tip:NB)(Tv:J6):TS:=λD σ H=>to σ H λo H1=>ti σ H1 λi H2=>Tu o i H2 λx H3=>te σ H3 λy H4=>tip x y H4 λz H5=>Tv o i z H5 λH6=>D.nx σ H6
def L9(X:Cx)(t:V->V->Hp->VK->Prop):Prop :=
 ∀ (Qg:List (Addr×Obj)) (s:Shared) (σ:St) (H:Hp) (o i:V) (ov iv:Value) (Q:VK),Inv X Qg σ H s->RelV o ov->RelV i iv->t o i H Q ->
  wpAny ↑8 X.A (getItem ov iv) (EP X Qg σ Q) X.xe s
def G8{o i:Expr}{to ti:TE}{Tu:V->V->Hp->VK->Prop}{tip:NB}{Tv:J6}{op:Operator}{Te:Pos}(ho:PE X o to)(hi:PE X i ti)(hg:L9 X Tu)(he:PE X e te)(hp:Pf X op tip)(hs:MD X Tv)
  (ha:∀ov iv new,augStore i ov iv new=(do holding [new,ov,iv] (setItem ov iv new);release [new,ov,iv] [];pure .next):=by intros;rfl):PS X (.AugAssign (.Subscript o i Te) op e pos) (LZ to ti te Tu tip Tv):=by
 intro Qg s σ H D I h;refine wpAny_AugAssign_SubscriptAny (ck (ho Qg s σ H _ I h) λov s1 ⟨x1,H1,I1,r1,q1⟩=>?_) ha;refine ck (hi Qg s1 σ H1 _ I1 q1) λiv s2 ⟨x2,H2,I2,r2,q2⟩=>?_;refine ck (hg Qg s2 σ H2 x1 x2 ov iv _ I2 r1 r2 q2) λold s3 ⟨x3,H3,I3,r3,q3⟩=>?_;refine ck (he Qg s3 σ H3 _ I3 q3) λv s4 ⟨x4,H4,I4,r4,q4⟩=>?_;refine ck (hp Qg s4 σ H4 x3 x4 old v _ I4 r3 r4 q4) λnew s5 ⟨x5,H5,I5,r5,q5⟩=>?_;exact ck (hs Qg s5 σ H5 x1 x2 x5 ov iv new _ I5 r1 r2 r5 q5) λ_ s6 ⟨H6,I6,q6⟩=>⟨σ,H6,I6,q6⟩
def Qe(f:Int->Int->Int):NB:=λx y H Q=>∃i j,x=.int i/\y=.int j/\Q (.int (f i j)) H
def Jf:Pf X .Add (Qe λi j=>i+j):=by
 intro Qg s σ H x y v u Q I r1 r2 h;obtain⟨i,j,e1,e2,q⟩:=h;subst e1;subst e2;obtain⟨t,rfl⟩:=r1;obtain⟨t',rfl⟩:=r2;exact iadd_int ⟨.int _,H,I.tok _,⟨_,rfl⟩,q⟩
end
variable{tb:TS}{body:List Stmt}
section
variable{pos:Pos}
def Km(c:TT)(tb:TS):TS:=λD σ H=>∃W:Nat->St->Hp->Prop,(∃m,W m σ H)/\∀m σ H,W m σ H ->
 c σ H λb H1=>if b=true then ∃N:St->Hp->Prop,(∀σ' H',N σ' H'->∃m',m'<m/\W m' σ' H')/\tb { D with nx:=N,ct:=N,bk:=D.nx } σ H1 else D.nx σ H1
def D_(hp:PassesOwn ↑8 X.A X.env X.xe)(hc:PT X c tc)(hb:jE X body tb):PS X (.While c body [] pos) (Km tc tb):=by
 intro Qg s σ H D I h;obtain⟨W,⟨m0,w0⟩,turn⟩:=h;refine wpAny_While (codeAny_whileLoop (λn s'=>∃σ' H',Inv X Qg σ' H' s'/\W n σ' H') ?_ m0 ⟨σ,H,I,w0⟩);rintro n s1 ⟨σ1,H1,I1,w1⟩;refine XD hp (ck (hc Qg s1 σ1 H1 _ I1 (turn n σ1 H1 w1)) λb s2 ⟨H2,I2,q2⟩=>?_);cases b with
 | true =>
  obtain⟨N,hN,q2⟩:=q2;rw[if_pos rfl];refine XD hp (ck (hb Qg s2 σ1 H2 _ I2 q2) λf s3 q3=>?_);cases f with
  | next =>
   obtain⟨σ3,H3,I3,n3⟩:=q3;obtain⟨m',hm,w3⟩:=hN σ3 H3 n3;exact⟨m',hm,σ3,H3,I3,w3⟩
  | cont =>
   obtain⟨σ3,H3,I3,n3⟩:=q3;obtain⟨m',hm,w3⟩:=hN σ3 H3 n3;exact⟨m',hm,σ3,H3,I3,w3⟩
  | brk=>exact q3
  | ret v=>exact q3
 | false =>
  rw[if_neg VD];exact YA ⟨σ1,H2,I2,q2⟩
end
structure It where
 go:Nat->Hp->Prop
 vd:Nat->Hp->V->Hp->Prop
 stop:Nat->Hp->Prop
def lp(X:Cx)(Qg:List (Addr×Obj))(H:Hp)(b:Addr):Prop :=
 H b=none/\b≠X.env.locals/\b ∉ X.fs/\(b∈X.ex\/X.s₀.heap.objs.size<=b)/\(∀x c,X.env.cells.lookup x=some c->c≠b)/\∀p∈X.pn++Qg,p.1≠b
def Inv.rn(I:Inv X Qg σ H s)(hb:s.heap.objs.size<=b)(hn:H' b=none):lp X Qg H' b:=by
 refine⟨hn,WB (U8 I.lt hb),I.NR hb,.inr (VM I.sz hb),λx c e z=>?_,λp hp z=>?_⟩
 .obtain⟨v,q⟩:=I.cell x c e;exact absurd (U8 q.lt (by rwa[z])) (Xl _)
 .exact absurd (U8 (U3 (I.pin p hp).1) (by rwa[z])) (Xl _)
structure Turn (P:Program) (w:World) (K:UU) (tg:Expr) (J:It) (fp:List Addr) (it:Addr) (tn:Nat->Heap->Prop):Prop where
 mem:it∈fp
 obj:∀i h,tn i h->∀b∈fp,∃o,h.get? b=some o/\∀v,o.data≠.cell v
 keep:∀i h h',tn i h->(∀b∈fp,∀o,h.get? b=some o->h'.get? b=some o)->tn i h'
 item:∀(X:Cx),X.prog=P->X.w=w->X.K=K->X.calm=true->∀(i:Nat)(Qg:List (Addr×Obj))(s:Shared)(σ:St)(H:Hp)(E:Value->Shared->Prop),Inv X Qg σ H s->(∀b∈fp,lp X Qg H b)->tn i s.heap->J.go i H ->
  wpAny (model P w) X.A (pyNext (.ref it)) (λr s1=>∃u,r=some u ∧
   wpAny (model P w) X.A (letOwnedTupleGo tg (.ref it) u) (λ_ s2=>∃x H',Inv X Qg σ H' s2/\RelV x u/\J.vd i H x H'/\tn (i+1) s2.heap/\∀b∈fp,H' b=none) E s1) E s
 done:∀(X:Cx),X.prog=P->X.w=w->X.K=K->X.calm=true->∀(i:Nat)(Qg:List (Addr×Obj))(s:Shared)(σ:St)(H:Hp)(E:Value->Shared->Prop),Inv X Qg σ H s->(∀b∈fp,lp X Qg H b)->tn i s.heap->J.stop i H ->
  wpAny (model P w) X.A (pyNext (.ref it)) (λr s1=>r=none/\Inv X Qg σ H s1) E s
 self:∀(A:Around)(i:Nat)(s:Shared)(Q:Value->Shared->Prop)(E:Value->Shared->Prop),tn i s.heap->Q (.ref it) s->wpAny (model P w) A (pyIter (.ref it)) Q E s
abbrev TI:=St->Hp->(It->Hp->Prop)->Prop
def OY(X:Cx)(Qg:List (Addr×Obj))(σ:St)(tg:Expr)(R:It->Hp->Prop)(itv:Value)(s2:Shared):Prop :=
 ∃(it:Addr)(fp:List Addr)(tn:Nat->Heap->Prop)(J:It)(H':Hp),itv=.ref it/\Inv X Qg σ H' s2/\Turn X.prog X.w X.K tg J fp it tn/\tn 0 s2.heap/\(∀b∈fp,lp X Qg H' b)/\R J H'
def PI(X:Cx)(tg iter:Expr)(wi:TI):Prop :=
 ∀ (Qg:List (Addr×Obj)) (s:Shared) (σ:St) (H:Hp) (R:It->Hp->Prop),Inv X Qg σ H s->wi σ H R ->
  wpAny ↑8 X.A (eval iter X.env) (λv s1=>wpAny ↑8 X.A (pyIter v) (OY X Qg σ tg R) X.xe s1) X.xe s
def vS {M : Model}{o : Obj}{n : String}{vs : Array Value}{Q : Unit -> Shared -> Prop}(ho : s.heap.get? it=some o)(hc : o.cls=.type n)(hd : o.data=.fields vs)(hn : ["enumerate","zip","dict_itemiterator","dict_reverseitemiterator","odict_iterator","itertools.zip_longest","itertools.pairwise"].contains n=false)(hQ : Q () s) : wpAny M A (letOwnedTupleGo tg (.ref it) u) Q E s := by
  unfold letOwnedTupleGo;cases tg<;>first
    | exact UX hQ
    | (cases u<;>first
        | exact UX hQ
        | (refine TR (wpAny_load ho ?_)
           rw [hc,hd];show wpAny M A (if (["enumerate","zip","dict_itemiterator","dict_reverseitemiterator","odict_iterator","itertools.zip_longest","itertools.pairwise"].contains n && vs[0]? == some (rawInt _))=true then _ else _) Q E s;rw [if_neg (by intro h; rw [hn,ZZ] at h; cases h)];exact UX hQ))
def Pg(K:UU)(a:Addr):It :=
 ⟨λi H=>∃xs x,g9 K H a xs/\xs[i]?=some x,λi H x H'=>H'=H/\∀xs,g9 K H a xs->xs[i]?=some x,λi H=>∃xs,g9 K H a xs/\xs.length<=i⟩
def Px(K:UU)(a:Addr):It :=
 ⟨λi H=>∃xs x,gR K H a xs/\xs[i]?=some x,λi H x H'=>H'=H/\∀xs,gR K H a xs->xs[i]?=some x,λi H=>∃xs,gR K H a xs/\xs.length<=i⟩
def Nd(lo:Int)(n:Nat):It:=⟨λi _=>i<n,λi H x H'=>H'=H/\x=.int (lo+i),λi _=>n<=i⟩
theorem zB{K:UU}(a it:Addr):Turn P w K tg (Pg K a) [it] it (λi h=>h.IsListIter it a i) where
 mem:=by simp
 obj:=λi h st b hb=>by
  have e:b=it:=by simpa using hb
  subst e;obtain⟨o,e,c,d⟩:=st;exact⟨o,e,λv z=>by rw[d] at z;cases z⟩
 keep:=λi h h' st k=>st.at λo e=>k it ↑13 o e
 item:=by
  intro X hP hw hK hc i Qg s σ H E I hf st hg;subst hP hw hK;obtain⟨xs,x,hq,hx⟩:=hg;obtain⟨Qo,rv,p,hz⟩:=I.list hq;obtain⟨u,hu,ru⟩:=rv.get hx;obtain⟨f0,f1,f2,f3,f4,f5⟩:=hf it ↑13;refine wpAny_pyNext_list_item st p.isList (x:=u) (by simpa using hu) λh' Qn sb=>?_;have I1:Inv X Qg σ H { s with heap:=h' }:=I.turned (t':=s.toks) (λb o hb e=>(sb.2 b hb).trans e) f0 f1 f3 f4 f5;obtain⟨o,e,c,d⟩:=id Qn;exact⟨u,rfl,vS (s:={ s with heap:=h' }) e c d ↑12 ⟨x,H,I1,ru,⟨rfl,λys hy=>by rwa[I.qX hy hq]⟩,Qn,λb hb=>(hf b hb).1⟩⟩
 done:=by
  intro X hP hw hK hc i Qg s σ H E I hf st hg;subst hP hw hK;obtain⟨xs,hq,hx⟩:=hg;obtain⟨Qo,rv,p,hz⟩:=I.list hq;obtain⟨f0,f1,f2,f3,f4,f5⟩:=hf it ↑13;have hl:=rv.length;exact wpAny_pyNext_list_end (I.ok.hd hc) st p.isList (by simp;lia) λh' eb=>⟨rfl,I.turned (t':=s.toks) (λb o hb e=>eb b o hb e) f0 f1 f3 f4 f5⟩
 self:=λ_ _ _ _ _ st h=>wpAny_pyIter_listiter st h
theorem yc{K:UU}(a it:Addr):Turn P w K tg (Px K a) [it] it (λi h=>h.IsTupleIter it a i) where
 mem:=by simp
 obj:=λi h st b hb=>by
  have e:b=it:=by simpa using hb
  subst e;obtain⟨o,e,c,d⟩:=st;exact⟨o,e,λv z=>by rw[d] at z;cases z⟩
 keep:=λi h h' st k=>st.at λo e=>k it ↑13 o e
 item:=by
  intro X hP hw hK hc i Qg s σ H E I hf st hg;subst hP hw hK;obtain⟨xs,x,hq,hx⟩:=hg;obtain⟨Qo,rv,p,hz⟩:=I.tuple hq;obtain⟨u,hu,ru⟩:=rv.get hx;obtain⟨f0,f1,f2,f3,f4,f5⟩:=hf it ↑13;refine wpAny_pyNext_tuple_item st (show s.heap.IsTuple a Qo.toArray from p) (x:=u) (by simpa using hu) λh' Qn sb=>?_;have I1:Inv X Qg σ H { s with heap:=h' }:=I.turned (t':=s.toks) (λb o hb e=>(sb.2 b hb).trans e) f0 f1 f3 f4 f5;obtain⟨o,e,c,d⟩:=id Qn;exact⟨u,rfl,vS (s:={ s with heap:=h' }) e c d ↑12 ⟨x,H,I1,ru,⟨rfl,λys hy=>by rwa[I.nv hy hq]⟩,Qn,λb hb=>(hf b hb).1⟩⟩
 done:=by
  intro X hP hw hK hc i Qg s σ H E I hf st hg;subst hP hw hK;obtain⟨xs,hq,hx⟩:=hg;obtain⟨Qo,rv,p,hz⟩:=I.tuple hq;obtain⟨f0,f1,f2,f3,f4,f5⟩:=hf it ↑13;have hl:=rv.length;exact wpAny_pyNext_tuple_end (I.ok.hd hc) st (show s.heap.IsTuple a Qo.toArray from p) (by simp;lia) λh' eb=>⟨rfl,I.turned (t':=s.toks) (λb o hb e=>eb b o hb e) f0 f1 f3 f4 f5⟩
 self:=λ_ _ _ _ _ st h=>wpAny_pyIter_tupleiter st h
theorem xg{K:UU}(it:Addr)(lo:Int)(n:Nat):Turn P w K tg (Nd lo n) [it] it (λi h=>IsRangeIter h it (lo+(i:Nat)*1) ((n:Int)-(i:Nat)) 1) where
 mem:=by simp
 obj:=λi h st b hb=>by
  have e:b=it:=by simpa using hb
  subst e;exact⟨_,st,λv z=>by
   have z':Data.fields _=Data.cell v:=z;cases z'⟩
 keep:=λi h h' st k=>k it ↑13 _ st
 item:=by
  intro X hP hw hK hc i Qg s σ H E I hf st hg;subst hP hw hK;obtain⟨f0,f1,f2,f3,f4,f5⟩:=hf it ↑13;have W:=Walks.range (prog:=X.prog) (w:=X.w) (I.ok.hd hc) it lo 1 n;refine W.item i s _ _ hg st λv h' tk hv Qn kk=>?_;obtain⟨t,rfl⟩:=hv;have I1:Inv X Qg σ H { s with heap:=h',toks:=tk }:=I.turned (λb o hb e=>kk b o (by simpa using hb) e) f0 f1 f3 f4 f5;refine⟨_,rfl,vS (s:={ s with heap:=h',toks:=tk }) (n := "range_iterator") Qn rfl rfl ↑12 ⟨.int (lo+i),H,I1,⟨t,?_⟩,⟨rfl,rfl⟩,Qn,λb hb=>(hf b hb).1⟩⟩;rw[acG]
 done:=by
  intro X hP hw hK hc i Qg s σ H E I hf st hg;subst hP hw hK;obtain⟨f0,f1,f2,f3,f4,f5⟩:=hf it ↑13;exact aaB (I.ok.hd hc) st (by have:n<=i:=hg;lia) λh' eb=>⟨rfl,I.turned (t':=s.toks) (λb o hb e=>eb b o hb e) f0 f1 f3 f4 f5⟩
 self:=λ_ _ _ _ _ st h=>aaC st h
variable{p:Pos}
variable{fp:List Addr}
theorem vH{R:It->Hp->Prop}{lo hi:Int}{t u v:Tok}{tk:Nat}(I:Inv X Qg σ H s)(h1:-(2^62)<=lo)(h2:lo<2^62)(h3:-(2^62)<=hi)(h4:hi<2^62)(q:R (Nd lo (hi-lo).toNat) H):wpAny ↑8 X.A (pyIter (.ref s.heap.objs.size)) (OY X Qg σ tg R) E { s with heap:=s.heap.push { cls:=.type "range",data:=.fields #[.int lo t,.int hi u,.int 1 v] },toks:=tk }:=by
 refine wpAny_pyIter_range (IsRange.new ..) (small_one h1 h2 h3 h4) ?_;have I1:Inv X Qg σ H { s with heap:=s.heap.push { cls:=.type "range",data:=.fields #[.int lo t,.int hi u,.int 1 v] },toks:=tk }:=I.kept λb o e=>UT _ e;refine⟨(s.heap.push { cls:=.type "range",data:=.fields #[.int lo t,.int hi u,.int 1 v] }).objs.size,[(s.heap.push { cls:=.type "range",data:=.fields #[.int lo t,.int hi u,.int 1 v] }).objs.size],_,_,H,rfl,
  I1.kept (t':=tk) λb o e=>UT _ e,xg _ lo (hi-lo).toNat,?_,λb hb=>?_,q⟩
 .have e1:lo+((0:Nat):Int)*1=lo:=by simp
  have e2:(((hi-lo).toNat:Nat):Int)-((0:Nat):Int)=Vs lo hi 1:=by rw[rangeSize_one];split<;>lia
  show IsRangeIter _ _ (lo+((0:Nat):Int)*1) ((((hi-lo).toNat:Nat):Int)-((0:Nat):Int)) 1;rw[e1,e2];exact U1 _ rfl
 .have e:b=(s.heap.push { cls:=.type "range",data:=.fields #[.int lo t,.int hi u,.int 1 v] }).objs.size:=by simpa using hb
  subst e;exact I1.rn (UZ _) (I1.bq.fresh (UZ _))
def HK(ta:TA):TI:=fun σ H R=>ta σ H λvs H1=>∃j:Int,vs=[.int j]/\-(2^62)<=j/\j<2^62/\R (Nd 0 j.toNat) H1
def Hv(ta:TA):TI:=fun σ H R=>ta σ H λvs H1=>∃i j:Int,vs=[.int i,.int j]/\(-(2^62)<=i/\i<2^62/\-(2^62)<=j/\j<2^62)/\R (Nd i (j-i).toNat) H1
theorem bX{a:Expr}{ta:TA}{pos:Pos}(hg:Gl X "range")(hm:X.mg "range"=none)(ha:PA X [a] ta)(hs:autoParam (starEach [a] X.env=[(false,eval a X.env)]) aR._auto_1):PI X tg (.Call (.Name "range" p) [a] [] pos) (HK ta):=by
 intro Qg s σ H R I h;refine Call_ (jr I hg hm boot_range (V_ (ck (ha pos Qg s σ H _ I h) λus s1 ⟨vs,H1,I1,r1,q1⟩=>?_) hs rfl));obtain⟨j,e,q1,q2,q⟩:=q1;subst e;cases r1 with
 | cons r rr =>
  cases rr;obtain⟨t,rfl⟩:=r;exact call_range_1 (vH I1 ⋯ ⋯ q1 q2 (by simpa using q))
def zP{a b:Expr}{ta:TA}{pos:Pos}(hg:Gl X "range")(hm:X.mg "range"=none)(ha:PA X [a,b] ta)(hs:autoParam (starEach [a,b] X.env=[(false,eval a X.env),(false,eval b X.env)]) aR._auto_1)(Rx:autoParam (starEach [b] X.env=[(false,eval b X.env)]) aR._auto_1):PI X tg (.Call (.Name "range" p) [a,b] [] pos) (Hv ta):=by
 intro Qg s σ H R I h;refine Call_ (jr I hg hm boot_range (V_ (ck (ha pos Qg s σ H _ I h) λus s1 ⟨vs,H1,I1,r1,q1⟩=>?_) (by rw[hs,Rx]) (by rw[Rx];rfl)));obtain⟨i,j,e,⟨q1,q2,q3,q4⟩,q⟩:=q1;subst e;cases r1 with
 | cons r rr =>
  cases rr with
  | cons r' rr =>
   cases rr;obtain⟨t,rfl⟩:=r;obtain⟨t',rfl⟩:=r';exact call_range_2 (vH I1 q1 q2 q3 q4 q)
def Oi(wi:TI)(g:TG)(tb:TS):TS:=λD σ H=>wi σ H λJ H1=>∃W:Nat->Nat->St->Hp->Prop,(∃m,W 0 m σ H1)/\∀i m σ H,W i m σ H ->
 (J.stop i H/\D.nx σ H)\/(J.go i H/\∃N:St->Hp->Prop,(∀σ' H',N σ' H'->∃m',m'<m/\W (i+1) m' σ' H')/\∀x H',J.vd i H x H'->g x σ H' fun σ2 H2=>tb { D with nx:=N,ct:=N,bk:=D.nx } σ2 H2)
def mX(fp:List Addr)(h:Heap):List (Addr×Obj):=fp.filterMap λb=>(h.get? b).map λo=>(b,o)
def iX{o:Obj}(hb:b∈fp)(e:h.get? b=some o):(b,o)∈mX fp h:=Z0.mpr ⟨b,hb,by rw[e];rfl⟩
def Ah{p:Addr×Obj}(hp:p∈mX fp h):p.1∈fp/\h.get? p.1=some p.2:=by
 obtain⟨b,hb,e⟩:=Z0.mp hp;cases q:h.get? b with
 | none=>rw[q] at e;cases e
 | some o =>
  rw[q] at e;have e':(b,o)=p:=Vf e;subst e';exact⟨hb,q⟩
def Inv.pinned(I:Inv X Qg σ H s)(hf:∀b∈fp,lp X Qg H b)(ho:∀b∈fp,∃o,s.heap.get? b=some o/\∀v,o.data≠.cell v):Inv X (Qg++mX fp s.heap) σ H s :=
 I.yK λp hp=>(V7.mp hp).elim (λz=>I.pin p (V6 _ z)) λz=>by
  obtain⟨hb,e⟩:=Ah z;obtain⟨f0,f1,f2,_⟩:=hf p.1 hb;obtain⟨o,e',d⟩:=ho p.1 hb;rw[e] at e';cases e';exact⟨e,f0,f1,f2,d⟩
def Inv.mi{pl:List (Addr×Obj)}(I:Inv X (Qg++pl) σ H s):Inv X Qg σ H s:=I.yK λp hp=>I.pin p (V6 _ (Zq _ hp))
def IW{iter:Expr}{wi:TI}{g:TG}{pos:Pos}(hp:PassesOwn ↑8 X.A X.env X.xe)(hc:X.calm=true)(hi:PI X tg iter wi)(hg:PG X tg g)(hb:jE X body tb)(hs:autoParam ↑5 aI._auto_1):PS X (.For tg iter body [] pos) (Oi wi g tb):=by
 intro Qg s σ H D I h;refine wpAny_For (ck (hi Qg s σ H _ I h) λv s1 h1=>ck h1 λitv s2 h2=>?_) hs;obtain⟨it,fp,tn,J,H2,e,I2,T,Qz,f2,W,⟨m0,w0⟩,turn⟩:=h2;subst e;have Sh:∀{H':Hp},(∀b∈fp,H' b=none)->∀b∈fp,lp X Qg H' b:=λhn b hb=>⟨hn b hb,(f2 b hb).2⟩
 refine codeAny_forLoop_any (λn s'=>∃i σ' H',Inv X Qg σ' H' s'/\tn i s'.heap/\(∀b∈fp,H' b=none)/\W i n σ' H') ?_ m0 ⟨0,σ,H2,I2,Qz,λb hb=>(f2 b hb).1,w0⟩;rintro n s3 ⟨i,σ3,H3,I3,RT,fr3,w3⟩;rcases turn i n σ3 H3 w3 with ⟨stop,qn⟩|⟨go,N,hN,step⟩
 .refine XD hp (ck (T.done X rfl rfl rfl hc i Qg s3 σ3 H3 X.xe I3 (Sh fr3) RT stop) λr s4 ⟨hr,I4⟩=>?_);subst hr;exact YA ⟨σ3,H3,I4,qn⟩
 .refine XD hp (ck (T.item X rfl rfl rfl hc i Qg s3 σ3 H3 X.xe I3 (Sh fr3) RT go) λr s4 ⟨u,hr,h4⟩=>?_);subst hr;refine XD hp (ck h4 λ_ s5 ⟨x,H5,I5,r5,y5,TK,fr5⟩=>?_);have I5':=I5.pinned (Sh fr5) (T.obj _ _ TK);refine XD hp (ck (hg _ s5 σ3 H5 x u _ I5' r5 (step x H5 y5)) λ_ s6 ⟨σ6,H6,I6,q6⟩=>?_);refine XD hp (ck (hb _ s6 σ6 H6 _ I6 q6) λf s7 q7=>?_);have again:∀{σ7:St}{H7:Hp},Inv X (Qg++mX fp s5.heap) σ7 H7 s7->N σ7 H7->∃m,m<n/\∃i σ' H',Inv X Qg σ' H' s7/\tn i s7.heap/\(∀b∈fp,H' b=none)/\W i m σ' H':=λ{σ7 H7} I7 n7=>by
   obtain⟨m',hm,w7⟩:=hN σ7 H7 n7;refine⟨m',hm,i+1,σ7,H7,I7.mi,T.keep _ _ _ TK λb hb o e=>(I7.pin (b,o) (V6 _ (V6 _ (iX hb e)))).1,λb hb=>?_,w7⟩;obtain⟨o,e,d⟩:=T.obj _ _ TK b hb;exact(I7.pin (b,o) (V6 _ (V6 _ (iX hb e)))).2.1
  cases f with
  | next=>obtain⟨σ7,H7,I7,n7⟩:=q7;exact again I7 n7
  | cont=>obtain⟨σ7,H7,I7,n7⟩:=q7;exact again I7 n7
  | brk=>obtain⟨σ7,H7,I7,q7⟩:=q7;exact⟨σ7,H7,I7.mi,q7⟩
  |ret v=>obtain⟨x7,σ7,H7,I7,r7,q7⟩:=q7;exact⟨x7,σ7,H7,I7.mi,r7,q7⟩
abbrev R2:=V->V->Hp->VK->Prop
def gQ(X:Cx)(f:Value->Value->Sem Value)(r:R2):Prop :=
 ∀ (Qg:List (Addr×Obj)) (s:Shared) (σ:St) (H:Hp) (x y:V) (v u:Value) (Q:VK),Inv X Qg σ H s->RelV x v->RelV y u->r x y H Q ->
  wpAny ↑8 X.A (f v u) (EP X Qg σ Q) X.xe s
def N2(X:Cx)(f:Value->Sem Value)(r:V->Hp->VK->Prop):Prop :=
 ∀ (Qg:List (Addr×Obj)) (s:Shared) (σ:St) (H:Hp) (x:V) (v:Value) (Q:VK),Inv X Qg σ H s->RelV x v->r x H Q ->
  wpAny ↑8 X.A (f v) (EP X Qg σ Q) X.xe s
def du(X:Cx)(f:Value)(r:List V->Hp->VK->Prop):Prop :=
 ∀ (Qg:List (Addr×Obj)) (s:Shared) (σ:St) (H:Hp) (xs:List V) (us:List Value) (Q:VK),Inv X Qg σ H s->Vals xs us->r xs H Q ->
  wpAny ↑8 X.A (call f us) (EP X Qg σ Q) X.xe s
def Ly(r:R2)(ta tb:TE):TE:=fun σ H Q=>ta σ H λx H1=>tb σ H1 λy H2=>r x y H2 Q
def Pj(r:V->Hp->VK->Prop)(ta:TE):TE:=fun σ H Q=>ta σ H λx H1=>r x H1 Q
def rI(C:Int->Int->Prop)(g:Int->Int->V):R2:=λx y H Q=>∃i j,x=.int i/\y=.int j/\C i j/\Q (g i j) H
def yj(g:Int->Int->V):R2:=λx y H Q=>∃i j,x=.int i/\y=.int j/\Q (g i j) H
def rU(g:Int->V):V->Hp->VK->Prop:=λx H Q=>∃i,x=.int i/\Q (g i) H
variable{f:Value->Value->Sem Value}
variable{r:R2}
section
variable{a b:Expr}{tb tc:TE}{pos:Pos}
def JV(ha:PE X a ta)(hb:PE X b tb){R:V->V->Hp->Prop}(I:Inv X Qg σ H s)(h:ta σ H λx H1=>tb σ H1 λy H2=>R x y H2)(hf:∀v u s2 x y H2,Inv X Qg σ H2 s2->RelV x v->RelV y u->R x y H2->wpAny ↑8 X.A (f v u) Q X.xe s2):wpAny ↑8 X.A (eval a X.env) (λv s₁=>wpAny ↑8 X.A (eval b X.env) (λu s₂=>wpAny ↑8 X.A (f v u) Q X.xe s₂) X.xe s₁) X.xe s:=by
 refine ck (ha Qg s σ H _ I h) λv s1 ⟨x,H1,I1,r1,q1⟩=>?_;refine ck (hb Qg s1 σ H1 _ I1 q1) λu s2 ⟨y,H2,I2,r2,q2⟩=>?_;exact hf v u s2 x y H2 I2 r1 r2 q2
def LX{op:Operator}(ho:gQ X (binaryOp op) r)(ha:PE X a ta)(hb:PE X b tb):PE X (.BinOp a op b pos) (Ly r ta tb):=by
 intro Qg s σ H Q I h;exact wpAny_BinOp (JV ha hb I h λv u s2 x y H2 I2 rx ry q=>ho Qg s2 σ H2 x y v u Q I2 rx ry q)
def HV{op:UnaryOp}{r:V->Hp->VK->Prop}(ho:N2 X (unaryOp op) r)(ha:PE X a ta):PE X (.UnaryOp op a pos) (Pj r ta):=by
 intro Qg s σ H Q I h;exact UnaryOp_ (ck (ha Qg s σ H _ I h) λv s1 ⟨x,H1,I1,r1,q1⟩=>ho Qg s1 σ H1 x v Q I1 r1 q1)
def Nz{C:Int->Int->Prop}{g:Int->Int->Int}(rule:∀(i j:Int)(t u:Tok)(s:Shared)(Q:Value->Shared->Prop)(E:Value->Shared->Prop),C i j->Q (.int (g i j) s.toks) { s with toks:=s.toks+1 }->wpAny ↑8 X.A (f (.int i t) (.int j u)) Q E s):gQ X f (rI C λi j=>.int (g i j)):=by
 intro Qg s σ H x y v u Q I rx ry h;obtain⟨i,j,rfl,rfl,hc,q⟩:=h;obtain⟨t,rfl⟩:=rx;obtain⟨t',rfl⟩:=ry;exact rule i j t t' s _ _ hc ⟨.int (g i j),H,I.tok _,⟨_,rfl⟩,q⟩
def Mg{g:Int->Int->Int}(rule:∀(i j:Int)(t u:Tok)(s:Shared)(Q:Value->Shared->Prop)(E:Value->Shared->Prop),Q (.int (g i j) s.toks) { s with toks:=s.toks+1 }->wpAny ↑8 X.A (f (.int i t) (.int j u)) Q E s):gQ X f (yj λi j=>.int (g i j)):=by
 intro Qg s σ H x y v u Q I rx ry h;obtain⟨i,j,rfl,rfl,q⟩:=h;obtain⟨t,rfl⟩:=rx;obtain⟨t',rfl⟩:=ry;exact rule i j t t' s _ _ ⟨.int (g i j),H,I.tok _,⟨_,rfl⟩,q⟩
def F0{g:Int->Int->Bool}(rule:∀(i j:Int)(t u:Tok)(s:Shared)(Q:Value->Shared->Prop)(E:Value->Shared->Prop),Q (.bool (g i j)) s->wpAny ↑8 X.A (f (.int i t) (.int j u)) Q E s):gQ X f (yj λi j=>.bl (g i j)):=by
 intro Qg s σ H x y v u Q I rx ry h;obtain⟨i,j,rfl,rfl,q⟩:=h;obtain⟨t,rfl⟩:=rx;obtain⟨t',rfl⟩:=ry;exact rule i j t t' s _ _ ⟨.bl (g i j),H,I,rfl,q⟩
def JY(i j:Int):Prop:=0<=j/\j<=1000000/\i.natAbs<2^64
def IB:gQ X (binaryOp .Add) (yj λi j=>.int (i+j)):=Mg λ_ _ _ _ _ _ _ q=>add_int q
def IG:gQ X (binaryOp .Sub) (yj λi j=>.int (i-j)):=Mg λ_ _ _ _ _ _ _ q=>sub_int q
def FI:gQ X (binaryOp .Mod) (rI (λ_ j=>j≠0) λi j=>.int (i.fmod j)):=Nz λ_ _ _ _ _ _ _ hc q=>mod_int' hc q
def Li:gQ X (binaryOp .Pow) (rI JY λi j=>.int (i^j.toNat)):=Nz λ_ _ _ _ _ _ _ hc q=>pow_int_small hc.1 hc.2.1 hc.2.2 q
def PX{f:Value->Sem Value}{g:Int->Int}(rule:∀(i:Int)(t:Tok)(s:Shared)(Q:Value->Shared->Prop)(E:Value->Shared->Prop),Q (.int (g i) s.toks) { s with toks:=s.toks+1 }->wpAny ↑8 X.A (f (.int i t)) Q E s):N2 X f (rU λi=>.int (g i)):=by
 intro Qg s σ H x v Q I rx h;obtain⟨i,rfl,q⟩:=h;obtain⟨t,rfl⟩:=rx;exact rule i t s _ _ ⟨.int (g i),H,I.tok _,⟨_,rfl⟩,q⟩
def Ew:N2 X (unaryOp .USub) (rU λi=>.int (-i)):=PX λ_ _ _ _ _ q=>neg_int q
end
variable{op:CmpOp}
variable{us:List Value}
section
variable{a b:Expr}{tb tc:TE}{pos:Pos}
def xR{Q:VK}{k k':Bool}(I:Inv X Qg σ H s)(q:Q (.bl k) H)(e:k=k'):EP X Qg σ Q (.bool k') s:=by
 subst e;exact⟨.bl k,H,I,rfl,q⟩
def Bk:gQ X (compareOp .Lt) (yj λi j=>.bl (decide (i<j))):=F0 λ_ _ _ _ _ _ _ q=>lt_int q
def wy:gQ X (compareOp .LtE) (yj λi j=>.bl (decide (i<=j))):=F0 λ_ _ _ _ _ _ _ q=>le_int q
def Hj:gQ X (compareOp .Gt) (yj λi j=>.bl (decide (j<i))):=F0 λ_ _ _ _ _ _ _ q=>gt_int q
def Hi:gQ X (compareOp .GtE) (yj λi j=>.bl (decide (j<=i))):=F0 λ_ _ _ _ _ _ _ q=>ge_int q
def BK:gQ X (compareOp .Is) (λx y H Q=>y=.c8/\Q (.bl (decide (x=.c8))) H):=by
 intro Qg s σ H x y v u Q I rx ry h;obtain⟨rfl,q⟩:=h;cases ry;refine is_none_gen (xR I q ?_);cases x<;>first
  | (cases rx;rfl)
  |(obtain⟨t,rfl⟩:=rx;rfl)
def gQ.or{r':R2}(h:gQ X f r)(h':gQ X f r'):gQ X f (λx y H Q=>r x y H Q\/r' x y H Q):=by
 intro Qg s σ H x y v u Q I rx ry q;rcases q with q|q
 .exact h Qg s σ H x y v u Q I rx ry q
 .exact h' Qg s σ H x y v u Q I rx ry q
def eF(b:Expr)(h:autoParam (op≠.In) aD._auto_1)(h2:autoParam (op≠.NotIn) aD._auto_1):behindInMarks op b=false:=by
 have e1:(op==CmpOp.In)=false:=by cases op<;>first|rfl|exact absurd rfl h
 have e2:(op==CmpOp.NotIn)=false:=by cases op<;>first|rfl|exact absurd rfl h2
 cases b<;>simp[behindInMarks,e1,e2]
def Gx(ho:gQ X (compareOp op) r)(ha:PE X a ta)(hb:PE X b tb)(hm:behindInMarks op b=false):PE X (.Compare a [op] [b] pos) (Ly r ta tb):=by
 intro Qg s σ H Q I h;exact wpAny_Compare1 (JV ha hb I h λv u s2 x y H2 I2 rx ry q=>ho Qg s2 σ H2 x y v u Q I2 rx ry q) hm
def MR(t:TE):TT:=fun σ H Q=>t σ H λx H'=>∃k,x=.bl k/\Q k H'
def yF(ho:gQ X (compareOp op) r)(ha:PE X a ta)(hb:PE X b tb)(hm:behindInMarks op b=false):PT X (.Compare a [op] [b] pos) (MR (Ly r ta tb)):=by
 intro Qg s σ H Q I h;refine wpAny_isTrue_Compare1 (ck (ha Qg s σ H _ I h) λv s1 ⟨x,H1,I1,r1,q1⟩=>ck (hb Qg s1 σ H1 _ I1 q1) λu s2 ⟨y,H2,I2,r2,q2⟩ =>
  ck (ho Qg s2 σ H2 x y v u _ I2 r1 r2 q2) λc s3 ⟨z,H3,I3,r3,k,e,q3⟩=>?_) hm
 subst e;cases r3;exact Xc ⟨H3,I3,q3⟩
def BJ(r r':R2)(ta tb tc:TE):TE:=fun σ H Q=>ta σ H λx H1=>tb σ H1 λy H2=>r x y H2 λz H3=>∃k,z=.bl k ∧
 (if k=true then tc σ H3 λw' H4=>r' y w' H4 Q else Q (.bl false) H3)
def Bo{T3:CmpOp}{r':R2}(ho:gQ X (compareOp op) r)(R9:gQ X (compareOp T3) r')(ha:PE X a ta)(hb:PE X b tb)(hc:PE X c tc)(hm:autoParam (lastMarks [op,T3] [b,c]=false) aU._auto_1):PE X (.Compare a [op,T3] [b,c] pos) (BJ r r' ta tb tc):=by
 intro Qg s σ H Q I h;refine Compare_chain (ck (ha Qg s σ H _ I h) λv s1 ⟨x,H1,I1,r1,q1⟩=>chain_link (ck (hb Qg s1 σ H1 _ I1 q1) λu s2 ⟨y,H2,I2,r2,q2⟩ =>
  ck (ho Qg s2 σ H2 x y v u _ I2 r1 r2 q2) λd s3 ⟨z,H3,I3,r3,k,e,q3⟩=>?_)) hm
 subst e;cases r3;refine Xc ?_;cases k with
 | false=>exact ite_ff ⟨.bl false,H3,I3,rfl,q3⟩
 |true=>exact ite_tt (chain_last (ck (hc Qg s3 σ H3 _ I3 q3) λw' s4 ⟨z',H4,I4,r4,q4⟩=>R9 Qg s4 σ H4 y z' u w' Q I4 r2 r4 q4))
def k4:(sizeLine:Nat)<2^63:=by rw[sizeLine_eq];decide
def xK:gQ X (binaryOp .Add) (λx y H Q=>∃i j,x=.str i/\y=.str j/\i.length+j.length<=sizeLine/\Q (.str (i++j)) H):=by
 intro Qg s σ H x y v u Q I rx ry h;obtain⟨i,j,rfl,rfl,hz,q⟩:=h;obtain⟨t,rfl⟩:=rx;obtain⟨t',rfl⟩:=ry;exact add_str (λt' tk=>⟨.str (i++j),H,I.tok _,⟨_,rfl⟩,q⟩) hz
def vals1{x:V}(r:Vals [x] us):∃u,us=[u]/\RelV x u:=by
 cases r with
 |cons r1 r2=>cases r2;exact⟨_,rfl,r1⟩
def vals2{x y:V}(r:Vals [x,y] us):∃u w',us=[u,w']/\RelV x u/\RelV y w':=by
 cases r with
 | cons r1 r2 =>
  cases r2 with
  |cons r3 r4=>cases r4;exact⟨_,_,rfl,r1,r3⟩
def AU(hc:X.calm=true):du X (.builtin "max") (λxs H Q=>∃i j,xs=[.int i,.int j]/\Q (.int (if j>i then j else i)) H):=by
 intro Qg s σ H xs us Q I r h;obtain⟨i,j,rfl,q⟩:=h;obtain⟨u,w',rfl,⟨t,rfl⟩,⟨t',rfl⟩⟩:=vals2 r;refine max_two_ints (I.ok.hd hc) λh' tk k=>⟨_,H,I.kept k,?_,q⟩
 by_cases hj:j>i
 .rw[if_pos hj,if_pos hj];exact⟨_,rfl⟩
 .rw[if_neg hj,if_neg hj];exact⟨_,rfl⟩
def sW(hc:X.calm=true):du X (.builtin "min") (λxs H Q=>∃i j,xs=[.int i,.int j]/\Q (.int (if j<i then j else i)) H):=by
 intro Qg s σ H xs us Q I r h;obtain⟨i,j,rfl,q⟩:=h;obtain⟨u,w',rfl,⟨t,rfl⟩,⟨t',rfl⟩⟩:=vals2 r;refine min_two_ints (I.ok.hd hc) λh' tk k=>⟨_,H,I.kept k,?_,q⟩
 by_cases hj:j<i
 .rw[if_pos hj,if_pos hj];exact⟨_,rfl⟩
 .rw[if_neg hj,if_neg hj];exact⟨_,rfl⟩
end
structure xX (h:Heap) (x dx C:Addr) (mA:Str->Option Value):Prop where
 obj:h.get? x=some (Xf C dx)
 ns:h.Ns1 dx mA
 ne:dx≠x
variable{mA:Str->Option Value}{dx:Addr}
def mL(n:h.Ns1 dx mA):∃od,h.get? dx=some od/\∀name,YO name od=some (mA name):=by
 obtain⟨o,es,ep,ho,hd,hk,_,hm⟩:=n;refine⟨o,ho,λname=>?_⟩;have e:=hm name;unfold nsFind findBy at e;rw[<- abG] at e;unfold YO;rw[hd];dsimp only
 split
 .rename_i y q;rw[q] at e;exact congrArg some e
 .rename_i q;rw[q] at e;have a:es.toList.any (·.refKey)=false:=by
   rw[List.any_eq_false];intro y hy;obtain⟨z,t,RR⟩:=hk y (Array.mem_toList_iff.mp hy);simp[DictEntry.refKey,RR]
  have a':¬ es.toList.any (·.refKey)=true:=by rw[a];exact VD
  rw[if_neg a'];exact congrArg some e
variable{C:Addr}
def xX.look{x:Addr}(I:xX h x dx C mA):∃od,XS h x (Xf C dx) C (some od)/\∀name,YO name od=some (mA name) :=
 let ⟨od,ho,hl⟩:=mL I.ns
 ⟨od,⟨I.obj,rfl,rfl,ho⟩,hl⟩
variable{prog:Program}
variable{pl:Sem Bool}
variable{kw:List (Str×Value)}
section
variable{K:UU}{x f:Addr}{name:Str}{v:Value}
def get_map{expr:Bool}(X:K.In s.heap)(I:xX s.heap x dx C mA)(hg:Zc K C name=true)(hh:YQ K C=true)(ha:VY K (.ref C) name=some none)(hv:mA name=some v)(Tp:acm v=true)(h:Q v { s with toks:=s.toks+1 }):wpAny ↑11 A (getAttr (.ref x) name expr) Q E s:=by
 obtain⟨od,J,hl⟩:=I.look;exact PySem.W.get_value X J (ZI hg).1 (PySem.W.findObj_own hh ha rfl (by rw[hl,hv])) Tp h
def Cw{Q:Value×List Value->Shared->Prop}(X:K.In s.heap)(I:xX s.heap x dx C mA)(hg:Zc K C name=true)(hf:VY K (.ref C) name=some (some (.ref f)))(ht:Yn K (.ref f)=true)(hv:mA name=none)(h:Q (.ref f,[.ref x]) s):wpAny ↑11 A (getMethod (.ref x) name pl) Q E s:=by
 obtain⟨od,J,hl⟩:=I.look;exact PySem.W.method_fn X J (ZI hg).1 (ZI hg).2 hf (beq_iff_eq.mp ht) (by show (YO name od).map (·.isSome)=some false;rw[hl,hv];rfl) h
theorem GI{ns:List Str}{Q:Unit->Shared->Prop}(X:K.In s.heap)(I:xX s.heap x dx C mA)(hs:VY K (.ref C) "__setattr__"=some (some (.builtin "object.__setattr__")))(hp:abW K C=true)(ht:YB K C name=some none)(hh:YQ K C=true)(hw:abU mA ns)(hsz:ns.length<=sizeLine)(h:∀h',xX h' x dx C (λy=>if y=name then some v else mA y)->XE dx s.heap h'->Q () { s with heap:=h',toks:=s.toks+2 }):wpAny ↑11 A (setAttr (.ref x) name v) Q E s:=by
 obtain⟨od,J,hl⟩:=I.look;refine abX X J hs (PySem.W.osa_open (s:={ s with toks:=s.toks+1 }) (r:=none) X J hp ht λb=>?_);obtain⟨cd,hc,Um⟩:=XT hh;have hx:s.heap.get? x=some ⟨.ref C,some dx,.plain,#[]⟩:=I.obj;refine TR (UX (TR (TR (YR hx (TR (abH (s:={ s with toks:=s.toks+1 }) (ZJ X hc) ?_))))));rw[Um];refine UX (a:=some dx) (TR (UX (TR ?_)));refine wpAny_nsSet1 (s:={ s with toks:=s.toks+1 }) I.ns λh' SE Rx=>?_;obtain⟨oD,esD,epD,hoD,hdD,SQ⟩:=SE.count (abY name v hw);refine TR (wpAny_lookBehind hoD (by rw[hdD];exact pastItsLine_dict (VM SQ (by rw[Vw];lia))) ?_);exact UX (h _ ⟨(Rx.2 _ (W5 I.ne)).trans I.obj,SE,I.ne⟩ Rx)
def Eh{R:Result->Shared->Prop}{vs:List Value}(X:K.In s.heap)(hm:acN K C=true)(hi:VY K (.ref C) "__init__"=some (some (.ref f)))(hf:Yc K (.ref f)=some (.type "function"))(h:codeAny ↑11 (A.under (.builtin "type.__call__" ⟨.ref C::vs,kw⟩)) (.call (.ref f) ⟨.ref (s.heap.objs.size+1)::vs,kw⟩) (PySem.W.InitBack (s.heap.objs.size+1) R) { s with heap:=(s.heap.push Ww).push (Xf C s.heap.objs.size) }):codeAny ↑11 A (.call (.ref C) ⟨vs,kw⟩) R s:=by
 obtain⟨hh,g,d,t,os⟩:=s;exact PySem.W.make_core (PySem.W.makes_of X hm) (Yd X hi) (λself=>acO X self hf) (.inl rfl) h
end
noncomputable def jH(f:Str)(v:V):List (Str×V)->List (Str×V)
 | []=>[(f,v)]
 |(g,x)::r=>if g=f then (g,v)::r else (g,x)::jH f v r
theorem nN(f g:Str)(v:V):∀fs:List (Str×V),(jH f v fs).lookup g=if g=f then some v else fs.lookup g
 | []=>by
  show XF g [(f,v)]=_
  by_cases h:g=f
  .have hb:(g==f)=true:=beq_iff_eq.mpr h;simp only[XF,hb,if_pos h]
  .have hb:(g==f)=false:=beq_eq_false_iff_ne.mpr h;simp only[XF,hb,if_neg h]
 | (k,x)::r=>by
  have ih:=nN f g v r;rw[show jH f v ((k,x)::r)=(if k=f then (k,v)::r else (k,x)::jH f v r) from rfl]
  by_cases hk:k=f
  .rw[if_pos hk]
   by_cases h:g=k
   .have hb:(g==k)=true:=beq_iff_eq.mpr h;simp only[XF,hb,if_pos (h.trans hk)]
   .have hb:(g==k)=false:=beq_eq_false_iff_ne.mpr h;simp only[XF,hb,if_neg (λe:g=f=>h (e.trans hk.symm))]
  .rw[if_neg hk]
   by_cases h:g=k
   .have hb:(g==k)=true:=beq_iff_eq.mpr h;simp only[XF,hb,if_neg (λe:g=f=>hk (h.symm.trans e))]
   .have hb:(g==k)=false:=beq_eq_false_iff_ne.mpr h;simp only[XF,hb];exact ih
theorem mT(f:Str)(v:V):∀fs:List (Str×V),f∈(jH f v fs).map (·.1)/\∀g,g∈fs.map (·.1)->g∈(jH f v fs).map (·.1)
 | []=>⟨by simp[jH],λg h=>by simp at h⟩
 | (k,x)::r=>by
  obtain⟨i1,i2⟩:=mT f v r;rw[show jH f v ((k,x)::r)=(if k=f then (k,v)::r else (k,x)::jH f v r) from rfl]
  by_cases hk:k=f
  .rw[if_pos hk];subst hk;exact⟨by simp,λg h=>by simpa using h⟩
  .rw[if_neg hk];refine⟨?_,λg h=>?_⟩
   .rw[Vg];exact Vm _ i1
   .rw[Vg] at h ⊢;rcases U9.mp h with e|e
    .exact U9.mpr (.inl e)
    .exact Vm _ (i2 g e)
theorem nQ(f:Str)(v:V):∀fs:List (Str×V),(jH f v fs).length<=fs.length+1
 | []=>by simp[jH]
 | (k,x)::r=>by
  have ih:=nQ f v r;rw[show jH f v ((k,x)::r)=(if k=f then (k,v)::r else (k,x)::jH f v r) from rfl]
  by_cases hk:k=f
  .rw[if_pos hk,Vw,Vw];lia
  .rw[if_neg hk,Vw,Vw];lia
def j9.some_of{o:Option Value}(r:j9 (some v) o):∃u,o=some u/\RelV v u:=by
 cases o with
 | none=>exact(show False from r).elim
 |some u=>exact⟨u,rfl,r⟩
def j9.none_of{o:Option Value}(r:j9 none o):o=none:=by
 cases o with
 | none=>rfl
 |some u=>exact(show False from r).elim
def zp(r:RelV v u):acm u=true:=by
 cases v with
 | c8=>cases (show u=VC from r);rfl
 | bl b=>cases (show u=Xq b from r);rfl
 | int i=>obtain⟨t,e⟩:=(show ∃t,u=Zb i t from r);cases e;rfl
 | str x=>obtain⟨t,e⟩:=(show ∃t,u=ZX x t from r);cases e;rfl
 | byt b=>obtain⟨t,e⟩:=(show ∃t,u=Value.bytes b t from r);cases e;rfl
 | HL b=>obtain⟨t,e⟩:=(show ∃t,u=abk b t from r);cases e;rfl
 | ref a=>cases (show u=U5 a from r);rfl
 |ty n=>cases (show u=Wm n from r);rfl
section
variable{a:Addr}{fs fs':List (Str×V)}
def mE(bq:kS P w H h)(e:H a=some (.ins C dx fs)):∃mA,xX h a dx C mA/\(∀f,j9 (fs.lookup f) (mA f))/\abU mA (fs.map (·.1))/\fs.length<=1000/\H dx=some (.own a):=by
 obtain⟨d,z,ne,ob,mA,n,r,q⟩:=(show bw P w H h a (.ins C dx fs) from bq a _ e)
 exact⟨mA,⟨ob,n,ne⟩,r,q,z,d⟩
end
structure mF (K:UU) (C:Addr):Prop where
 pg:Zc K C Str.empty=true
 hd:YQ K C=true
 po:abW K C=true
 sa:VY K (.ref C) "__setattr__"=some (some (.builtin "object.__setattr__"))
def mF.get{K:UU}(c:mF K C)(f:Str):Zc K C f=true:=c.pg
def bR(K:UU)(C:Addr)(f:Str):Prop:=VY K (.ref C) f=some none
def bR.Hz{K:UU}{f:Str}(n:bR K C f):YB K C f=some none:=by
 unfold YB;rw[show VY K (.ref C) f=some none from n];rfl
structure Meth (K:UU) (C:Addr) (m:Str) (f:Addr):Prop where
 at_:VY K (.ref C) m=some (some (.ref f))
 fn:Yn K (.ref f)=true
 kp:V4 K (.ref f)=true
variable{m:Str}
section
variable{a:Addr}{fs:List (Str×V)}{f:Str}
def x9{b:Bool}(I:Inv X Qg σ H s)(e:H a=some (.ins C dx fs))(c:mF X.K C)(n:bR X.K C f)(l:fs.lookup f=some v)(h:∀u s',Inv X Qg σ H s'->RelV v u->Q u s'):wpAny ↑8 A (getAttr (.ref a) f b) Q E s:=by
 obtain⟨mA,O,r,_,_,_⟩:=mE I.bq e;obtain⟨u,hu,ru⟩:=j9.some_of (v:=v) (o:=mA f) (by rw[<- l];exact r f);exact get_map I.jG O (c.get f) c.hd n hu (zp ru) (h u _ (I.tok _) ru)
def pj{g:Addr}{Q:Value×List Value->Shared->Prop}(I:Inv X Qg σ H s)(e:H a=some (.ins C dx fs))(c:mF X.K C)(k:Meth X.K C m g)(l:fs.lookup m=none)(h:Q (.ref g,[.ref a]) s):wpAny ↑8 A (getMethod (.ref a) m pl) Q E s:=by
 obtain⟨mA,O,r,_,_,_⟩:=mE I.bq e;have hn:mA m=none:=j9.none_of (by rw[<- l];exact r m);exact Cw I.jG O (c.get m) k.at_ k.fn hn h
theorem w5{y:V}{Q:Unit->Shared->Prop}(I:Inv X Qg σ H s)(e:H a=some (.ins C dx fs))(c:mF X.K C)(n:bR X.K C f)(hl:fs.length<1000)(ry:RelV y u)(h:∀s',Inv X Qg σ (upd H a (.ins C dx (jH f y fs))) s'->Q () s'):wpAny ↑8 A (setAttr (.ref a) f u) Q E s:=by
 obtain⟨mA,O,r,wi,_,ho⟩:=mE I.bq e;have hz:(fs.map (·.1)).length<=sizeLine:=by rw[U0,sizeLine_eq];lia
 refine GI I.jG O c.sa c.po n.Hz c.hd wi hz λh' O' sb=>h _ ?_;have hd:∃o,h'.get? dx=some o:=let ⟨o,_,_,e',_⟩:=O'.ns;⟨o,e'⟩
 refine I.write (x:=a) (e:=dx) (by rw[e];exact Wn) (.inr ho) (λb q hb z=>(sb.2 b hb).trans z) hd ?_;refine⟨by rwa[au O.ne],?_,O.ne,O'.obj,_,O'.ns,λg=>?_,λg hg=>?_⟩
 .have:=nQ f y fs;lia
 .show j9 ((jH f y fs).lookup g) (if g=f then some u else mA g);rw[nN]
  by_cases q:g=f
  .rw[if_pos q,if_pos q];exact ry
  .rw[if_neg q,if_neg q];exact r g
 .by_cases q:g=f
  .rw[q];exact(mT f y fs).1
  .refine(mT f y fs).2 g (wi g λz=>hg ?_);show (if g=f then some u else mA g)=none;rwa[if_neg q]
def Inv.made(I:Inv X Qg σ H s):Inv X Qg σ (upd (upd H s.heap.objs.size (.own (s.heap.objs.size+1))) (s.heap.objs.size+1) (.ins C s.heap.objs.size [])) { s with heap:=(s.heap.push Ww).push (Xf C s.heap.objs.size) }:=by
 have e1:(s.heap.push Ww).get? s.heap.objs.size=some Ww:=U1 s.heap rfl;have e2:((s.heap.push Ww).push (Xf C s.heap.objs.size)).get? (s.heap.objs.size+1)=some (Xf C s.heap.objs.size):=by
  have:=U1 (s.heap.push Ww) (o:=Xf C s.heap.objs.size) rfl
  rwa [VN] at this
 have e3:(s.heap.push Ww).Ns s.heap.objs.size (λ_=>none):=⟨Ww,#[],_,e1,rfl,(λe he=>absurd he ↑13),λ_=>rfl⟩
 have I1:=I.laid (a:=s.heap.objs.size) (o:=.own (s.heap.objs.size+1)) (h':=s.heap.push Ww) (t':=s.toks) (λb u q=>UT _ q) (UZ _) ⟨_,e1⟩;refine I1.laid (a:=s.heap.objs.size+1) (o:=.ins C s.heap.objs.size []) (t':=s.toks) (λb u q=>UT _ q) (aaD (VN _ _)) ?_;have ne:s.heap.objs.size≠s.heap.objs.size+1:=Vh (WZ _);refine⟨by rw[au ne,av],Va _,ne,e2,λ_=>none,(abZ e3).at λo q=>UT _ q,λ_=>Wn,λy hy=>absurd rfl hy⟩
def E5{env:Env}{f:Str}{pos:Pos}(hb:attributeBase e f env (eval e env)=eval e env)(h:wpAny ↑11 A (eval e env) (λo s₁=>wpAny ↑11 A (getAttr o f true) Q E s₁) E s):wpAny ↑11 A (eval (.Attribute e f pos) env) Q E s :=
 Attribute_any_ h (by rw[arm_eval_Attribute,hb])
end
def Ox(K:UU)(ta:TE)(f:Str):TE:=fun σ H Q=>ta σ H λx H1=>∃a C dx fs v,x=.ref a/\H1 a=some (.ins C dx fs)/\mF K C/\bR K C f/\fs.lookup f=some v/\Q v H1
def OC(K:UU)(ta tv:TE)(f:Str):TS:=λD σ H=>tv σ H λy H1=>ta σ H1 λx H2=>∃a C dx fs,x=.ref a/\H2 a=some (.ins C dx fs)/\mF K C/\bR K C f/\fs.length<1000 ∧
 D.nx σ (upd H2 a (.ins C dx (jH f y fs)))
section
variable{o value:Expr}{f:Str}{pos pos' Te:Pos}{tv:TE}
def Ji(he:PE X e ta)(hb:attributeBase e f X.env (eval e X.env)=eval e X.env):PE X (.Attribute e f pos) (Ox X.K ta f):=by
 intro Qg s σ H Q I h;refine E5 hb (ck (he Qg s σ H _ I h) λu s1 ⟨x,H1,I1,rx,a,C,dx,fs,v,ex,ea,c,n,l,q⟩=>?_);subst ex;obtain rfl:u=U5 a:=rx;exact x9 I1 ea c n l λu' s2 I2 ru=>⟨v,H1,I2,ru,q⟩
def J9(ha:PE X o ta)(hv:PE X value tv)(hs:swapsWith value (some (.Attribute o f pos')) pos.line X.env=pure false):PS X (.Assign [.Attribute o f pos'] value pos) (OC X.K ta tv f):=by
 intro Qg s σ H D I h;refine Y9 (ck (hv Qg s σ H _ I h) λu s1 ⟨y,H1,I1,ry,q⟩=>ck (ha Qg s1 σ H1 _ I1 q) λov s2 ⟨x,H2,I2,rx,a,C,dx,fs,ex,ea,c,n,l,q2⟩=>?_) hs;subst ex;obtain rfl:ov=U5 a:=rx;exact w5 I2 ea c n l ry λs3 I3=>⟨σ,_,I3,q2⟩
end
section
variable{c:Value}{b:Bool}
inductive j8 (K:UU) (H:Hp):V->Value->Prop where
 | c8:j8 K H .c8 (.type "NoneType")
 | bl (x:Bool):j8 K H (.bl x) (.type "bool")
 | int (i:Int):j8 K H (.int i) (.type "int")
 | str (x:Str):j8 K H (.str x) (.type "str")
 | HL (x:UInt64):j8 K H (.HL x) (.type "float")
 | lst {a:Addr} {xs:List V} (e:H a=some (.lst xs)):j8 K H (.ref a) (.type "list")
 | kX {a:Addr} {o:Obj} {xs:List V} (e:H a=some (.kX o (.lst xs))):j8 K H (.ref a) (.type "list")
 | tup {a:Addr} {xs:List V} (e:H a=some (.tup xs)):j8 K H (.ref a) (.type "tuple")
 | dK {a:Addr} {Qk:List (Key×V)} (e:H a=some (.dK Qk)):j8 K H (.ref a) (.type "dict")
 | dT {a:Addr} {Qk:List (List Key×V)} (e:H a=some (.dT Qk)):j8 K H (.ref a) (.type "dict")
 | ins {a C dx:Addr} {fs:List (Str×V)} (e:H a=some (.ins C dx fs)) (cl:mF K C) (ha:VY K (.ref C) "__class__"=some (some (.builtin "object.__class__")))
   (hn:YS K (.builtin "object.__class__") "__get__"=some (some (.builtin "getset_descriptor.__get__"))) (LG:Zy K (.builtin "object.__class__")=some true)
   (hm:aao K C (.type "object")=some true):j8 K H (.ref a) (.ref C)
def AI{x:V}{t:Value}(I:Inv X Qg σ H s)(rx:RelV x u)(ty:j8 X.K H x t)(e:W9 X.K t c=some b)(h:∀tk,Q (.bool b) { s with toks:=tk }):wpAny ↑8 A (call (.builtin "isinstance") [u,c]) Q E s:=by
 cases ty with
 | c8=>cases (show u=VC from rx);exact Wc ab0 I.jG Wn e (λz=>nomatch z) h
 | bl y=>cases (show u=Xq y from rx);exact Wc ab1 I.jG Wn e (λz=>nomatch z) h
 | int i=>obtain⟨t,q⟩:=(show ∃t,u=Zb i t from rx);cases q;exact Wc acn I.jG Wn e (λz=>nomatch z) h
 | str y=>obtain⟨t,q⟩:=(show ∃t,u=ZX y t from rx);cases q;exact Wc aco I.jG Wn e (λz=>nomatch z) h
 | HL y=>obtain⟨t,q⟩:=(show ∃t,u=abk y t from rx);cases q;exact Wc abI I.jG Wn e (λz=>nomatch z) h
 | @lst a xs ea =>
  cases (show u=U5 a from rx);obtain⟨_,_,n,_,h1⟩:=(show bw X.prog X.w H s.heap a (.lst xs) from I.bq a _ ea)
  exact Wc YT I.jG ⟨_,h1,rfl⟩ e (λz=>nomatch z) h
 | @kX a ob xs ea =>
  cases (show u=U5 a from rx);obtain⟨_,_,_,n,_,h1⟩:=(show bw X.prog X.w H s.heap a (.kX ob (.lst xs)) from I.bq a _ ea)
  exact Wc YT I.jG ⟨_,h1,rfl⟩ e (λz=>nomatch z) h
 | @tup a xs ea =>
  cases (show u=U5 a from rx);obtain⟨_,_,_,p⟩:=(show bw X.prog X.w H s.heap a (.tup xs) from I.bq a _ ea)
  obtain⟨o,h1,h2,_⟩:=p;exact Wc abJ I.jG ⟨o,h1,h2⟩ e (λz=>nomatch z) h
 | @dK a Qk ea =>
  cases (show u=U5 a from rx);obtain⟨_,_,vs,_,p⟩:=(show bw X.prog X.w H s.heap a (.dK Qk) from I.bq a _ ea)
  obtain⟨o,es,ep,h1,h2,_⟩:=p;exact Wc YU I.jG ⟨o,h1,h2.1⟩ e (λz=>nomatch z) h
 | @dT a Qk ea =>
  cases (show u=U5 a from rx);obtain⟨_,_,xs,_,o,es,ep,h1,h2,_⟩:=(show bw X.prog X.w H s.heap a (.dT Qk) from I.bq a _ ea)
  exact Wc YU I.jG ⟨o,h1,h2.1⟩ e (λz=>nomatch z) h
 | @ins a C dx fs ea cl ha hn LG hm =>
  cases (show u=U5 a from rx);obtain⟨mA,O,_⟩:=mE I.bq ea;obtain⟨od,J,_⟩:=O.look;exact Wc (acp (cl.get _) cl.hd ha hn LG hm) I.jG J e (λz=>nomatch z) h
end
structure bO (k:Nat) (A:Around):Prop where
 hd:A.handled=none
 dp:A.depth+3*k+5<recursionLimit
 un:A.units+16*k+200<cLine
theorem bO.mono{j:Nat}(r:bO k A)(h:j<=k):bO j A:=⟨r.hd,by have:=r.dp;lia,by have:=r.un;lia⟩
theorem bO.deeper{k:Nat}{A:Around}(r:bO (k+1) A)(env:Env):bO k (A.deeper env) :=
 ⟨r.hd,by have:=r.dp;show A.depth+1+3*k+5<_;lia,by have:=r.un;show A.units+3+16*k+200<_;lia⟩
def xx:(A.under (.builtin "type.__call__" ⟨.ref C::us,kw⟩)).depth=A.depth+1:=by
 first|rfl|simp[ab2,Code.weight,Code.isCreation,Code.isGuard,Code.isCaller,Code.frames,ab3,guardIds]
def xD:(A.under (.builtin "type.__call__" ⟨.ref C::us,kw⟩)).units=A.units+1:=by
 first|rfl|simp[ab2,Code.cUnits,Code.frames,ab3]
theorem bO.make(r:bO (k+1) A)(C:Addr)(us:List Value)(kw:List (Str×Value)):bO k (A.under (.builtin "type.__call__" ⟨.ref C::us,kw⟩)) :=
 ⟨r.hd,by have:=r.dp;rw[xx];lia,by have:=r.un;rw[xD];lia⟩
theorem bO.depth{k:Nat}{A:Around}(r:bO k A):A.depth<recursionLimit:=by have:=r.dp;lia
theorem bO.units{k:Nat}{A:Around}(r:bO k A):A.units+64<cLine:=by have:=r.un;lia
theorem bO.Iw(r:bO k A):A.units<cLine:=by have:=r.un;lia
def Na:TA:=λ_ H Q=>Q [] H
def MB(ta:TE)(tr:TA):TA:=fun σ H Q=>ta σ H λx H1=>tr σ H1 λxs H2=>Q (x::xs) H2
section
variable{t:TA}{pos:Pos}
def lE:PA X [] Na:=λ_ _ _ _ H Q I h=>Calls.spliced_nil ⟨[],H,I,.nil,h⟩
def fq(ha:PE X e te)(hr:PA X es t)(hs:autoParam ↑0 aR._auto_1):PA X (e::es) (MB te t):=by
 intro pos Qg s σ H Q I h;rw[hs];show wpAny _ _ (spliced ((false,eval e X.env)::backTo pos (starEach es X.env))) _ _ s;refine Calls.spliced_cons (ck (ha Qg s σ H _ I h) λu s1 ⟨x,H1,I1,r1,q1⟩=>?_);exact ck (hr pos Qg s1 σ H1 _ I1 q1) λus s2 ⟨xs,H2,I2,r2,q2⟩=>⟨x::xs,H2,I2,.cons r1 r2,q2⟩
def OW(t:TA):TE:=fun σ H Q=>t σ H λxs H1=>xs.length<=sizeLine/\∀p,H1 p=none->Q (.ref p) (upd H1 p (.tup xs))
def O9(t:TA):TE:=fun σ H Q=>t σ H λxs H1=>xs.length<=sizeLine/\∀p,H1 p=none->Q (.ref p) (upd H1 p (.lst xs))
def DV{x1}(h:PA X es t):PE X (.Tuple es x1 pos) (OW t):=by
 intro Qg s σ H Q I hq;refine wpAny_Tuple_spliced (ck (h pos Qg s σ H _ I hq) λus s1 ⟨xs,H1,I1,r,z,q⟩=>⟨by rwa[<- r.length],?_⟩);have hf:H1 s1.heap.objs.size=none:=I1.bq.fresh (UZ _);refine⟨.ref s1.heap.objs.size,upd H1 s1.heap.objs.size (.tup xs),I1.laid (t':=s1.toks) (λb u e=>UT _ e) (UZ _) ?_,rfl,q _ hf⟩;exact⟨z,us,r,⟨_,U1 _ rfl,rfl,_,rfl⟩⟩
def Cc(h:PA X es t):PE X (.List es pos) (O9 t):=by
 intro Qg s σ H Q I hq;refine wpAny_List_spliced (ck (h pos Qg s σ H _ I hq) λus s1 ⟨xs,H1,I1,r,z,q⟩=>⟨by rwa[<- r.length],?_⟩);have hf:H1 s1.heap.objs.size=none:=I1.bq.fresh (UZ _);refine⟨.ref s1.heap.objs.size,upd H1 s1.heap.objs.size (.lst xs),I1.laid (t':=s1.toks) (λb u e=>UT _ e) (UZ _) ?_,rfl,q _ hf⟩;exact⟨z,us,0,r,U1 _ rfl⟩
end
abbrev Sp:=List V->Hp->VK->XK->Prop
abbrev LB:=List Env->Hp->Shared->XK->Value->Shared->Prop
structure xk (P:Program) (w:World) (K:UU) (mg:Str->Option Value) (base:Heap) (A:Around) (outer:List Env) (s:Shared) (H:Hp):Prop where
 frames:A.frames=some outer
 mod:Mod K mg base
 bs:∀b o,base.get? b=some o->s.heap.get? b=some o/\H b=none
 Ee:base.objs.size<=s.heap.objs.size
 lu:s.heap.FunFrames base outer
 EO:∀b∈wU outer,H b=none
 bq:kS P w H s.heap
 bare:AllBare s.gens
def CE(outer:List Env)(P:Program)(w:World)(H:Hp)(s:Shared)(Q:VK)(u:Value)(s':Shared):Prop :=
 ∃v H',s'.os=s.os/\AllBare s'.gens/\Un (wU outer) [] H H' s.heap s'.heap/\kS P w H' s'.heap/\RelV v u/\Q v H'
def CR(CX:LB)(outer:List Env)(P:Program)(w:World)(H:Hp)(s:Shared)(Q:VK)(E:XK)(r:Result)(s':Shared):Prop :=
 match r with
 | .ok (.ret u)=>CE outer P w H s Q u s'
 | .ok _=>False
 |.error e=>CX outer H s E e s'
structure aV (P:Program) (w:World) (K:UU) (mg:Str->Option Value) (base:Heap) (CX:LB) (k:Nat) (f:Addr) (fd:FuncData) (ps:List Str) (sp:Sp):Prop where
 len:∀vs H Q E,sp vs H Q E->vs.length=ps.length
 run:∀(A:Around)(outer:List Env)(s:Shared)(H:Hp)(args:Args)(us:List Value)(vs:List V)(Q:VK)(E:XK),bO k A->xk P w K mg base A outer s H->BindsTo s fd args (ps.zip us)->Vals vs us->sp vs H Q E ->
  codeAny (model P w) A (.call (.ref f) args) (CR CX outer P w H s Q E) s
variable{outer:List Env}{base:Heap}{mg:Str->Option Value}
def xk.make{K:UU}(e:xk P w K mg base A outer s H)(C:Addr)(us:List Value)(kw:List (Str×Value)):xk P w K mg base (A.under (.builtin "type.__call__" ⟨.ref C::us,kw⟩)) outer s H:=⟨by first|exact e.frames|(simpa [ab2,Code.envs,ab3,pushEnvs] using e.frames),e.mod,e.bs,e.Ee,e.lu,e.EO,e.bq,e.bare⟩
section
variable{s':Shared}
def Inv.gU(I:Inv X Qg σ H s):xk X.prog X.w X.K X.mg X.base X.A X.stack s H :=
 ⟨I.ok.frames,I.ok.mod,I.bs,VM I.ok.Ee I.sz,I.stack,I.tW,I.bq,I.bare⟩
def Inv.after{Q:VK}(I:Inv X Qg σ H s)(h:CE X.stack X.prog X.w H s Q u s'):EP X Qg σ Q u s':=by
 obtain⟨v,H',os,bare,un,bq,r,q⟩:=h;obtain⟨hh,g,d,t,os'⟩:=s';obtain rfl:os'=s.os:=os;exact⟨v,H',I.call (h':=hh) (g':=g) (d':=d) (t':=t) (ch:=[]) un bq bare (λb z=>absurd z ↑13),r,q⟩
end
def Binds(K:UU)(fd:FuncData)(ps:List Str)(ds:List Value):Prop :=
 ∀(s:Shared)(us:List Value),K.In s.heap->(us++ds).length=ps.length->BindsTo s fd ⟨us,[]⟩ (ps.zip (us++ds))
variable{ps:List Str}{fd:FuncData}
def Binds.all{K:UU}(h:∀us:List Value,us.length=ps.length->bindArgs fd ⟨us,[]⟩=pure (ps.zip us)):Binds K fd ps []:=λs us _ hl=>by
 rw[VT] at hl ⊢;exact .of_eq (h us hl)
variable{sp:Sp}{CX:LB}
section
variable{f:Addr}{Q0:List V}{ds:List Value}{E:XK}{pos apos:Pos}{o:Expr}{t:TA}
structure Mk (K:UU) (C f:Addr):Prop where
 makes:acN K C=true
 init:VY K (.ref C) "__init__"=some (some (.ref f))
 fn:Yn K (.ref f)=true
 kp:V4 K (.ref C)=true
end
section
variable{f:Addr}{ks:List Str}{E:XK}{pos apos kpos:Pos}{o:Expr}{kws:List Keyword}{t tk:TA}{nm:Option Str}
variable{g:List Value->List Value->List Value}{gV:List V->List V->List V}
end
structure bS (N P:List Str) (sc:Scope):Prop where
 kind:sc.kind=.function
 co:sc.isCoroutine=false
 gen:sc.isGenerator=false
 nd:N.Nodup
 pre:N.take P.length=P
 par:∀x∈P,sc.names.lookup x=some .local\/sc.names.lookup x=some .cell
 JI:∀y∈sc.names,y.2≠.free
theorem tK{kindOf:Str->Option NameKind}{x:Str}:∀{binds:List (Str×Value)}{m:Str->Option Value},(∀v,(x,v) ∉ binds)->bindL kindOf binds m x=m x
 | [],_,_=>rfl
 | (n,v)::r,m,h=>by
  unfold bindL;rw[tK λw hw=>h w (Vm _ hw)]
  split
  .have:x≠n:=by rintro rfl;exact h v VA
   simp[this]
  .rfl
theorem sy{kindOf:Str->Option NameKind}{x:Str}:∀{binds:List (Str×Value)}{m:Str->Option Value},(∀v,(x,v) ∉ binds)->bindC kindOf binds m x=m x
 | [],_,_=>rfl
 | (n,v)::r,m,h=>by
  unfold bindC;rw[sy λw hw=>h w (Vm _ hw)]
  split
  .rfl
  .have:x≠n:=by rintro rfl;exact h v VA
   simp[this]
theorem s_{kindOf:Str->Option NameKind}{x:Str}{v:Value}:∀{P:List Str}{vs:List Value}{i:Nat}{m:Str->Option Value},P.Nodup->P[i]?=some x->vs[i]?=some v->kindOf x=some .local ->bindL kindOf (P.zip vs) m x=some v
 | [],_,_,_,_,h,_,_=>by simp at h
 | _::_,[],_,_,_,_,h,_=>by simp at h
 | p::P,w::vs,0,m,nd,h1,h2,hk=>by
  simp at h1 h2;subst h1;subst h2;show bindL kindOf ((p,w)::P.zip vs) m p=_;unfold bindL;rw[tK λv hv=>(YC.mp nd).1 (WU hv).1,if_pos hk];simp
 | p::P,w::vs,i+1,m,nd,h1,h2,hk=>by
  show bindL kindOf ((p,w)::P.zip vs) m x=_;unfold bindL;exact s_ (i:=i) (YC.mp nd).2 (by simpa using h1) (by simpa using h2) hk
theorem sV{kindOf:Str->Option NameKind}{x:Str}{v:Value}:∀{P:List Str}{vs:List Value}{i:Nat}{m:Str->Option Value},P.Nodup->P[i]?=some x->vs[i]?=some v->kindOf x≠some .local ->bindC kindOf (P.zip vs) m x=some v
 | [],_,_,_,_,h,_,_=>by simp at h
 | _::_,[],_,_,_,_,h,_=>by simp at h
 | p::P,w::vs,0,m,nd,h1,h2,hk=>by
  simp at h1 h2;subst h1;subst h2;show bindC kindOf ((p,w)::P.zip vs) m p=_;unfold bindC;rw[sy λv hv=>(YC.mp nd).1 (WU hv).1,if_neg hk];simp
 | p::P,w::vs,i+1,m,nd,h1,h2,hk=>by
  show bindC kindOf ((p,w)::P.zip vs) m x=_;unfold bindC;exact sV (i:=i) (YC.mp nd).2 (by simpa using h1) (by simpa using h2) hk
noncomputable def start(N:List Str)(vs:List V):St:=vs.map some++UY (N.length-vs.length) none
noncomputable def jK(CX:LB)(P:Program)(w:World)(K:UU)(mg:Str->Option Value)(base:Heap)(N:List Str)(qual:Str)(scope:Scope)(f:Addr)(cd:Value)(A:Around)(outer:List Env)(s:Shared)(H:Hp)(E:XK):Cx where
 prog:=P
 w:=w
 K:=K
 mg:=mg
 base:=base
 A:=A.deeper (envOfC qual scope s.heap.objs.size f cd)
 N:=N
 s₀:=s
 H₀:=H
 env:=envOfC qual scope s.heap.objs.size f cd
 outer:=outer
 stack:=envOfC qual scope s.heap.objs.size f cd::outer
 ex:=[]
 calm:=true
 fn:=λ_=>true
 pn:=[]
 xe:=λe s'=>wpAny (model P w) (A.deeper (envOfC qual scope s.heap.objs.size f cd)) (leaving (envOfC qual scope s.heap.objs.size f cd) e) (λ_ s''=>CX outer H s E e s'') (λe' s''=>CX outer H s E e' s'') s'
def wD{sc:Scope}(h:sc.names.lookup x=some .cell):∃c,(cellsFrom n sc.names []).lookup x=some c:=by
 have q:=aaE sc.names n [] (.inl h);exact Yw.mp q
variable{scope:Scope}
theorem zI{K:UU}{qual:Str}{f:Addr}{cd:Value}{s1:Shared}{E:XK}{vs:List V}(S:bS N ps scope)(hd:A.handled=none)(e0:xk P w K mg base A outer s H)(hl:vs.length=ps.length)(r:Vals vs us)(x:InCallC s s.heap.objs.size (bindL (envOfC qual scope s.heap.objs.size f cd).kindOf (ps.zip us) λ_=>none) (cellsFrom (s.heap.objs.size+1) scope.names []) (bindC (envOfC qual scope s.heap.objs.size f cd).kindOf (ps.zip us) λ_=>none) s1):Inv (jK CX P w K mg base N qual scope f cd A outer s H E) [] (start N vs) H s1:=by
 have QG:ps.length<=N.length:=by have:=congrArg WJ S.pre;rw[Zd] at this;lia
 obtain⟨h1,tk,rfl,hk⟩:=x.done;have rC:∀b:Addr,b ∉ (jK CX P w K mg base N qual scope f cd A outer s H E).ex:=λb z=>absurd (show b∈([]:List Addr) from z) ↑13;refine⟨⟨e0.mod,S.kind,rfl,rfl,UZ _,λy z c h1 h2=>?_,λy hy=>?_,λy c _ h=>?_,λ_=>hd,Around.frames_deeper e0.frames,.inr ⟨rfl,rfl⟩,λb z=>absurd z (rC b),e0.bs,e0.Ee,λb _ _=>rC b,λb z=>absurd z (rC b),e0.lu,e0.EO⟩,
  rfl,e0.bare,Un.kept hk,⟨_,x.toInCall.ns,λi y v h1 h2 h3=>?_⟩,λy c h=>⟨_,x.cell y c h⟩,e0.bq.fresh (UZ _),λy c h=>?_,λp hp=>absurd (show p∈([]:List (Addr×Obj)) from hp) ↑13,e0.bq.kept hk,?_⟩
 .exact name_of_addr x.apart (XO h1) (XO h2)
 .have hy:scope.names.lookup y=some .cell\/scope.names.lookup y=some .free:=hy;rcases hy with hy|hy
  .exact wD hy
  .exact absurd rfl (S.JI _ (XO hy))
 .exact Xg (x.above y c (XO h))
 .have hi:i<vs.length:=by
   unfold start at h2
   by_cases hi:i<vs.length
   .exact hi
   .rw[Vp (by simpa using hi)] at h2;rw[YJ] at h2
    split at h2<;>cases h2
  have ha:vs[i]?=some v:=by
   unfold start at h2;rw[VX (by simpa using hi),Vu] at h2;cases e:vs[i]? with
   | none=>rw[e] at h2;cases h2
   | some a=>rw[e] at h2;cases h2;rfl
  obtain⟨u,hu,rv⟩:=r.get ha;have hp:ps[i]?=some y:=by
   rwa[<- S.pre,List.getElem?_take_of_lt ⋯]
  have ndP:ps.Nodup:=by rw[<- S.pre];exact S.nd.sublist (List.take_sublist _ _)
  refine⟨u,rv,?_⟩;rcases S.par y (List.mem_of_getElem? hp) with k|k
  .exact .inl ⟨k,s_ ndP hp hu k⟩
  .obtain⟨c,e⟩:=wD (n:=s.heap.objs.size+1) k;refine .inr ⟨.inl k,c,e,?_⟩;have q:=x.cell y c e;rwa[sV ndP hp hu (by show scope.names.lookup y≠_;rw[k];decide)] at q
 .exact e0.bq.fresh (Xg (x.above y c (XO h)))
 .unfold start;show _=N.length;rw[Vb,U0,aa7];lia
def Mo{K:UU}{f:Addr}{name qual:Str}{params:Arguments}{dV kV doc pm Qy ct oc:Value}{an od:Option Addr}{Ss:Array (Option Value)}(lk:K.lookup f=some ⟨oc,od,.func (Wb name qual params body scope dV kV doc pm an Qy ct),Ss⟩)(QP:WN K Qy qual=true)(S:bS N ps scope)(len:∀vs H Q E,sp vs H Q E->vs.length=ps.length)(SM:∀(A:Around)(outer:List Env)(s:Shared)(H:Hp)(vs:List V)(Q:VK)(E:XK),bO k (A.deeper (envOfC qual scope s.heap.objs.size f Qy))->sp vs H Q E ->∃t,jE (jK CX P w K mg base N qual scope f Qy A outer s H E) body t/\t { nx:=λ_ H'=>Q .c8 H',rt:=Q } (start N vs) H):aV P w K mg base CX (k+1) f (Wb name qual params body scope dV kV doc pm an Qy ct) ps sp:=by
 refine⟨len,λA outer s H args us vs Q E hr e0 hb r hsp=>?_⟩;have hl:=len _ _ _ _ hsp;have KX:K.In s.heap:=e0.mod.Hw.keeps λb o e=>(e0.bs b o e).1;have lim:s.heap.NoLimit:=e0.mod.nolimit.keeps λb o e=>(e0.bs b o e).1;have Ux:∀y∈ps.zip us,scope.names.lookup y.1=some .local\/(scope.names.lookup y.1=some .cell/\((cellsFrom (s.heap.objs.size+1) scope.names []).lookup y.1).isSome=true):=λ⟨n,v⟩ hy=>by
  rcases S.par n (WU hy).1 with q|q
  .exact .inl q
  .exact .inr ⟨q,aaE _ _ _ (.inl q)⟩
 refine codeAny_call_function hr.depth (KX _ _ lk) rfl S.co S.gen rfl (PySem.W.codeRec_of KX QP) (hb _ _ _ _ ?_);refine wpAny_newFunctionEnv_cells S.kind Ux λenv he s1 x=>?_;subst he;refine⟨lim.keeps x.toInCall.keep,codeAny_func ?_⟩;obtain⟨t,ht,hq⟩:=SM A outer s H vs Q E (hr.deeper _) hsp;have I:Inv (jK CX P w K mg base N qual scope f Qy A outer s H E) [] (start N vs) H s1:=zI S hr.hd e0 hl r x;refine Wu (ht [] s1 (start N vs) H _ I hq) (λfl s' hs=>?_) λe s' hs=>hs;have fin:∀{σ':St}{H':Hp}{v:V}{u:Value},Inv (jK CX P w K mg base N qual scope f Qy A outer s H E) [] σ' H' s'->RelV v u->Q v H'->CE outer P w H s Q u s' :=
  λ{σ' H' v u} J rv q=>⟨v,H',J.os,J.bare,J.base,J.bq,rv,q⟩
 cases fl with
 | ret u =>
  obtain⟨v,σ',H',J,rv,q⟩:=hs;exact fin J rv q
 | next =>
  obtain⟨σ',H',J,q⟩:=hs;exact fin (v:=V.c8) (u:=VC) J rfl q
 | brk =>
  obtain⟨_,_,_,q⟩:=hs;exact WO q
 | cont =>
  obtain⟨_,_,_,q⟩:=hs;exact WO q
section
variable{pos:Pos}{t:TA}{id T:String}{r:List V->Hp->VK->Prop}
def NS(r:List V->Hp->VK->Prop)(t:TA):TE:=fun σ H Q=>t σ H λvs H1=>r vs H1 Q
def me(hc:du X (.builtin id) r)(hg:Gl X x)(hm:X.mg x=none)(hv:bootBuiltins x=some (.builtin id))(ha:PA X (e::es) t)(hn:autoParam (x ≠ "__name__") aD._auto_1)(QZ:autoParam ↑7 aD._auto_1)(he:autoParam ↑0 aR._auto_1)(QG:autoParam ↑2 aR._auto_1):PE X (.Call (.Name x p) (e::es) [] pos) (NS r t):=by
 intro Qg s σ H Q I h;refine Xr (jr I hg hm hv ?_ hn QZ);exact PyProof.Rows.callWith_builtin1 (ck (ha pos Qg s σ H _ I h) λus s1 ⟨vs,H1,I1,r1,q1⟩=>hc Qg s1 σ H1 vs us Q I1 r1 q1) he QG
def sP(hc:du X (.type T) r)(hg:Gl X x)(hm:X.mg x=none)(hv:bootBuiltins x=some (.type T))(ha:PA X (e::es) t)(hn:autoParam (x ≠ "__name__") aD._auto_1)(QZ:autoParam ↑7 aD._auto_1)(he:autoParam ↑0 aR._auto_1)(QG:autoParam ↑2 aR._auto_1):PE X (.Call (.Name x p) (e::es) [] pos) (NS r t):=by
 intro Qg s σ H Q I h;refine Xr (jr I hg hm hv ?_ hn QZ);exact V_ (ck (ha pos Qg s σ H _ I h) λus s1 ⟨vs,H1,I1,r1,q1⟩=>hc Qg s1 σ H1 vs us Q I1 r1 q1) he QG
end
end L2
namespace HT
open PySem PyProof.Rows
noncomputable def lexLt:List Int->List Int->Bool
 | [],[]=>false
 | [],_::_=>true
 | _::_,[]=>false
 |x::xs,y::ys=>if x=y then lexLt xs ys else decide (x<y)
def dW(x y:Int)(xs ys:List Int):lexLt (x::xs) (y::ys)=if x=y then lexLt xs ys else decide (x<y):=rfl
def CL(A:Around)(s:Shared)(a:Int)(t:Tok)(c:Int)(u:Tok):∃e,SeqAt.EqAt A s (.int a t) (.int c u) e/\(e=true ↔ a=c) :=
 ⟨(a==c),SeqAt.EqAt.int_int a t c u,by simp⟩
def Eb(A:Around)(s:Shared)(a:Int)(t:Tok)(c:Int)(u:Tok)(prog:Program)(w:World)(E:Value->Shared->Prop)(Q:Value->Shared->Prop)(h:Q (.bool (decide (a<c))) s):wpAny ↑11 A (richCompare .Lt (.int a t) (.int c u)) Q E s :=
 (PyProof.Rows.lt_int h:wpAny ↑11 A (compareOp .Lt (.int a t) (.int c u)) Q E s)
section
open PySem.SeqAt
open PySem.AutoSeq1 (wpAny_loadPart')
open PySem.MeetsSeq PySem.MeetsSeq2 PySem.MeetsSeq3
end
variable{Q:Value->Shared->Prop}
section
variable{prog:Program}{w:World}{A:Around}{E:Value->Shared->Prop}{s:Shared}
def GQ{t b:Addr}{vs ws:List Value}(ht:IsTup s.heap t vs.toArray)(hb:IsTup s.heap b ws.toArray)(hv:vs≠[])(h1:ws=[]->Q (.ref t) s)(h2:ws≠[]->Q (.ref s.heap.objs.size) { s with heap:=s.heap.push { cls:=.type "tuple",data:=.seq (vs++ws).toArray } })(hsz:vs.length+ws.length<=sizeLine):wpAny ↑11 A (binaryOp .Add (.ref t) (.ref b)) Q E s:=by
 obtain⟨⟨cls,dd,data,sl⟩,ho,hc,n,hd⟩:=id ht;obtain⟨⟨cls2,Ub,data2,sl2⟩,Sw,SO,n2,hd2⟩:=id hb;simp only at hc hd SO hd2;subst hc hd SO hd2;have e:vs.toArray++ws.toArray=(vs++ws).toArray:=by simp
 by_cases hw:ws=[]
 .exact ab4 ⟨_,ho,rfl⟩ ⟨_,Sw,rfl⟩ aat abA YV YK (Yx _ _)
   (tuple_addW1 t b vs.toArray ws.toArray n n2 dd Ub sl sl2 (by simpa using hv) (by simp[hw])) ⟨ho,Sw,h1 hw⟩
 .refine ab4 ⟨_,ho,rfl⟩ ⟨_,Sw,rfl⟩ aat abA YV YK (Yx _ _)
   (tuple_addW2 t b vs.toArray ws.toArray n n2 dd Ub sl sl2 (by simpa using hv) (by simpa using hw) (by rwa[U6,U6])) ⟨ho,Sw,?_⟩
  rw[e];exact h2 hw
noncomputable def de(n d:Nat):Option Int->Nat
 | none=>d
 |some v=>if v<0 then (v+(n:Int)).toNat else min v.toNat n
def Ds(n d:Nat):de n d none=d:=rfl
theorem FZ(n d k:Nat):de n d (some (k:Int))=min k n:=by
 show (if (k:Int)<0 then ((k:Int)+(n:Int)).toNat else min (k:Int).toNat n)=min k n;rw[if_neg ⋯,VE]
theorem J0(n d:Nat)(hd:d<=n)(o:Option Int):de n d o<=n:=by
 cases o with
 | none=>exact hd
 | some v =>
  show (if v<0 then (v+(n:Int)).toNat else min v.toNat n)<=n
  by_cases hv:v<0
  .rw[if_pos hv];lia
  .rw[if_neg hv];exact Nat.min_le_right _ _
theorem yP(v:Int)(n d:Nat):(if v<0 then max (v+(n:Int)) 0 else min v (n:Int))=((de n d (some v):Nat):Int):=by
 show (if v<0 then max (v+(n:Int)) 0 else min v (n:Int))=(((if v<0 then (v+(n:Int)).toNat else min v.toNat n):Nat):Int)
 by_cases hv:v<0
 .simp only[if_pos hv];lia
 .simp only[if_neg hv];lia
theorem yd(lo hi:Option Int)(n:Nat):Yu lo hi 1 (n:Int)=(((de n 0 lo:Nat):Int),((de n n hi:Nat):Int)):=by
 have h1:¬ ((1:Int)<0):=by lia
 unfold Yu;simp only[h1,if_false];refine Prod.ext ?_ ?_
 .cases lo with
  | none=>rfl
  | some v=>exact yP v n 0
 .cases hi with
  | none=>rfl
  |some v=>exact yP v n n
theorem xT(i j:Nat):XC (i:Int) (j:Int) 1=j-i:=by
 unfold XC;have h1:(1:Int)>0:=by lia
 simp only[h1,if_true,Int.ediv_one]
 split<;>lia
def qS{v:Value}{o:Option Int}{Q:Option Int->Shared->Prop}(p:IsPart v o)(h:Q o s):wpAny ↑11 A (Builtin.Slice.slicePartIndex v) Q E s:=by
 cases p with
 | none=>exact slicePart_none h
 |int i t=>exact slicePart_int h
def iG{sl:Addr}{vl vu:Value}{lo hi:Option Int}{n:Nat}{Q:Int×Int×Nat->Shared->Prop}(hs:s.heap.IsSliceOf sl vl vu .none)(pl:IsPart vl lo)(pu:IsPart vu hi)(h:Q (((de n 0 lo:Nat):Int),1,de n n hi-de n 0 lo) s):wpAny ↑11 A (Z1 (.ref sl) (pure (n:Int))) Q E s:=by
 obtain⟨os,TU,hcs,Uo⟩:=id hs;unfold Z1 Builtin.Slice.sliceFields;refine TR (TR (Vq TU Uo (x:=vl) rfl (TR (Vq TU Uo (x:=vu) rfl (TR (Vq TU Uo (x:=.none) rfl (UX ?_)))))));refine TR (slicePart_none ?_);show wpAny _ _ (if ((1:Int)==0)=true then _ else _) _ _ s;rw[if_neg ↑12];refine TR (qS pl (TR (qS pu (TR (UX ?_)))));show wpAny _ _ (match Yu lo hi 1 (n:Int) with|(lo,hi)=>pure (lo,(1:Int),XC lo hi 1)) _ _ s;rw[yd lo hi n];show wpAny _ _ (pure (((de n 0 lo:Nat):Int),(1:Int),XC ((de n 0 lo:Nat):Int) ((de n n hi:Nat):Int) 1)) _ _ s;rw[xT];exact UX h
theorem BP(xs:Array Value)(i k:Nat):((Vc k).filterMap λ(m:Nat)=>xs[((i:Int)+(m:Int)*1).toNat]?).toArray=((xs.toList.drop i).take k).toArray:=by
 have e:(λ(m:Nat)=>xs[((i:Int)+(m:Int)*1).toNat]?)=λm=>xs[i+m]?:=by
  funext m
  have:((i:Int)+(m:Int)*1).toNat=i+m:=by lia
  rw[this]
 rw[e];have:=pick_run xs i k;rw[List.filterMap_map] at this;have e2:((λx=>xs[x]?)∘λx=>i+x)=λm=>xs[i+m]?:=rfl;rw[e2] at this;rw[this]
theorem mr{t sl:Addr}{Qi:Array Value}{vl vu:Value}{lo hi:Option Int}(ht:IsTup s.heap t Qi)(hs:s.heap.IsSliceOf sl vl vu .none)(pl:IsPart vl lo)(pu:IsPart vu hi)(hw:¬ (de Qi.size 0 lo=0/\de Qi.size Qi.size hi=Qi.size))(h:Q (.ref s.heap.objs.size) { s with heap:=s.heap.push { cls:=.type "tuple",data:=.seq ((Qi.toList.drop (de Qi.size 0 lo)).take (de Qi.size Qi.size hi-de Qi.size 0 lo)).toArray } })(hsz:Qi.size<=sizeLine):wpAny ↑11 A (getItem (.ref t) (.ref sl)) Q E s:=by
 have So:sizeOk (.seq ((Qi.toList.drop (de Qi.size 0 lo)).take (de Qi.size Qi.size hi-de Qi.size 0 lo)).toArray):=by
  show ((Qi.toList.drop (de Qi.size 0 lo)).take (de Qi.size Qi.size hi-de Qi.size 0 lo)).toArray.size<=sizeLine;rw[U6,Zd,V2,Vt];lia
 have hj:de Qi.size Qi.size hi<=Qi.size:=J0 _ _ (UZ _) hi;obtain⟨os,TU,hcs,Uo⟩:=id hs;have hTs:s.TypeIs (.ref sl) "slice" := ⟨os,TU,hcs⟩
 unfold getItem
 try with_reducible refine Wx ?_
 first|refine TR (UX ?_)|skip
 refine TR (wpAny_sequenceKey ht.typeIs ↑12 ?_);refine TR (VL (name:=VF "__getitem__") ht.typeIs Wa
  (V8 Wa ht.typeIs entry_tuple_getitem ?_ (args_tuple_getitem _ _)))
 show wpAny _ _ (Z2 (.ref t) >>= _) _ _ s;refine TR (tupleItemsOf_ ht ?_);refine TR (YW hTs ?_);rw[if_pos ↑12];refine TR (iG hs pl pu ?_);have hno:¬ ((((de Qi.size 0 lo:Nat):Int)==0&&(1:Int)==1&&(de Qi.size Qi.size hi-de Qi.size 0 lo)==Qi.size)=true):=by
  intro q;rw[VR,VR] at q;have q1:((de Qi.size 0 lo:Nat):Int)=0:=eq_of_beq q.1.1;have q2:de Qi.size Qi.size hi-de Qi.size 0 lo=Qi.size:=eq_of_beq q.2;exact hw ⟨by lia,by lia⟩
 show wpAny _ _ (if (((de Qi.size 0 lo:Nat):Int)==0&&(1:Int)==1&&(de Qi.size Qi.size hi-de Qi.size 0 lo)==Qi.size)=true then _ else _) _ _ s;rw[if_neg hno,BP]
 first
  | exact TR (m:=XH _) (Wi (UX ⟨_,rfl,UX h⟩) So)
  | exact TR (m:=XH _) (Wi (TR (UX (UX ⟨_,rfl,UX h⟩))) So)
  | exact TR (TR (m:=XH _) (Wi (UX (UX ⟨_,rfl,UX h⟩)) So))
  |exact TR (TR (m:=XH _) (Wi (UX ⟨_,rfl,UX h⟩) So))
end
end HT
namespace L2
open PySem PySem.Spec PyProof.Rows
abbrev TO:=St->Hp->(Option Int->Hp->Prop)->Prop
def PO(X:Cx)(e:Option Expr)(t:TO):Prop :=
 ∀ (Qg:List (Addr×Obj)) (s:Shared) (σ:St) (H:Hp) (Q:Option Int->Hp->Prop),Inv X Qg σ H s->t σ H Q ->
  wpAny ↑8 X.A (evalPart e X.env) (λu s'=>∃o H',Inv X Qg σ H' s'/\IsPart u o/\Q o H') X.xe s
def G6:TO:=λ_ H Q=>Q none H
def Mx(t:TE):TO:=fun σ H Q=>t σ H λx H1=>∃i,x=.int i/\Q (some i) H1
def intsAre_of{ns:List Int}:∀{us:List Value},Vals (ns.map V.int) us->IntsAre us ns:=by
 induction ns with
 | nil=>intro us r;rw[Xh] at r;cases r;exact .nil
 | cons n ns ih =>
  intro us r;rw[Vg] at r;cases r with
  | cons r1 r2 =>
   obtain⟨t,e⟩:=r1;subst e;exact .cons n t (ih r2)
variable{e:Expr}{X:Cx}
variable{r:V->Option Int->Option Int->Hp->VK->Prop}
section
variable{te:TE}{lo hi:Option Expr}{tl th:TO}{pos p2:Pos}
def EU:PO X none G6:=by
 intro Qg s σ H Q I h;rw[evalPart_none];exact UX ⟨none,H,I,.none,h⟩
def Fd(h:PE X e te):PO X (some e) (Mx te):=by
 intro Qg s σ H Q I hw;rw[evalPart_some];refine ck (h Qg s σ H _ I hw) λu s1 ⟨x,H1,I1,r1,q1⟩=>?_;obtain⟨i,rfl,q⟩:=q1;obtain⟨t,rfl⟩:=r1;exact⟨some i,H1,I1,.int i t,q⟩
def ES(X:Cx)(r:V->Option Int->Option Int->Hp->VK->Prop):Prop :=
 ∀ (Qg:List (Addr×Obj)) (s:Shared) (σ:St) (H:Hp) (x:V) (v vl vu:Value) (lo hi:Option Int) (sl:Addr) (Q:VK),Inv X Qg σ H s->RelV x v->s.heap.IsSliceOf sl vl vu .none->IsPart vl lo->IsPart vu hi->r x lo hi H Q ->
  ∃T id,typeLookup (.type T) "__getitem__"=pure (some (.builtin id))/\s.TypeIs v T/\wpAny ↑8 X.A (getItem v (.ref sl)) (EP X Qg σ Q) X.xe s
def ES.or{r':V->Option Int->Option Int->Hp->VK->Prop}(h:ES X r)(h':ES X r'):ES X (λx lo hi H Q=>r x lo hi H Q\/r' x lo hi H Q):=by
 intro Qg s σ H x v vl vu lo hi sl Q I rx hs pl pu q;rcases q with q|q
 .exact h Qg s σ H x v vl vu lo hi sl Q I rx hs pl pu q
 .exact h' Qg s σ H x v vl vu lo hi sl Q I rx hs pl pu q
def Qd(r:V->Option Int->Option Int->Hp->VK->Prop)(te:TE)(tl th:TO):TE:=fun σ H Q=>te σ H λx H1=>tl σ H1 λl H2=>th σ H2 λu H3=>r x l u H3 Q
def Es(hr:ES X r)(he:PE X e te)(hl:PO X lo tl)(hu:PO X hi th):PE X (.Subscript e (.Slice lo hi none p2) pos) (Qd r te tl th):=by
 intro Qg s σ H Q I h;refine Subscript_ (ck (he Qg s σ H _ I h) λv s1 ⟨x,H1,I1,r1,q1⟩=>?_);refine wpAny_Slice (ck (hl Qg s1 σ H1 _ I1 q1) λvl s2 ⟨l,H2,I2,pl,q2⟩=>ck (hu Qg s2 σ H2 _ I2 q2) λvu s3 ⟨u,H3,I3,pu,q3⟩=>?_);rw[evalPart_none];refine UX ?_;have I4:Inv X Qg σ H3 { s3 with heap:=s3.heap.push { cls:=.type "slice",data:=.fields #[vl,vu,.none] } }:=I3.kept (t':=s3.toks) λb ob q=>UT _ q;obtain⟨T,id,hT,ht,hg⟩:=hr Qg { s3 with heap:=s3.heap.push { cls:=.type "slice",data:=.fields #[vl,vu,.none] } } σ H3 x v vl vu l u s3.heap.objs.size Q I4 r1 (Heap.IsSliceOf.new ..) pl pu q3;show wpAny ↑8 X.A (subscriptTail e (.Slice lo hi none p2) v (.ref s3.heap.objs.size)) (EP X Qg σ Q) X.xe { s3 with heap:=s3.heap.push { cls:=.type "slice",data:=.fields #[vl,vu,.none] } };exact tail_any (ops:=[.ref s3.heap.objs.size,v]) ht hT hg (by with_unfolding_all rfl)
noncomputable def vz(xs:List V)(lo hi:Option Int):List V:=(xs.drop (HT.de xs.length 0 lo)).take (HT.de xs.length xs.length hi-HT.de xs.length 0 lo)
theorem nR(xs:List V)(lo hi:Option Int):(vz xs lo hi).length<=xs.length:=by
 unfold vz;rw[Zd,V2];lia
def OB(K:UU):V->Option Int->Option Int->Hp->VK->Prop:=λx lo hi H Q=>∃a xs,x=.ref a/\gR K H a xs ∧
 ¬ (HT.de xs.length 0 lo=0/\HT.de xs.length xs.length hi=xs.length)/\∀p,H p=none->Q (.ref p) (upd H p (.tup (vz xs lo hi)))
def Ke:ES X (OB X.K):=by
 intro Qg s σ H x v vl vu lo hi sl Q I rx hs pl pu h;obtain⟨a,xs,rfl,hx,hw,q⟩:=h;cases rx;obtain⟨Qo,r,ht,hz⟩:=I.tuple hx;have hlen:Qo.toArray.size=xs.length:=by rw[U6];exact r.length.symm
 refine⟨"tuple",_,Wa.lookup,ht.typeIs,?_⟩;refine HT.mr ht hs pl pu (by rwa[hlen]) ?_ (by rwa[hlen]);rw[hlen];refine⟨.ref s.heap.objs.size,_,I.laid (t':=s.toks) (o:=.tup (vz xs lo hi)) (λb ob q=>UT _ q) (UZ _) ?_,rfl,q _ (I.bq.fresh (UZ _))⟩;exact⟨VM (nR xs lo hi) hz,_,(r.drop (HT.de xs.length 0 lo)).take (HT.de xs.length xs.length hi-HT.de xs.length 0 lo),acq _ _⟩
def HN(K:UU):R2:=λx y H Q=>∃a b xs ys,x=.ref a/\y=.ref b/\gR K H a xs/\gR K H b ys/\xs≠[]/\xs.length+ys.length<=sizeLine ∧
 (ys=[]->Q (.ref a) H)/\(ys≠[]->∀p,H p=none->Q (.ref p) (upd H p (.tup (xs++ys))))
def Vals.my{xs:List V}{us:List Value}(r:Vals xs us):us=[] ↔ xs=[]:=by
 cases r with
 | nil=>simp
 |cons _ _=>simp
def GA:gQ X (binaryOp .Add) (HN X.K):=by
 intro Qg s σ H x y v u Q I rx ry h;obtain⟨a,b,xs,ys,rfl,rfl,ha,hb,hx,hz,q1,q2⟩:=h;cases rx;cases ry;obtain⟨Qo,r1,p1,_⟩:=I.tuple ha;obtain⟨Q_,r2,p2,_⟩:=I.tuple hb;refine HT.GQ p1 p2 (λz=>hx (r1.my.mp z)) (λz=>⟨.ref a,H,I,rfl,q1 (r2.my.mp z)⟩) (λz=>?_) (by rwa[<- r1.length,<- r2.length]);refine⟨.ref s.heap.objs.size,_,I.laid (t':=s.toks) (o:=.tup (xs++ys)) (λb ob q=>UT _ q) (UZ _) ?_,rfl,q2 (λw=>z (r2.my.mpr w)) _ (I.bq.fresh (UZ _))⟩;exact⟨by rwa[Vb],_,r1.append r2,acq _ _⟩
end
noncomputable def AW(n:Nat)(i:Int):Option Nat:=if 0<=i then (if i<n then some i.toNat else none) else if -(n:Int)<=i then some (i+n).toNat else none
variable{α:Type}
noncomputable def nW(xs:List α)(i:Int):Option α:=(AW xs.length i).bind λj=>xs[j]?
variable{j n:Nat}{i:Int}
theorem yM(h:AW n i=some j):seqIndex? i n=some j/\j<n/\-(n:Int)<=i/\i<n:=by
 unfold AW at h
 by_cases h0:0<=i
 .rw[if_pos h0] at h
  by_cases h1:i<n
  .rw[if_pos h1] at h;have e:i.toNat=j:=Vf h;exact⟨by rw[seqIndex_of h0 h1,e],by lia,by lia,h1⟩
  .rw[if_neg h1] at h;cases h
 .rw[if_neg h0] at h
  by_cases h1:-(n:Int)<=i
  .rw[if_pos h1] at h;have e:(i+n).toNat=j:=Vf h;exact⟨by rw[aaF ⋯ h1,e],by lia,h1,by lia⟩
  .rw[if_neg h1] at h;cases h
def oP{xs:List α}{v:α}(h:nW xs i=some v):∃j,seqIndex? i xs.length=some j/\xs[j]?=some v/\j<xs.length/\-(xs.length:Int)<=i/\i<xs.length:=by
 unfold nW at h;cases e:AW xs.length i with
 | none=>rw[e] at h;cases h
 | some j =>
  rw[e] at h;obtain⟨h1,h2,h3,h4⟩:=yM e;exact⟨j,h1,h,h2,h3,h4⟩
theorem ug{xs:List α}{v:α}(h:xs[j]?=some v):nW xs (j:Int)=some v:=by
 have hj:j<xs.length:=(VW.mp h).1;have e:AW xs.length (j:Int)=some j:=by
  unfold AW;rw[if_pos ⋯,if_pos ⋯];simp
 unfold nW;rwa[e]
def uO(b:Expr):Prop:=∀o i,subscripted b false o i=operate [o,i] (getItem o i)
def FV(X:Cx)(r:R2):Prop :=
 ∀ (value slice:Expr) (Qg:List (Addr×Obj)) (s:Shared) (σ:St) (H:Hp) (x y:V) (v u:Value) (Q:VK),Inv X Qg σ H s->RelV x v->RelV y u->r x y H Q ->
  subscripted slice false v u=operate [v,u] (getItem v u)->wpAny ↑8 X.A (subscriptTail value slice v u) (EP X Qg σ Q) X.xe s
def Pb(X:Cx)(id:String)(r:V->List V->Hp->VK->Prop):Prop :=
 ∀ (Qg:List (Addr×Obj)) (s:Shared) (σ:St) (H:Hp) (x:V) (xs:List V) (v:Value) (us:List Value) (Q:VK),Inv X Qg σ H s->RelV x v->Vals xs us->r x xs H Q ->
  wpAny ↑8 X.A (call (.builtin id) (v::us)) (EP X Qg σ Q) X.xe s
variable{Qo:List Value}{s:Shared}{H:Hp}{σ:St}{Qg:List (Addr×Obj)}
section
variable{a b:Expr}{ta tb:TE}{pos:Pos}
def FV.or{r r':R2}(h:FV X r)(h':FV X r'):FV X (λx y H Q=>r x y H Q\/r' x y H Q):=by
 intro value slice Qg s σ H x y v u Q I rx ry q hs;rcases q with q|q
 .exact h value slice Qg s σ H x y v u Q I rx ry q hs
 .exact h' value slice Qg s σ H x y v u Q I rx ry q hs
def ME{r:R2}(hr:FV X r)(ha:PE X a ta)(hb:PE X b tb)(hs:uO b):PE X (.Subscript a b pos) (Ly r ta tb):=by
 intro Qg s σ H Q I h;exact Subscript_ (JV ha hb I h λv u s2 x y H2 I2 rx ry q=>hr a b Qg s2 σ H2 x y v u Q I2 rx ry q (hs _ _))
def Nb(K:UU):R2:=λx y H Q=>∃p xs i v,x=.ref p/\y=.int i/\g9 K H p xs/\nW xs i=some v/\Q v H
def Md(K:UU):R2:=λx y H Q=>∃p xs i v,x=.ref p/\y=.int i/\gR K H p xs/\nW xs i=some v/\Q v H
def Mf:R2:=λx y H Q=>∃z i c,x=.str z/\y=.int i/\z.length<=sizeLine/\nW z.cps.toList i=some c/\Q (.str ⟨#[c]⟩) H
theorem F2:FV X (Nb X.K):=by
 intro value slice Qg s σ H x y v u Q I rx ry h hs;obtain⟨p,xs,i,z,rfl,rfl,hq,he,q⟩:=h;cases rx;obtain⟨t,rfl⟩:=ry;obtain⟨Qo,r,pl,hz⟩:=I.list hq;obtain⟨j,h1,h2,h3,h4,h5⟩:=oP he;obtain⟨w,ew,RS⟩:=r.get h2;have hl:=r.length;have hn:=k4;have fin:EP X Qg σ Q w s:=⟨z,H,I,RS,q⟩
 by_cases h0:0<=i
 .have hj:i.toNat=j:=by
   rw[seqIndex_of h0 h5] at h1;exact Vf h1
  exact item_listR pl.isList h0 ⋯ (by rw[hj];simpa using ew) fin hs
 .have hj:(i+(Qo.toArray.size:Int)).toNat=j:=by
   rw[aaF ⋯ h4] at h1;rw[U6,<- hl];exact Vf h1
  exact aaG (x:=w) pl.isList.typeIs slot_list_getitem.lookup
   (aaH (Q:=λr s'=>r=w/\EP X Qg σ Q r s') pl.isList ⋯ (by rw[U6]<;>lia) ⋯ (by rw[hj];simpa using ew) ⟨rfl,fin⟩) hs
theorem Jh:FV X (Md X.K):=by
 intro value slice Qg s σ H x y v u Q I rx ry h hs;obtain⟨p,xs,i,z,rfl,rfl,hq,he,q⟩:=h;cases rx;obtain⟨t,rfl⟩:=ry;obtain⟨Qo,r,pl,hz⟩:=I.tuple hq;obtain⟨j,h1,h2,h3,h4,h5⟩:=oP he;obtain⟨w,ew,RS⟩:=r.get h2;have hl:=r.length;have hn:=k4;have fin:EP X Qg σ Q w s:=⟨z,H,I,RS,q⟩
 exact aaG (x:=w) pl.typeIs slot_tuple_getitem.lookup
  (getItem_tuple (j:=j) (Q:=λr s'=>r=w/\EP X Qg σ Q r s') pl ⋯ ⋯ (by rwa[U6,<- hl]) (by simpa using ew) ⟨rfl,fin⟩) hs
theorem Lq:FV X Mf:=by
 intro value slice Qg s σ H x y v u Q I rx ry h hs;obtain⟨z,i,c,rfl,rfl,hz,he,q⟩:=h;obtain⟨t,rfl⟩:=rx;obtain⟨t',rfl⟩:=ry;obtain⟨j,h1,h2,h3,h4,h5⟩:=oP he;have hl:z.cps.toList.length=z.length:=by simp[Str.length]
 rw[hl] at h1 h4 h5;have hn:=k4;exact tail_any (typeIs_str s z t) slot_str_getitem.lookup (getItem_str (c:=c) (by
  have e1:decide (i < -(2^63:Int))=false:=decide_eq_false ⋯;have e2:decide (i>=2^63)=false:=decide_eq_false ⋯;rw[e1,e2,Bool.or_false]) (by rw[h1];simpa using h2) ⟨.str ⟨#[c]⟩,H,I.tok _,⟨_,rfl⟩,q⟩) hs
def Pm(K:UU):R2:=λx y H Q=>Nb K x y H Q\/Md K x y H Q\/Mf x y H Q
def IF:FV X (Pm X.K):=F2.or (Jh.or Lq)
def xS(Qo:List Value)(n j:Nat)(u:Value):Wo (·.setIfInBounds j u) { cls:=.type "list",data:=.seq Qo.toArray n }={ cls:=.type "list",data:=.seq (Qo.set j u).toArray n }:=by
 simp[Wo]
theorem Inv.lst{Qg:List (Addr×Obj)}{σ:St}{H:Hp}{s:Shared}{p:Addr}{xs:List V}(I:Inv X Qg σ H s)(h:H p=some (.lst xs)):∃(Qo:List Value)(n:Nat),Vals xs Qo/\s.heap.get? p=some { cls:=.type "list",data:=.seq Qo.toArray n }/\xs.length<=sizeLine:=by
 obtain⟨z,Qo,n,r,e⟩:=I.bq p _ h;exact⟨Qo,n,r,e,z⟩
def Inv.IK{p:Addr}{xs ys:List V}{its':List Value}{n':Nat}{f:Obj->Obj}(I:Inv X Qg σ H s)(h:H p=some (.lst xs))(ho:s.heap.get? p=some { cls:=.type "list",data:=.seq Qo.toArray n })(hf:f { cls:=.type "list",data:=.seq Qo.toArray n }={ cls:=.type "list",data:=.seq its'.toArray n' })(r:Vals ys its')(hz:ys.length<=sizeLine)(t:Nat):Inv X Qg σ (upd H p (.lst ys)) { s with heap:=s.heap.update p f,toks:=t }:=by
 have e:(s.heap.update p f).get? p=some { cls:=.type "list",data:=.seq its'.toArray n' }:=by
  rw[VS f ho (by rw[hf]<;>rfl),hf]
 refine I.write (x:=p) (e:=p) (by rw[h];trivial) (.inl rfl) (λb u hb q=>(Vy _ _ (W5 hb)).trans q) ⟨_,e⟩ ?_;exact⟨hz,its',n',r,e⟩
def MG:V->V->V->Hp->(Hp->Prop)->Prop:=λo i v H Q=>∃p xs k j,o=.ref p/\i=.int k/\H p=some (.lst xs)/\AW xs.length k=some j/\Q (upd H p (.lst (xs.set j v)))
theorem set_list:MD X MG:=by
 intro Qg s σ H o i v ov iv u Q I ro ri rv h;obtain⟨p,xs,k,j,rfl,rfl,hp,hj,q⟩:=h;cases ro;obtain⟨t,rfl⟩:=ri;obtain⟨Qo,n,r,ho,hz⟩:=I.lst hp;obtain⟨h1,h2,h3,h4⟩:=yM hj;have hl:=r.length;have hn:=k4;have I':Inv X Qg σ (upd H p (.lst (xs.set j v))) { s with heap:=s.heap.update p (Wo (·.setIfInBounds j u)) } :=
  I.IK hp ho (xS Qo n j u) (r.set rv j) (by rwa[aa0]) s.toks
 by_cases h0:0<=k
 .have hk:k.toNat=j:=by
   rw[seqIndex_of h0 h4] at h1;exact Vf h1
  exact PySem.W.ki_setAt ho h0 ⋯ (by rwa[U6,<- hl]) (by rw[hk];exact⟨_,I',q⟩)
 .have hk:(k+(Qo.toArray.size:Int)).toNat=j:=by
   rw[aaF ⋯ h3] at h1;rw[U6,<- hl];exact Vf h1
  exact PySem.W.ki_setBack ho ⋯ (by rwa[U6,<- hl]) ⋯ (by rw[hk];exact⟨_,I',q⟩)
theorem u_(lo hi:Option Int)(n:Nat):(sliceBounds lo hi none n).1=((HT.de n 0 lo:Nat):Int)/\(sliceBounds lo hi none n).2.1=((HT.de n n hi:Nat):Int)/\(sliceBounds lo hi none n).2.2=1:=by
 refine⟨?_,?_,rfl⟩
 .cases lo with
  | none=>simp[sliceBounds,HT.de]
  | some i =>
   simp only[sliceBounds,HT.de,acr,show (1:Int)>0 by decide,if_true]
   by_cases h:i<0
   .simp only[h,if_true]<;>lia
   .simp only[h,if_false]<;>lia
 .cases hi with
  | none=>simp[sliceBounds,HT.de]
  | some i =>
   simp only[sliceBounds,HT.de,acr,show (1:Int)>0 by decide,if_true]
   by_cases h:i<0
   .simp only[h,if_true]<;>lia
   .simp only[h,if_false]<;>lia
def rL(Qo:List Value)(lo hi:Option Int):slicePick Qo.toArray lo hi none=((Qo.drop (HT.de Qo.length 0 lo)).take (HT.de Qo.length Qo.length hi-HT.de Qo.length 0 lo)).toArray:=by
 obtain⟨h1,h2,h3⟩:=u_ lo hi Qo.toArray.size;unfold slicePick;rw[h1,h2,h3];simp only[sliceRange_one,pick_run,U6]<;>rfl
def Og(K:UU):V->Option Int->Option Int->Hp->VK->Prop:=λx lo hi H Q=>∃a xs,x=.ref a/\g9 K H a xs/\∀p,H p=none->Q (.ref p) (upd H p (.lst (vz xs lo hi)))
theorem FN:ES X (Og X.K):=by
 intro Qg s σ H x v vl vu lo hi sl Q I rx hs pl pu h;obtain⟨a,xs,rfl,hx,q⟩:=h;cases rx;obtain⟨Qo,r,ht,hz⟩:=I.list hx;have hlen:=r.length;refine⟨"list",_,slot_list_getitem.lookup,ht.isList.typeIs,?_⟩;refine wpAny_getItem_list_slice ht.isList hs pl pu .none ↑13 ?_ (by rw[U6]<;>lia);rw[rL,<- hlen];refine⟨.ref s.heap.objs.size,_,I.laid (t':=s.toks) (o:=.lst (vz xs lo hi)) (λb ob q=>UT _ q) (UZ _) ?_,rfl,q _ (I.bq.fresh (UZ _))⟩;exact⟨VM (nR xs lo hi) hz,_,0,(r.drop (HT.de xs.length 0 lo)).take (HT.de xs.length xs.length hi-HT.de xs.length 0 lo),U1 _ rfl⟩
theorem t7:du X (.builtin "len") (λxs H Q=>∃p ys,xs=[.ref p]/\(g9 X.K H p ys\/gR X.K H p ys)/\Q (.int ys.length) H):=by
 intro Qg s σ H xs us Q I r h;obtain⟨p,ys,rfl,hq,q⟩:=h;obtain⟨u,rfl,rx⟩:=vals1 r;cases rx;have hn:=k4;rcases hq with hq|hq
 .obtain⟨Qo,r',pl,hz⟩:=I.list hq;have hlen:=r'.length;exact Calls.call_len_list pl.isList (by simp only[U6]<;>lia) ⟨.int ys.length,H,I.tok _,⟨s.toks+1,by rw[U6,hlen]⟩,q⟩
 .obtain⟨Qo,r',pl,hz⟩:=I.tuple hq;have hlen:=r'.length;exact len_tuple pl (by simp only[U6]<;>lia) ⟨.int ys.length,H,I.tok _,⟨s.toks+1,by rw[U6,hlen]⟩,q⟩
theorem uB:du X (.builtin "len") (λxs H Q=>∃z,xs=[.str z]/\z.length<=sizeLine/\Q (.int z.length) H):=by
 intro Qg s σ H xs us Q I r h;obtain⟨z,rfl,hz,q⟩:=h;obtain⟨u,rfl,t,rfl⟩:=vals1 r;have hn:=k4;exact len_str ⋯ ⟨.int z.length,H,I.tok _,⟨_,rfl⟩,q⟩
def du.or{f:Value}{r r':List V->Hp->VK->Prop}(h:du X f r)(h':du X f r'):du X f (λxs H Q=>r xs H Q\/r' xs H Q):=by
 intro Qg s σ H xs us Q I rs q;rcases q with q|q
 .exact h Qg s σ H xs us Q I rs q
 .exact h' Qg s σ H xs us Q I rs q
theorem rH:du X (.type "tuple") (λxs H Q=>∃p ys,xs=[.ref p]/\((g9 X.K H p ys/\∀l,H l=none->Q (.ref l) (upd H l (.tup ys)))\/(gR X.K H p ys/\Q (.ref p) H))):=by
 intro Qg s σ H xs us Q I r h;obtain⟨p,ys,rfl,h⟩:=h;obtain⟨u,rfl,rx⟩:=vals1 r;cases rx;rcases h with ⟨hq,q⟩|⟨hq,q⟩
 .obtain⟨Qo,r',pl,hz⟩:=I.list hq;have hlen:=r'.length;refine call_tuple_list pl.isList (λh' kp=>?_) (by simp only[U6]<;>lia);have I1:Inv X Qg σ H { s with heap:=h' }:=I.kept (t':=s.toks) kp;have I2:Inv X Qg σ (upd H h'.objs.size (.tup ys)) { s with heap:=h'.push { cls:=.type "tuple",data:=.seq Qo.toArray } } :=
   I1.laid (t':=s.toks) (λb o e=>UT _ e) (UZ _) (show bw X.prog X.w _ _ _ (.tup ys) from ⟨hz,Qo,r',acq _ _⟩)
  exact⟨.ref h'.objs.size,_,I2,rfl,q _ (I1.bq.fresh (UZ _))⟩
 .obtain⟨Qo,r',pl,hz⟩:=I.tuple hq;exact call_tuple_same pl ⟨.ref p,H,I,rfl,q⟩
def OE(K:UU)(T:String)(x:V)(H:Hp):Prop:=match x with
 | .str _=>T="str"
 | .int _=>T="int"
 | .ref p=>(T="list" /\ ∃xs,g9 K H p xs)\/(T="tuple" /\ ∃o,K.lookup p=some o/\o.cls=.type "tuple" /\ o.dict=none) ∨
   (T="dict" /\ ((∃Qk,H p=some (.dK Qk))\/∃Qk,H p=some (.dT Qk)))\/(T="set" /\ ∃S n,H p=some (.set S n))
 |_=>False
def DJ{T:String}{x:V}{v:Value}(I:Inv X Qg σ H s)(r:RelV x v)(ty:OE X.K T x H):s.TypeIs v T/\∀a,v=.ref a->∃ob,s.heap.get? a=some ob/\ob.dict=none:=by
 cases x with
 | str z =>
  obtain⟨t,rfl⟩:=r;cases (show T="str" from ty);exact⟨typeIs_str s z t,λ_ e=>nomatch e⟩
 | int i =>
  obtain⟨t,rfl⟩:=r;cases (show T="int" from ty);exact⟨aaI s i t,λ_ e=>nomatch e⟩
 | ref p =>
  cases r;rcases ty with ⟨rfl,xs,hq⟩|⟨rfl,o,hk,hc,hd⟩|⟨rfl,hk⟩|⟨rfl,S,n,hk⟩
  .obtain⟨Qo,_,pl,_⟩:=I.list hq;refine⟨pl.isList.typeIs,λa e=>?_⟩;cases e;obtain⟨o,n,e,c,hd,_⟩:=pl;exact⟨o,e,hd⟩
  .refine⟨⟨o,I.jG p o hk,hc⟩,λa e=>?_⟩;cases e;exact⟨o,I.jG _ o hk,hd⟩
  .have z:∃o,s.heap.get? p=some o/\o.ExactDict:=by
    rcases hk with ⟨Qk,hk⟩|⟨Qk,hk⟩
    .obtain⟨_,_,_,_,o,_,_,e,ex,_⟩:=I.bq p _ hk;exact⟨o,e,ex⟩
    .obtain⟨_,_,_,_,o,_,_,e,ex,_⟩:=I.bq p _ hk;exact⟨o,e,ex⟩
   obtain⟨o,e,ex⟩:=z;refine⟨⟨o,e,ex.1⟩,λa e2=>?_⟩;cases e2;exact⟨o,e,ex.2.1⟩
  .obtain⟨o,_,_,_,e,ex,_⟩:=I.bq p _ hk;refine⟨⟨o,e,ex.1⟩,λa e2=>?_⟩;cases e2;exact⟨o,e,ex.2.1⟩
 |_=>exact WO ty
def N6(K:UU)(T:String)(r:V->List V->Hp->VK->Prop)(to:TE):TE:=fun σ H Q=>to σ H λx H1=>OE K T x H1/\r x [] H1 Q
def P8(K:UU)(T:String)(r:V->List V->Hp->VK->Prop)(to:TE)(t:TA):TE:=fun σ H Q=>to σ H λx H1=>OE K T x H1/\t σ H1 λxs H2=>r x xs H2 Q
variable{o:Expr}{es:List Expr}{to:TE}{t:TA}{name:Str}{apos Qu:Pos}{T id:String}{r:V->List V->Hp->VK->Prop}
def Kg(pa:PlainAttrs T)(slot:Slot T name id)(hty:typeOf (.builtin id)=pure (.type "method_descriptor"))(hm:Pb X id r)(ho:PE X o to)(Rb:autoParam (attributeBase o name X.env (eval o X.env)=eval o X.env) aR._auto_1)(Rf:autoParam ((apos.endLine==Qu.line)=true) aR._auto_1):PE X (.Call (.Attribute o name apos) [] [] Qu) (N6 X.K T r to):=by
 intro Qg s σ H Q I h;refine wpAny_Call_method0_late Rb Rf (ck (ho Qg s σ H _ I h) λv s1 ⟨x,H1,I1,r1,ty,q1⟩=>?_);obtain⟨h1,h2⟩:=DJ I1 r1 ty;exact⟨T,id,pa,slot,hty,h1,h2,aaJ rfl (PySem.evalArgs_none (hm Qg s1 σ H1 x [] v [] Q I1 r1 .nil q1))⟩
def HE(pa:PlainAttrs T)(slot:Slot T name id)(hty:typeOf (.builtin id)=pure (.type "method_descriptor"))(hm:Pb X id r)(ho:PE X o to)(ha:PA X (e::es) t)(Rb:autoParam (attributeBase o name X.env (eval o X.env)=eval o X.env) aR._auto_1)(SW:autoParam (((backTo Qu (starEach (e::es) X.env)).all (λx=>!x.1)&&(backToKw Qu (keywordEach [] X.env)).all (λx=>x.1.isSome) && decide ((e::es).length+([]:List Keyword).length+(if ([]:List Keyword).isEmpty then 0 else 1)<30))=true) aR._auto_1)(Rf:autoParam ((apos.endLine==Qu.line)=true) aR._auto_1)(hs:autoParam ↑0 aR._auto_1)(RI:autoParam ((backTo Qu (starEach es X.env)).any (·.1)=false) aR._auto_1):PE X (.Call (.Attribute o name apos) (e::es) [] Qu) (P8 X.K T r to t):=by
 intro Qg s σ H Q I h;refine wpAny_Call_method_late Rb SW Rf rfl (ck (ho Qg s σ H _ I h) λv s1 ⟨x,H1,I1,r1,ty,q1⟩=>?_);obtain⟨h1,h2⟩:=DJ I1 r1 ty;refine⟨T,id,pa,slot,hty,h1,h2,?_⟩;have hA:=ha Qu Qg s1 σ H1 _ I1 q1;rw[hs] at hA ⊢;refine aaJ (by show (false||(backTo Qu (starEach es X.env)).any (·.1))=false;rw[RI]<;>rfl) (Calls.evalArgs_plain ?_);exact ck hA λus s2 ⟨vs,H2,I2,r2,q2⟩=>hm Qg s2 σ H2 x vs v us Q I2 r1 r2 q2
end
def Ob(X:Cx)(id:String)(r:V->List V->Hp->VK->Prop):Prop :=
 ∀ (Qg:List (Addr×Obj)) (s:Shared) (σ:St) (H:Hp) (x:V) (xs:List V) (v:Value) (us:List Value) (Q:VK),Inv X Qg σ H s->RelV x v->Vals xs us->r x xs H Q ->
  wpAny ↑8 X.A (call (.builtin id) (v::us)) (EP X Qg σ Q) X.xe s
def Vals.one:∀{x:V}{us:List Value},Vals [x] us->∃u,us=[u]/\RelV x u
 |_,_,.cons r .nil=>⟨_,rfl,r⟩
def Vals.zero:∀{us:List Value},Vals [] us->us=[]
 |_,.nil=>rfl
theorem Vals.rep{xs:List V}{us:List Value}(h:Vals xs us):∀k:Nat,Vals (UY k xs).flatten (UY k us).flatten
 | 0=>.nil
 | k+1=>by
  rw[Wk,Wk,WQ,WQ];exact Vals.append h (Vals.rep h k)
theorem foldl_rep(Qo:List Value):∀(k:Nat)(acc:List Value),Z4 (λx1 x2=>x1++x2) acc.toArray (UY k Qo.toArray)=(acc++(UY k Qo).flatten).toArray
 | 0,acc=>by simp
 | k+1,acc=>by
  have e:acc.toArray++Qo.toArray=(acc++Qo).toArray:=by simp
  have e2:(acc++Qo)++(UY k Qo).flatten=acc++(UY (k+1) Qo).flatten:=by
   rw[Wk,WQ,VG]
  rw[<- e2,<- foldl_rep Qo k (acc++Qo),<- e,Wk,acP]
variable{b:Addr}
variable{t':Nat}
section
variable{l:Addr}{xs ys zs:List V}
def Inv.Kc{its':List Value}{f:Array Value->Array Value}(I:Inv X Qg σ H s)(hH:H l=some (.lst xs))(e:s.heap.get? l=some { cls:=.type "list",data:=.seq Qo.toArray n })(hf:f Qo.toArray=its'.toArray)(hv:Vals ys its')(hz:ys.length<=sizeLine):Inv X Qg σ (upd H l (.lst ys)) { s with heap:=s.heap.update l (Wo f),toks:=t' }:=by
 have q:=PySem.IsL.update e f;rw[hf] at q;refine I.write (x:=l) (e:=l) (by rw[hH];exact trivial) (.inl rfl) (λb' u hb hu=>(Vy s.heap (Wo f) (W5 hb)).trans hu) ⟨_,q⟩ ?_;exact⟨hz,its',_,hv,q⟩
def Inv.M0(I:Inv X Qg σ H s)(hv:Vals ys Qo)(hz:ys.length<=sizeLine):Inv X Qg σ (upd H s.heap.objs.size (.lst ys)) { s with heap:=s.heap.push { cls:=.type "list",data:=.seq Qo.toArray },toks:=t' } :=
 I.laid (λ_ _ q=>UT _ q) (UZ _) ⟨hz,Qo,0,hv,U1 _ rfl⟩
theorem Inv.fresh(I:Inv X Qg σ H s):H s.heap.objs.size=none:=I.bq.fresh (UZ _)
def Inv.xZ(I:Inv X Qg σ H s)(hH:H l=some (.lst xs)):xs.length<=sizeLine/\∃(Qo:List Value)(n:Nat),Vals xs Qo/\xs.length=Qo.length/\s.heap.get? l=some { cls:=.type "list",data:=.seq Qo.toArray n }:=by
 obtain⟨z,Qo,n,r,e⟩:=I.bq l _ hH;exact⟨z,Qo,n,r,r.length,e⟩
theorem vn(h:n<=sizeLine):XI n=false:=by
 unfold XI;exact decide_eq_false ⋯
end
def Gz:V->List V->Hp->VK->Prop:=λx vs H Q=>∃l xs y,x=.ref l/\vs=[y]/\H l=some (.lst xs)/\xs.length<sizeLine/\Q .c8 (upd H l (.lst (xs++[y])))
theorem sq:Ob X "list.append" Gz:=by
 intro Qg s σ H x vs v us Q I rx rv h;obtain⟨l,xs,y,rfl,rfl,hH,hz,q⟩:=h;cases rx;obtain⟨u,rfl,ru⟩:=rv.one;obtain⟨z,Qo,n,r,hl,e⟩:=I.xZ hH;refine Ye F.slot_list_append ⟨_,e,rfl⟩ F.entry_list_append (F.args_list_append_2 _ _) (PySem.list_append l Qo.toArray n u (by rw[U6];lia)) ⟨e,?_⟩;refine⟨.c8,_,I.Kc (its':=Qo++[u]) hH e ↑13 (r.append (.cons ru .nil)) ?_,rfl,q⟩;rw[Vb,aa8];lia
def Gp:V->List V->Hp->VK->Prop:=λx vs H Q=>∃l b xs zs,x=.ref l/\vs=[.ref b]/\H l=some (.lst xs)/\H b=some (.lst zs)/\xs.length+zs.length<=sizeLine/\Q .c8 (upd H l (.lst (xs++zs)))
theorem zL:Ob X "list.extend" Gp:=by
 intro Qg s σ H x vs v us Q I rx rv h;obtain⟨l,b,xs,zs,rfl,rfl,hH,hB,hz,q⟩:=h;cases rx;obtain⟨u,rfl,ru⟩:=rv.one;cases ru;obtain⟨z,Qo,n,r,hl,e⟩:=I.xZ hH;obtain⟨z2,Q_,n2,r2,Ry,e2⟩:=I.xZ hB;have hsz:Qo.toArray.size+Q_.toArray.size<=sizeLine:=by rw[U6,U6];lia
 have S0:¬ (!Qo.toArray.isEmpty&&XI (Qo.toArray.size+Q_.toArray.size))=true:=by
  rw[vn hsz,Bool.and_false];exact VD
 refine Ye F.slot_list_extend ⟨_,e,rfl⟩ F.entry_list_extend (F.args_list_extend_2 _ _)
  (AutoSeq1.list_extend_list_list_0 l Qo.toArray n b Q_.toArray n2 S0 (by rw[U6];lia) ⋯) ⟨e,e2,?_⟩
 refine⟨.c8,_,I.Kc (its':=Qo++Q_) hH e ↑13 (r.append r2) ?_,rfl,q⟩;rw[Vb];lia
def Ie:V->List V->Hp->VK->Prop:=λx vs H Q=>∃l xs,x=.ref l/\vs=[]/\H l=some (.lst xs)/\Q .c8 (upd H l (.lst []))
theorem BV:Ob X "list.clear" Ie:=by
 intro Qg s σ H x vs v us Q I rx rv h;obtain⟨l,xs,rfl,rfl,hH,q⟩:=h;cases rx;have hus:=rv.zero;subst hus;obtain⟨z,Qo,n,r,hl,e⟩:=I.xZ hH;refine Ye F.slot_list_clear ⟨_,e,rfl⟩ F.entry_list_clear (F.args_list_clear_1 _) (AutoSeq1.list_clear_list_0 l Qo.toArray n (by rw[U6];lia)) ⟨e,?_⟩;exact⟨.c8,_,I.Kc (its':=[]) (ys:=[]) hH e rfl .nil (Va _),rfl,q⟩
def L6:R2:=λx y H Q=>∃l b xs zs,x=.ref l/\y=.ref b/\H l=some (.lst xs)/\H b=some (.lst zs)/\xs.length+zs.length<=sizeLine/\∀p,H p=none->Q (.ref p) (upd H p (.lst (xs++zs)))
theorem K4:gQ X (binaryOp .Add) L6:=by
 intro Qg s σ H x y v u Q I rx ry h;obtain⟨l,b,xs,zs,rfl,rfl,hH,hB,hz,q⟩:=h;cases rx;cases ry;obtain⟨z,Qo,n,r,hl,e⟩:=I.xZ hH;obtain⟨z2,Q_,n2,r2,Ry,e2⟩:=I.xZ hB;refine PySem.P.add_list e e2 ?_ (by rw[U6,U6];lia);have ea:Qo.toArray++Q_.toArray=(Qo++Q_).toArray:=by simp
 rw[ea];exact⟨.ref _,_,I.M0 (t':=s.toks) (r.append r2) (by rw[Vb];lia),rfl,q _ I.fresh⟩
def My:R2:=λx y H Q=>∃l k xs,x=.ref l/\y=.int k/\H l=some (.lst xs)/\-(2^63)<=k/\k<2^63/\xs.length*k.toNat<=sizeLine ∧
 ∀p,H p=none->Q (.ref p) (upd H p (.lst (UY k.toNat xs).flatten))
def len_rep(xs:List α)(k:Nat):(UY k xs).flatten.length=k*xs.length:=by
 induction k with
 | zero=>simp
 |succ k ih=>rw[Wk,WQ,Vb,ih,Yo,aaK]
theorem Jr:gQ X (binaryOp .Mult) My:=by
 intro Qg s σ H x y v u Q I rx ry h;obtain⟨l,k,xs,rfl,rfl,hH,h1,h2,hz,q⟩:=h;cases rx;obtain⟨t,rfl⟩:=ry;obtain⟨z,Qo,n,r,hl,e⟩:=I.xZ hH;have hlen:Qo.toArray.size*k.toNat<=sizeLine:=by rwa[U6,<- hl]
 have hcap:¬ Qo.toArray.size*k.toNat>(2^63-1)/8:=by
  have:(sizeLine:Nat)<=(2^63-1)/8:=by decide
  lia
 have hfit:¬ (!Builtin.List.listFitsIndex k)=true:=by
  rw[fitsIndex_both h1 h2];exact VD
 have S0:¬ XI (Qo.toArray.size*k.toNat)=true:=by
  rw[vn hlen];exact VD
 have RF:Z4 (λx1 x2=>x1++x2) #[] (UY (if Qo.toArray.isEmpty=true then 0 else k.toNat) Qo.toArray)=(UY k.toNat Qo).flatten.toArray:=by
  have f0:∀m:Nat,Z4 (λx1 x2=>x1++x2) #[] (UY m Qo.toArray)=(UY m Qo).flatten.toArray:=λm=>by
   have:=foldl_rep Qo m [];rwa[aa1] at this
  rw[f0];cases Qo with
  | nil=>simp
  | cons a r'=>rw[if_neg ↑13]
 refine aad (T := "list") (U := "int") ↑12 ⟨_,e,rfl⟩ (λs'=>aaI s' k t) noFill_list_mul F.fills_int_mul F.slot_int_rmul repeat_list F.slot_int_index.lookup
  (Ye F.slot_int_rmul (aaI s k t) F.entry_int_rmul (F.args_int_rmul_2 _ _) (int___rmul___int_list k t l Qo.toArray n)
   ⟨e,rfl,⟨_,e,rfl⟩,Ye F.slot_list_mul ⟨_,e,rfl⟩ F.entry_list_mul (F.args_list_mul_2 _ _) (AutoListH.list___mul___list_int_3 l Qo.toArray n k t hfit hcap S0) ⟨e,?_⟩⟩)
 rw[RF];exact⟨.ref _,_,I.M0 (t':=s.toks) (r.rep k.toNat) (by rwa[len_rep,ZQ]),rfl,q _ I.fresh⟩
variable{E:Value->Shared->Prop}{A:Around}{w:World}
section
variable{prog:Program}
end
variable{o:Option V}
variable{u:Value}{y:V}
section
variable{κ:Type}[DecidableEq κ]
noncomputable def kO(Qk:List (κ×V))(k:κ):Option V:=(Qk.find? λkv=>decide (kv.1=k)).map (·.2)
noncomputable def putK(Qk:List (κ×V))(k:κ)(v:V):List (κ×V) :=
 if (Qk.any λkv=>decide (kv.1=k))=true then Qk.map (λkv=>if kv.1=k then (kv.1,v) else kv) else Qk++[(k,v)]
def l8{p:κ×V}{r:List (κ×V)}{k:κ}(e:p.1=k):kO (p::r) k=some p.2:=by simp[kO,WC,e]
def lQ{p:κ×V}{r:List (κ×V)}{k:κ}(e:¬ p.1=k):kO (p::r) k=kO r k:=by simp[kO,WC,e]
theorem pU(k:κ):∀Qk:List (κ×V),(Qk.any λkv=>decide (kv.1=k))=(kO Qk k).isSome
 | []=>rfl
 | p::r=>by
  rw[Zk]
  by_cases e:p.1=k
  .simp only[l8 e,decide_eq_true e,Bool.true_or,Option.isSome_some]
  .rw[lQ e,decide_eq_false e,Bool.false_or];exact pU k r
theorem nO(Qk:List (κ×V))(k:κ)(v:V):(putK Qk k v).length<=Qk.length+1:=by
 unfold putK
 split
 .rw[U0];lia
 .rw[Vb,Vw,YD];lia
def j9.mI{u:Option Value}(r:j9 o u):o.isSome=u.isSome:=by
 cases o with
 | none=>cases u with
  | none=>rfl
  | some _=>exact(show False from r).elim
 | some _=>cases u with
  | none=>exact(show False from r).elim
  |some _=>rfl
def KV.val{Qk:List (κ×V)}{vs:List (κ×Value)}(r:KV Qk vs)(k:κ):j9 (kO Qk k) (valueAt vs k):=by
 unfold KV at r
 induction r with
 | nil=>exact Wn
 | @cons p q ps qs h t ih =>
  obtain⟨h1,h2⟩:=h
  by_cases e:p.1=k
  .have e':q.1=k:=h1.symm.trans e;have b:valueAt (q::qs) k=some q.2:=by simp[valueAt,WC,e']
   rwa[l8 e,b]
  .have e':¬ q.1=k:=λz=>e (h1.trans z);have b:valueAt (q::qs) k=valueAt qs k:=by simp[valueAt,WC,e']
   rwa[lQ e,b]
theorem KV.any{Qk:List (κ×V)}{vs:List (κ×Value)}(r:KV Qk vs)(k:κ):(Qk.any λkv=>decide (kv.1=k))=vs.any λkv=>decide (kv.1=k):=by
 unfold KV at r
 induction r with
 | nil=>rfl
 |cons h t ih=>rw[Zk,Zk,ih,h.1]
def KV.KZ{Qk:List (κ×V)}{vs:List (κ×Value)}(r:KV Qk vs)(k:κ)(ry:RelV y u):KV (Qk.map λkv=>if kv.1=k then (kv.1,y) else kv) (vs.map λkv=>if kv.1=k then (kv.1,u) else kv):=by
 unfold KV at r ⊢
 induction r with
 | nil=>exact .nil
 | @cons p q ps qs h t ih =>
  rw[Vg,Vg];refine .cons ?_ ih;obtain⟨h1,h2⟩:=h
  by_cases e:p.1=k
  .rw[if_pos e,if_pos (h1.symm.trans e)];exact⟨h1,ry⟩
  .rw[if_neg e,if_neg (λz=>e (h1.trans z))];exact⟨h1,h2⟩
def KV.put{Qk:List (κ×V)}{vs:List (κ×Value)}(r:KV Qk vs)(k:κ)(ry:RelV y u):KV (putK Qk k y) (stored vs k u):=by
 unfold putK stored;rw[r.any k]
 by_cases e:(vs.any λkv=>decide (kv.1=k))=true
 .rw[if_pos e,if_pos e];exact r.KZ k ry
 .rw[if_neg e,if_neg e];exact Paired.snoc r ⟨rfl,ry⟩
theorem KV.length{Qk:List (κ×V)}{vs:List (κ×Value)}(r:KV Qk vs):Qk.length=vs.length:=Paired.length r
end
variable{k:Key}{P:Program}
def D9(r:RelV (kV k) u):(cz P w).is k u=true:=by
 cases k with
 | inl i=>obtain⟨t,e⟩:=(show ∃t,u=Zb i t from r);subst e;exact vR P w i t
 |inr x=>obtain⟨t,e⟩:=(show ∃t,u=ZX x t from r);subst e;exact v_ P w x t
theorem sE{P:Program}{w:World}:∀{ks:List Key}{us:List Value},Vals (ks.map kV) us->ItemsAre (cz P w) ks us
 | [],_,r=>by rw[Xh] at r;cases r;exact .nil
 | k::ks,_,r=>by
  rw[Vg] at r;cases r with
  |cons h t=>exact .cons (D9 h) (sE t)
abbrev KT(H:Hp):List (List Key×V)->List (List Key×Addr×Value)->Prop:=Paired λp q=>p.1=q.1/\H q.2.1=some (.tup (p.1.map kV))/\RelV p.2 q.2.2
variable{xs:List (List Key×Addr×Value)}{Qk:List (List Key×V)}
def KT.val(r:KT H Qk xs)(k:List Key):j9 (kO Qk k) ((atKey xs k).map (·.2)):=by
 induction r with
 | nil=>exact Wn
 | @cons p q ps qs h t ih =>
  obtain⟨h1,_,h2⟩:=h
  by_cases e:p.1=k
  .have e':q.1=k:=h1.symm.trans e;have b:atKey (q::qs) k=some q.2:=by simp[atKey,WC,e']
   rwa[l8 e,b]
  .have e':¬ q.1=k:=λz=>e (h1.trans z);have b:atKey (q::qs) k=atKey qs k:=by simp[atKey,WC,e']
   rwa[lQ e,b]
def KT.KZ(r:KT H Qk xs)(k:List Key)(ry:RelV y u):KT H (Qk.map λkv=>if kv.1=k then (kv.1,y) else kv) (xs.map (putAt k u)):=by
 induction r with
 | nil=>exact .nil
 | @cons p q ps qs h t ih =>
  rw[Vg,Vg];refine .cons ?_ ih;obtain⟨h1,h2,h3⟩:=h;unfold putAt
  by_cases e:p.1=k
  .rw[if_pos e,if_pos (h1.symm.trans e)];exact⟨h1,h2,ry⟩
  .rw[if_neg e,if_neg (λz=>e (h1.trans z))];exact⟨h1,h2,h3⟩
def KT.put(r:KT H Qk xs)(k:List Key)(hb:H b=some (.tup (k.map kV)))(ry:RelV y u):KT H (putK Qk k y) (storedH xs k b u):=by
 have e:(Qk.any λkv=>decide (kv.1=k))=(atKey xs k).isSome:=by
  rw[pU,(r.val k).mI,ab5]
 unfold putK storedH;rw[e]
 by_cases q:(atKey xs k).isSome=true
 .rw[if_pos q,if_pos q];exact r.KZ k ry
 .rw[if_neg q,if_neg q];exact Paired.snoc r ⟨rfl,hb,ry⟩
variable{H':Hp}
def KT.keeps(r:KT H Qk xs)(ht:∀b ys,H b=some (.tup ys)->H' b=some (.tup ys)):KT H' Qk xs :=
 Paired.K0 r λ_ _ z=>⟨z.1,ht _ _ z.2.1,z.2.2⟩
section
variable{h:Heap}{a:Addr}
def Bv{u:HO}(ok:kS P w H h)(e:Rd H a u):bw P w H h a u:=e.ok ok
def HA{Qk:List (Key×V)}(ok:kS P w H h)(e:Rd H a (.dK Qk)):Qk.length<=sizeLine/\(a==sysModules)=false/\∃vs,KV Qk vs/\h.DictOf (cz P w) a vs :=
 show bw P w H h a (.dK Qk) from Bv ok e
def MY{Qk:List (Key×V)}(ok:kS P w H h)(e:H a=some (.dK Qk)):Qk.length<=sizeLine/\(a==sysModules)=false/\∃vs,KV Qk vs/\h.DictOf (cz P w) a vs:=HA ok (.inl e)
def uL{ks:List Key}(ok:kS P w H h)(e:H a=some (.tup (ks.map kV))):(tupleKind (cz P w)).is h ks a:=by
 obtain⟨_,Qo,r,o,h1,h2,n,h3⟩:=(show bw P w H h a (.tup (ks.map kV)) from ok a _ e)
 exact⟨o,Qo.toArray,n,h1,h2,h3,by simpa using sE r⟩
def Hg(ok:kS P w H h)(e:Rd H a (.dT Qk)):Qk.length<=sizeLine/\(a==sysModules)=false ∧∃xs,KT H Qk xs/\h.DictOfH (tupleKind (cz P w)) a xs:=by
 obtain⟨z,y,xs,r,o,es,ep,h1,h2,h3,h4,h5⟩:=(show bw P w H h a (.dT Qk) from Bv ok e)
 refine⟨z,y,xs,r,o,es,ep,h1,h2,h3,h4,λx hx=>?_,h5⟩;have all:∀{l:List (List Key×V)}{m:List (List Key×Addr×Value)},KT H l m->∀x∈m,(tupleKind (cz P w)).is h x.1 x.2.1:=by
  intro l m q
  induction q with
  | nil=>intro x hx;exact nomatch hx
  | @cons p q ps qs hq t ih =>
   intro x hx;rcases U9.mp hx with e|hx
   .subst e;exact uL ok (by rw[<- hq.1];exact hq.2.1)
   .exact ih x hx
 exact all r x hx
def HP(ok:kS P w H h)(e:H a=some (.dT Qk)):Qk.length<=sizeLine/\(a==sysModules)=false ∧∃xs,KT H Qk xs/\h.DictOfH (tupleKind (cz P w)) a xs:=Hg ok (.inl e)
end
def Jk(H:Hp)(a:Addr)(y:V)(r:Option V):Prop :=
 (∃Qk k,Rd H a (.dK Qk)/\y=kV k/\r=kO Qk k)\/∃Qk k b,Rd H a (.dT Qk)/\y=.ref b/\H b=some (.tup (k.map kV))/\r=kO Qk k
def DS(H:Hp)(a:Addr)(y v:V)(H':Hp):Prop :=
 (∃Qk k,H a=some (.dK Qk)/\y=kV k/\Qk.length<sizeLine/\H'=upd H a (.dK (putK Qk k v))) ∨
 ∃Qk k b,H a=some (.dT Qk)/\y=.ref b/\H b=some (.tup (k.map kV))/\Qk.length<sizeLine/\H'=upd H a (.dT (putK Qk k v))
def DS.t{a:Addr}{k:List Key}{v:V}(e:H a=some (.dT Qk))(eb:H b=some (.tup (k.map kV)))(hl:Qk.length<sizeLine):DS H a (.ref b) v (upd H a (.dT (putK Qk k v))):=.inr ⟨Qk,k,b,e,rfl,eb,hl,rfl⟩
variable{h':Heap}
section
variable{a:Addr}{v:V}{r:Value}
def Inv.big(I:Inv X Qg σ H s):sysModules<s.heap.objs.size:=by
 have h:mainGlobals<s.heap.objs.size:=(I.mod.glob.keeps I.bk).lt;exact Nat.lt_trans ↑12 h
def F3{Q:Value->Shared->Prop}(hu:A.units+1<cLine)(I:Inv X Qg σ H s)(g:Jk H a y o)(ry:RelV y u)(h:∀s',Inv X Qg σ H s'->Q (.bool (!o.isSome)) s'):wpAny ↑8 A (compareOp .NotIn u (.ref a)) Q E s:=by
 rcases g with ⟨Qk,k,e,ey,l⟩|⟨Qk,k,b,e,ey,eb,l⟩
 .subst ey;obtain⟨z,hd,vs,rel,dd⟩:=HA I.bq e;refine wpAny_notIn_of (D9 ry) hd dd.mapOf ?_;rw[<- (rel.val k).mI,<- l];exact h _ (I.tok _)
 .subst ey;cases (show u=U5 b from ry);obtain⟨z,hd,xs,rel,dd⟩:=Hg I.bq e;refine wpAny_notIn_heap (tupleKind_room_in1 hu) (uL I.bq eb) hd dd ?_;have q:=(rel.val k).mI;rw[ab5] at q;rw[<- q,<- l];exact h _ (I.tok _)
def oJ{ob:HO}(I:Inv X Qg σ H s)(mu:MV (H a))(hs:XE a s.heap h')(he:∃q,h'.get? a=some q)(new:bw X.prog X.w (upd H a ob) h' a ob):Inv X Qg σ (upd H a ob) { s with heap:=h',toks:=t' } :=
 I.write (x:=a) (e:=a) mu (.inl rfl) (λb q hb z=>(hs.2 b hb).trans z) he new
def K_{Qk:List (Key×V)}{vs:List (Key×Value)}(z:Qk.length<=sizeLine)(hd:(a==sysModules)=false)(rel:KV Qk vs)(dd:h'.DictOf (cz P w) a vs):bw P w H' h' a (.dK Qk):=⟨z,hd,vs,rel,dd⟩
theorem zE{Q:Unit->Shared->Prop}(hu:A.units+1<cLine)(I:Inv X Qg σ H s)(g:DS H a y v H')(ry:RelV y u)(rv:RelV v r)(h:∀s',Inv X Qg σ H' s'->Q () s'):wpAny ↑8 A (setItem (.ref a) u r) Q E s:=by
 rcases g with ⟨Qk,k,e,ey,l,eH⟩|⟨Qk,k,b,e,ey,eb,l,eH⟩
 .subst ey eH;obtain⟨z,hd,vs,rel,dd⟩:=MY I.bq e;have hz:vs.length<=sizeLine:=by rwa[<- rel.length]
  have hl:(putK Qk k v).length<=sizeLine:=by have:=nO Qk k v;lia
  refine wpAny_setItem_pairs (hsz:=hz) (D9 ry) dd λh' T4 hs=>h _ ?_;have he:∃q,h'.get? a=some q:=let ⟨q,_,_,hq,_⟩:=T4;⟨q,hq⟩
  exact oJ I (by rw[e];exact Wn) hs he (K_ hl hd (rel.put k rv) T4)
 .subst ey eH;cases (show u=U5 b from ry);obtain⟨z,hd,xs,rel,dd⟩:=HP I.bq e;have hz:xs.length<=sizeLine:=by rwa[<- Paired.length rel]
  have hl:(putK Qk k v).length<=sizeLine:=by have:=nO Qk k v;lia
  refine wpAny_setItem_heap (hsz:=hz) (tupleKind_room_in1 hu) (uL I.bq eb) dd λh' T4 hs=>h _ ?_;obtain⟨q,es,ep,hq,h2,h3,h4,_,h5⟩:=T4;refine oJ I (by rw[e];exact Wn) hs ⟨q,hq⟩ ⟨hl,hd,_,(rel.put k eb rv).keeps λc ys ec=>?_,q,es,ep,hq,h2,h3,h4,h5⟩;rwa[au (Du ec e (λz=>nomatch z))]
end
section
variable{a:Addr}{Qk:List (Key×V)}
end
def Mu(td ty tv:TE):TS:=λD σ H=>tv σ H λv H1=>td σ H1 λx H2=>ty σ H2 λy H3=>∃a H4,x=.ref a/\DS H3 a y v H4/\D.nx σ H4
section
variable{o i value:Expr}{pos pos' Te:Pos}{td ty tv:TE}
def G2(hu:X.A.units+1<cLine)(ho:PE X o td)(hi:PE X i ty)(hv:PE X value tv)(hs:swapsWith value (some (.Subscript o i pos')) pos.line X.env=pure false):PS X (.Assign [.Subscript o i pos'] value pos) (Mu td ty tv):=by
 intro Qg s σ H D I h;refine wpAny_Assign_Subscript (ck (hv Qg s σ H _ I h) λr s1 ⟨v,H1,I1,rv,q1⟩=>ck (ho Qg s1 σ H1 _ I1 q1) λu s2 ⟨x,H2,I2,rx,q2⟩=>ck (hi Qg s2 σ H2 _ I2 q2) λiv s3 ⟨y,H3,I3,ry,a,H4,ex,g,q3⟩=>?_) hs;subst ex;obtain rfl:u=U5 a:=rx;exact zE hu I3 g ry rv λs4 I4=>⟨σ,H4,I4,q3⟩
end
def B_(h:Heap)(hb:sysModules<h.objs.size):bw P w H (h.push { cls:=.type "dict",data:=.dict #[] }) h.objs.size (.dT []) :=
 ⟨Va _,beq_eq_false_iff_ne.mpr (W5 (Vh hb)),[],.nil,_,#[],0,U1 _ rfl,⟨rfl,rfl,rfl⟩,rfl,rfl,List.nodup_nil⟩
section
variable{pos:Pos}
end
def xU:List (TE×TE)->St->Hp->(List (V×V)->Hp->Prop)->Prop
 | [],_,H,Q=>Q [] H
 |(tk,tv)::r,σ,H,Q=>tk σ H λx H1=>tv σ H1 λy H2=>xU r σ H2 λps H3=>Q ((x,y)::ps) H3
abbrev VV:List (V×V)->List (Value×Value)->Prop:=Paired λp q=>RelV p.1 q.1/\RelV p.2 q.2
def NU(X:Cx)(pos:Pos)(keys:List (Option Expr))(values:List Expr)(trs:List (TE×TE)):Prop :=
 ∀ (Qg:List (Addr×Obj)) (s:Shared) (σ:St) (H:Hp) (Q:List (V×V)->Hp->Prop),Inv X Qg σ H s->xU trs σ H Q ->
  wpAny ↑8 X.A (evalPairs (pairTrees keys values X.env pos)) (λvs s'=>∃ps H',Inv X Qg σ H' s'/\VV ps vs/\Q ps H') X.xe s
def Hb{pos:Pos}:NU X pos [] [] []:=λQg s σ H Q I h=>pairTrees_nil_walk ⟨[],H,I,.nil,h⟩
def Cf{pos:Pos}{k v:Expr}{ks:List (Option Expr)}{vs:List Expr}{tk tv:TE}{trs:List (TE×TE)}(hk:PE X k tk)(hv:PE X v tv)(hr:NU X pos ks vs trs):NU X pos (some k::ks) (v::vs) ((tk,tv)::trs):=λQg s σ H Q I h =>
 pairTrees_cons_walk (ck (hk Qg s σ H _ I h) λu s1 ⟨x,H1,I1,rx,q1⟩=>ck (hv Qg s1 σ H1 _ I1 q1) λw2 s2 ⟨y,H2,I2,ry,q2⟩ =>
  ck (hr Qg s2 σ H2 _ I2 q2) λws s3 ⟨ps,H3,I3,rel,q3⟩=>⟨(x,y)::ps,H3,I3,.cons ⟨rx,ry⟩ rel,q3⟩)
section
variable{a:Addr}{d:V}{r:Value}
end
section
variable{o f:Expr}{apos Qu:Pos}{td ty tx:TE}
end
section
variable{a:Addr}{Qk:List (Key×V)}
end
section
variable{a:Addr}
end
end L2
namespace Att
open PySem PySem.W PySem.Calls PyProof.Rows
variable{h:Heap}{P:Params}
def n6:∀(ns:List Int)(vs:List Value),WellAll P h vs (ns.map WData.int)->IntsAre vs ns:=by
 intro ns
 induction ns with
 | nil =>
  intro vs w;rw[Xh] at w;cases w;exact .nil
 | cons n ns ih =>
  intro vs w;rw[Vg] at w;cases w with
  | cons a b =>
   cases a;exact .cons _ _ (ih _ b)
def Ab{l:OpenLaw}{n:Nat}(hn:l.most=some n){args:List WData}{vals:List Value}(AQ:l.row.toRowW.claim.pre args=true)(hwl:WellAll P h vals args):∃a vs ns,vals=[U5 a]/\args=[WData.list (ns.map WData.int)]/\h.get? a=some { cls:=.type "list",data:=.seq vs.toArray }/\IntsAre vs ns/\ns.length<=n:=by
 have hsh:WShape.hasAll [] args [.list .int]=true:=(pre_splitW AQ).1;have hc:l.pre.holds [] { args:=args }=true:=(pre_splitW AQ).2;obtain⟨d,r,rfl,h1,h2⟩:=hasAllW_cons hsh;obtain rfl:=hasAllW_nil h2;obtain⟨xs,rfl,h3⟩:=hasW_list h1;obtain⟨ns,rfl⟩:=items_int h3;have hlen:ns.length<=n:=by
  unfold OpenLaw.pre at hc;have h4:(WTm.not (.lt (.lit (.int (n:Int))) (.len (.arg 0)))).holds [] { args:=[.list (ns.map .int)] }=true:=by
   have h4:=(holds_andW hc).1;rwa[hn] at h4
  have h5:=condW_of h4 (w_not (w_lt w_lit (w_len_list (w_arg rfl))));rw[U0] at h5;refine Nat.le_of_not_lt λq=>?_;have q':(n:Int)<((ns.length:Nat):Int):=by lia
  first
   | (rw[decide_eq_true q'] at h5;exact absurd h5 ↑12)
   | (simp at h5;lia)
 cases hwl with
 | cons w1 w2 =>
  cases w2;cases w1 with
  |list ho RY=>exact⟨_,_,ns,rfl,rfl,ho,n6 ns _ RY,hlen⟩
def zv(l:OpenLaw)(args:List WData):l.row.toRowW.claim.post args (.bool true) args=true :=
 postW_of (r:=l.row.toRowW) (X:=(true==true))
  (show WShape.has [] (.bool true) .bool=true by first|rfl|decide|simp[WShape.has,WShape.arms,WShape.armsAll])
  (show (WTm.eq .res (.lit (.bool true))).value [] { args:=args,res:=some (.bool true),after:=args }=some (.bool (true==true)) from w_eq_bool (w_res rfl) w_lit) rfl
section
variable{prog:Program}{w:World}{A:Around}{E:Value->Shared->Prop}{s:Shared}{K:Frag}
end
end Att
namespace L2
open PySem PySem.Spec PyProof.Rows
theorem sN:∀{vs:List Value}{ns:List Int},IntsAre vs ns->Vals (ns.map V.int) vs
 | _,_,.nil=>.nil
 |_,_,.cons n t h=>.cons ⟨t,rfl⟩ (sN h)
def LV(H:Hp):Prop:=∀b,H b=none\/∃o xs,H b=some (.kX o (.lst xs))
variable{mg:Str->Option Value}{w:World}{P:Program}
def EL{K:UU}{mb:Str->Option Value}{CX:LB}{k:Nat}{fa a:Addr}{fd:FuncData}{x:Str}{sp:Sp}{s₁:Shared}{vs:List Value}{ns:List Int}(KX:K.In s₁.heap)(hns:s₁.heap.Ns mainGlobals mg)(hb:s₁.heap.Ns builtinsNs mb)(hbb:∀x:Str,x ≠ "__name__" -> mb x=bootBuiltins x)(hlim:s₁.heap.NoLimit)(hg:s₁.gens=#[])(ha:s₁.heap.get? a=some { cls:=.type "list",data:=.seq vs.toArray })(hi:IntsAre vs ns)(hl:ns.length<=sizeLine)(hr:bO k callerA)(F:∀base:Heap,K.In base->base.Ns mainGlobals mg->aV P w K mg base CX k fa fd [x] sp)(Uk:∀(s:Shared)(u:Value),BindsTo s fd ⟨[u],[]⟩ [(x,u)])(hsp:∀H:Hp,LV H->g9 K H a (ns.map V.int)->sp [.ref a] H (λv _=>v=.bl true) λ_ _ _=>False)(hCX:∀H e s',CX [] H s₁ (λ_ _ _=>False) e s'->False):codeAny (model P w) callerA (.call (.ref fa) ⟨[.ref a],[]⟩) (λr s'=>r=.ok (.ret (.bool true))/\OldK s₁.heap s'.heap/\s'.os=s₁.os/\AllBare s'.gens) s₁:=by
 have rv:=sN hi;have lenV:=hi.length;have core:∀H:Hp,LV H->g9 K H a (ns.map V.int)->kS P w H s₁.heap->(∀b,H b≠none->b=a)->(H a≠none->K.lookup a=none) ->
   codeAny (model P w) callerA (.call (.ref fa) ⟨[.ref a],[]⟩) (λr s'=>r=.ok (.ret (.bool true))/\OldK s₁.heap s'.heap/\s'.os=s₁.os/\AllBare s'.gens) s₁:=by
  intro H hO hS bq hA hK;have Si:∀{b:Addr}{o:Obj},s₁.heap.get? b=some o->H b=none->(uJ s₁.heap H).get? b=some o:=λe n=>CN e n;have rC:∀{b:Addr}{o:Obj}{es:Array DictEntry}{ep:Nat},s₁.heap.get? b=some o->o.data=.dict es ep->H b=none:=λ{b o es ep} e d=>by
   cases q:H b with
   | none=>rfl
   | some u =>
    have e':b=a:=hA b (by rw[q];simp);subst e';rw[ha] at e;cases e;have d':Data.seq vs.toArray _=Data.dict es ep:=d;cases d'
  have nsK:∀{b:Addr}{m:Str->Option Value},s₁.heap.Ns b m->(uJ s₁.heap H).Ns b m:=λ{b m} ⟨o,es,ep,e,d,r⟩=>⟨o,es,ep,Si e (rC e d),d,r⟩
  have hKb:K.In (uJ s₁.heap H):=λb o e=>Si (KX b o e) (by
   cases q:H b with
   | none=>rfl
   | some u =>
    have e':b=a:=hA b (by rw[q];simp);subst e';rw[hK (by rw[q];simp)] at e;cases e)
  have hM:Mod K mg (uJ s₁.heap H):=⟨hKb,nsK hns,⟨mb,nsK hb,hbb⟩,let ⟨mc,h1,h2⟩:=hlim;⟨mc,nsK h1,h2⟩⟩
  have e0:xk P w K mg (uJ s₁.heap H) callerA [] s₁ H:=⟨rfl,hM,λb o e=>Fg e,aaD (zt _ _),trivial,λb hb=>absurd (show b∈([]:List Addr) from hb) ↑13,bq,.of_eq hg⟩
  refine ZR ((F _ hKb (nsK hns)).run callerA [] s₁ H ⟨[.ref a],[]⟩ [.ref a] [.ref a] _ _ hr e0 (Uk s₁ (.ref a)) (.cons rfl .nil) (hsp H hO hS)) λr s' h=>?_;cases r with
  | error e=>exact(hCX H e s' h).elim
  | ok fl =>
   cases fl with
   | next=>exact WO h
   | brk=>exact WO h
   | cont=>exact WO h
   | ret u =>
    obtain⟨v,H',os,bare,un,hok',r',q⟩:=h;have q':v=.bl true:=q;subst q';obtain rfl:u=Xq true:=r';refine⟨rfl,OldK.of_keep λb o e=>?_,os,bare⟩;cases q:H b with
    | none=>exact un.keep b o e q (by intro z;exact absurd (show b∈([]:List Addr) from z) ↑13) ↑13
    | some u =>
     rcases hO b with z|⟨ob,xs,z⟩
     .rw[q] at z;cases z
     .have z2:=un.lJ b ob _ z;obtain⟨e1,_⟩:=bq b _ z;obtain⟨e2,_⟩:=hok' b _ z2;rw[e] at e1;cases e1;exact e2
 cases hk:K.lookup a with
 | some o =>
  have e:=KX a o hk;rw[ha] at e;cases e;refine core (λ_=>none) (λ_=>.inl rfl) (.inr ⟨_,vs.toArray,_,hk,rfl,rfl,rfl,by rwa[U6,lenV],by simpa using rv⟩) (λb u z=>by have z':(none:Option HO)=some u:=z;cases z') (λb z=>absurd rfl z) λz=>absurd rfl z
 | none =>
  refine core (λb=>if b=a then some (.kX { cls:=.type "list",data:=.seq vs.toArray } (.lst (ns.map V.int))) else none) (λb=>?_) (.inl (.inr ⟨{ cls:=.type "list",data:=.seq vs.toArray },if_pos rfl⟩)) (λb u z=>?_) (λb z=>?_) λ_=>hk
  .by_cases hb:b=a
   .exact .inr ⟨_,_,if_pos hb⟩
   .exact .inl (if_neg hb)
  .by_cases hb:b=a
   .have z':=(if_pos hb).symm.trans z;cases z';subst hb;exact⟨ha,by rwa[U0],vs,_,rv,ha⟩
   .have z':=(if_neg hb).symm.trans z;cases z'
  .by_cases hb:b=a
   .exact hb
   .exact absurd (if_neg hb) z
noncomputable def inClass(s:Stmt)(j:Nat):Stmt:=match s with
 | .ClassDef _ _ _ body _ _ _ _ _ _ _=>body.getD j (.Pass ⟨0,0,0,0⟩)
 |_=>.Pass ⟨0,0,0,0⟩
noncomputable def g8(s:Stmt):Arguments:=match s with
 | .FunctionDef _ a _ _ _ _ _ _ _ _=>a
 |_=>{ posonlyargs:=[],args:=[],vararg:=none,kwonlyargs:=[],kw_defaults:=[],kwarg:=none,defaults:=[] }
def dO(s:Stmt):List Stmt:=match s with
 | .FunctionDef _ _ b _ _ _ _ _ _ _=>b
 |_=>[]
noncomputable def aT(s:Stmt):Scope:=match s with
 | .FunctionDef _ _ _ _ _ _ sc _ _ _=>sc
 |_=>{ kind:=.function,names:=[],isGenerator:=false,isCoroutine:=false }
abbrev E0:XK:=λ_ _ _=>False
section
variable{K:UU}{base:Heap}
end
def kG{n:Nat}(h:n<=1000):n<sizeLine:=V9 h ↑12
section
variable{X:Cx}
end
def bf(H H':Hp):Prop:=∀b o,H b=some o->H' b=some o
end L2
section
namespace HD
open PySem PySem.W L2
abbrev pw:Program:=PySem.Challenge.pw_dialvault_k32_all_that_belong_together
noncomputable section
noncomputable def st(s:String)(t:Nat):Value:=.str (VF s) t
def en(P:Params)(s:String)(t:Nat)(v:Value):DictEntry:=⟨PyData.keyHash P (VF s),st s t,v⟩
noncomputable def tu(xs:List Value):Obj:=⟨.type "tuple",none,.seq ⟨xs⟩ 0,⟨[]⟩⟩
noncomputable def di(n:Nat)(es:List DictEntry):Obj:=⟨.type "dict",none,.dict ⟨es⟩ n,⟨[]⟩⟩
noncomputable def tp(i:Nat):Stmt:=pw.main.body.getD i (.Pass ⟨0,0,0,0⟩)
def mp(i j:Nat):Stmt:=inClass (tp i) j
def co(a b:String)(t:Nat)(l n:Int)(x1 x2 x3 x4 x5:Nat)(u:Nat):Obj:=⟨.type "code",none,.fields ⟨[st a t,st b (t+1),st "/claim/cut.py" (t+2),.int l 0,.int n 0,.int 0 0,.int 0 0,.int 3 0,.ref x1,.bool true,.int 181 0,.ref x2,.none,.ref x3,.ref x4,.ref x5,.int u 0,.int l 0,st "/claim/cut.py" (u+1)]⟩,⟨[]⟩⟩
noncomputable def ft(a b:String)(s:Stmt):Obj:=⟨.none,none,.func ⟨VF a,VF b,g8 s,.stmts (dO s),aT s,0,[],.none,.none,.none,.none,none,.none,.none,0⟩,⟨[]⟩⟩
noncomputable def fo(a b:String)(s:Stmt)(df pm:Value)(cd:Nat):Obj:=⟨.type "function",none,.func ⟨VF a,VF b,g8 s,.stmts (dO s),aT s,3,[],df,.none,.none,pm,none,.ref cd,.none,0⟩,⟨[]⟩⟩
noncomputable def Ib:List Obj->List Obj
 | []=>[]
 | [a]=>[a]
 |a::_::r=>a::Ib r
noncomputable def bt:Nat->List Obj->BT
 | 0,_=>.nil
 | _+1,[]=>.nil
 |n+1,a::r=>.node a (bt n (Ib r)) (bt n (Ib (r.drop 1)))
noncomputable def S(L:Params->List Obj)(n k:Nat)(w:World)(os:OsState):SharedT:=⟨bt 14 (L w.params),n,{},⟨[]⟩,⟨0,0,0,0⟩,k,os⟩
noncomputable def F(L:Params->List Obj)(k:Nat)(w:World)(os:OsState):Shared:=⟨⟨⟨L w.params⟩,{}⟩,⟨[]⟩,⟨0,0,0,0⟩,k,os⟩
def cc(a:String)(t:Nat)(l:Int)(x y u:Nat):Obj:=⟨.type "code",none,.fields ⟨[st a t,st a (t+1),st "/claim/cut.py" (t+2),.int l 0,.int 0 0,.int 0 0,.int 0 0,.int 0 0,.ref x,.bool false,.int 181 0,.ref y,.none,.none,.none,.none,.int u 0,.int l 0,st "/claim/cut.py" (u+1)]⟩,⟨[]⟩⟩
def fr(a b:Nat)(s:String)(t:Nat):Obj:=⟨.type "frame",none,.plain,⟨[some (.ref a),some (.ref 3),some (.ref b),none,some (st s t),none,some (.ref 0)]⟩⟩
noncomputable def su(a:Nat):Obj:=⟨.type "super",none,.fields ⟨[.ref a,.ref a,.ref a]⟩,⟨[]⟩⟩
noncomputable def ii(a:Nat):Obj:=⟨.type "builtin_function_or_method",none,.fields ⟨[.builtin "object.__init_subclass__",.ref a]⟩,⟨[]⟩⟩
noncomputable def xw:List Nat->List Value
 | a::b::c::r=>.int a 0::.int b 0::.ref c::xw r
 |_=>[]
noncomputable def fi(xs:List Nat):Obj:=⟨.none,none,.fields ⟨xw xs⟩,⟨[]⟩⟩
noncomputable def cl(n:Str)(bs ms:List Value)(k:Nat)(ss:List Value)(sl:List (Option Value)):Obj:=⟨.type "type",none,.cls ⟨n,bs,ms,k,n,true,[],ss,false,none,false⟩,⟨sl⟩⟩
def pt(L:List Obj)(us:List (Nat×Obj))(ns:List Obj):List Obj:=us.foldl (λl u=>l.set u.1 u.2) L++ns
abbrev b0:=boot_o_0
abbrev b1:=boot_o_1
abbrev b2:=boot_o_2
abbrev b3:=boot_o_3
abbrev b4:=boot_o_4
abbrev b5:=boot_o_5
abbrev b6:=boot_o_6
abbrev b7:=boot_o_7
abbrev b8:=boot_o_8
abbrev b9:=boot_o_9
abbrev Qb:=boot_o_10
def m0:Value:=st "__main__" 164
def m1:Value:=st "dialvault.errors" 194
def m2:Value:=st "dialvault.wholes" 363
def m3:Value:=st "dialvault.vault" 414
def m4:Value:=st "dialvault.rungs" 556
def m5:Value:=st "dialvault.classes" 726
def m6:Value:=st "law_dialvault_k32_all_that_belong_together" 736
def nl:List String->Nat->List Value
 | [],_=>[]
 |x::r,t=>st x t::nl r (t+1)
def fA(P:Params)(a t:Nat)(x q:String)(s:Stmt)(l n:Int)(vs:List String)(df pm:Value):List Obj:=[b7 P,b8 P,tu (nl vs (t+3)),b7 P,ft x q s,co x q t l n a (a+1) (a+2) (a+3) (a+4) (t+3+vs.length),fo x q s df pm (a+5)]
def fT(P:Params)(a t:Nat)(x:String)(s:Stmt)(l n:Int)(vs:List String)(pm:Value):List Obj:=fA P a t x x s l n vs .none pm
def fB(P:Params)(a t:Nat)(x q:String)(s:Stmt)(l n:Int)(df pm:Value):List Obj:=[b7 P,b8 P,ft x q s,⟨.type "code",none,.fields ⟨[st x t,st q (t+1),st "/claim/cut.py" (t+2),.int l 0,.int n 0,.int 0 0,.int 0 0,.int 3 0,.ref a,.bool true,.int 181 0,.ref (a+1),.none,.none,.none,.ref (a+2),.int (t+3) 0,.int l 0,st "/claim/cut.py" (t+4)]⟩,⟨[]⟩⟩,fo x q s df pm (a+3)]
def dB(P:Params)(n t:Nat)(m:Value)(l:Int)(r:List DictEntry):Obj:=di n (en P "__module__" t m::en P "__firstlineno__" (t+4) (.int l (t+3))::r)
def dA(P:Params)(n t:Nat)(m:Value)(x:String)(l:Int)(r:List DictEntry):Obj:=di n (en P "__module__" t m::en P "__qualname__" (t+2) (st x (t+1))::en P "__firstlineno__" (t+4) (.int l (t+3))::r)
def gw(t a:Nat):Obj:=⟨.type "getset_descriptor",none,.fields ⟨[st "__weakref__" t,.ref a,.builtin "ExceptionGroup.__weakref__",.none]⟩,⟨[]⟩⟩
def gd(t a:Nat):Obj:=⟨.type "getset_descriptor",none,.fields ⟨[st "__dict__" t,.ref a,.builtin "function.__dict__",.builtin "function.__dict__#set"]⟩,⟨[]⟩⟩
def ce(x:String)(b a k:Nat)(ss:List Value)(d t u:Nat):Obj:=cl x [.ref b] [.ref a,.ref b,.type "ValueError",.type "Exception",.type "BaseException",.type "object"] k ss [some (.ref d),none,some (st x t),some (st x u),some (.builtin "ValueError.__new__"),some (.bool true)]
def gl P:=[en P "__doc__" 166 .none,en P "__package__" 167 .none,en P "__loader__" 168 (.builtin "__main__.__loader__#opaque"),en P "__spec__" 169 .none,en P "__annotations__" 170 (.ref 6),en P "__builtins__" 171 (.ref 4),en P "__file__" 173 (st "/claim/cut.py" 172),en P "__cached__" 174 .none,en P "_wall" 193 (.ref 21),en P "VaultError" 220 (.ref 38),en P "NoDial" 252 (.ref 65),en P "NoLever" 284 (.ref 91),en P "NoPrice" 316 (.ref 117),en P "NoSetting" 339 (.ref 136),en P "TooMany" 362 (.ref 155),en P "is_whole" 371 (.ref 164),en P "is_row" 377 (.ref 169),en P "common" 389 (.ref 176),en P "multiple_of" 398 (.ref 183),en P "product_of" 407 (.ref 190),en P "unit_row" 413 (.ref 195),en P "MOST_DIALS" 417 (.int 6 416),en P "LEAST_SIZE" 419 (.int 2 418),en P "MOST_SIZE" 421 (.int 360 420),en P "MOST_LEVERS" 423 (.int 8 422),en P "LEAST_PRICE" 425 (.int 1 424),en P "MOST_PRICE" 427 (.int 1000 426),en P "Vault" 485 (.ref 239),en P "is_within" 494 (.ref 250),en P "need_sizes" 503 (.ref 257),en P "need_levers" 513 (.ref 264),en P "prices_for" 522 (.ref 271),en P "rests" 528 (.ref 276),en P "nought" 535 (.ref 283),en P "is_setting" 541 (.ref 288),en P "need_setting" 549 (.ref 295),en P "added" 555 (.ref 300),en P "mixed" 563 (.ref 305),en P "mixed_made" 575 (.ref 312),en P "unpulled" 583 (.ref 319),en P "pulled_once" 592 (.ref 326),en P "step_size" 602 (.ref 333),en P "taken_in" 617 (.ref 340),en P "lowered" 629 (.ref 347),en P "in_spans" 639 (.ref 354),en P "Rungs" 725 (.ref 419),en P "MOST_SETTINGS" 729 (.int 1024 728),en P "all_together" 735 (.ref 428),en P "_law_cell" 745 (.ref 435),en P "_law_mixed" 754 (.ref 442),en P "_law_free_sizes" 764 (.ref 449),en P "_law_sizes" 776 (.ref 456),en P "_law_digits" 786 (.ref 463),en P "_law_lever" 800 (.ref 470),en P "_law_sum" 806 (.ref 475),en P "_law_group" 812 (.ref 480),en P "_law_kept" 818 (.ref 485),en P "_law_setting" 824 (.ref 490),en P "_law_bad" 830 (.ref 495),en P "_law_listed" 836 (.ref 500),en P "_law_word" 845 (.ref 507),en P "_law_by_parts" 851 (.ref 512),en P "_law_large" 867 (.ref 519),en P "law" 873 (.ref 524)]
def LA(P:Params):List Obj:=[b0 P,b1 P,b2 P,b3 P,b4 P,b5 P,b6 P,b7 P,b8 P,b9 P,Qb P,b7 P,b8 P,cc "<module>" 182 1 11 12 185,fr 13 3 "__main__" 164]
noncomputable def o9:Obj:=⟨.type "builtin_function_or_method",none,(.fields ⟨[.builtin "type.__prepare__",.type "type"]⟩),⟨[]⟩⟩
def Qc:Obj:=gw 216 38
noncomputable def LR:=tu [.ref 38]
def L0 P:=pt (LA P) [(3,di 15 (en P "__name__" 165 m1::(gl P).take 14)),(12,fi [1,0,20,5,0,27,9,0,47,16,0,73,23,0,99,30,0,125])] (fT P 15 187 "_wall" (tp 0) 1 1 ["k"] m0++([tu [.type "ValueError"],o9,dA P 5 203 m1 "VaultError" 5 [en P "word" 214 (.ref 35),en P "__static_attributes__" 215 (.ref 36)],b7 P,fi [7,4,34],cc "VaultError" 198 5 25 26 201,fr 27 24 "dialvault.errors" 194]++(fA P 29 208 "word" "VaultError.word" (mp 2 0) 7 1 ["self"] .none m1++([b7 P,dB P 3 203 m1 5 [en P "word" 214 (.ref 35),en P "__static_attributes__" 215 (.ref 36),en P "__weakref__" 217 (.ref 39),en P "__doc__" 218 .none],cl "VaultError" [.type "ValueError"] [.ref 38,.type "ValueError",.type "Exception",.type "BaseException",.type "object"] 37 [.ref 65,.ref 91,.ref 117,.ref 136] [some (.ref 22),none,some (st "VaultError" 196),some (st "VaultError" 204),some (.builtin "ValueError.__new__"),some (.bool true)],Qc,su 38,ii 38,LR,o9,dA P 6 228 m1 "NoDial" 9 [en P "__init__" 240 (.ref 55),en P "word" 247 (.ref 62),en P "__static_attributes__" 249 (.ref 63)],b7 P,fi [11,4,54,14,4,61],cc "NoDial" 223 9 45 46 226,fr 47 44 "dialvault.errors" 194]++(fA P 49 233 "__init__" "NoDial.__init__" (mp 3 0) 11 2 ["self","dial"] .none m1++(fA P 56 241 "word" "NoDial.word" (mp 3 1) 14 1 ["self"] .none m1++([tu [st "dial" 248],dB P 2 228 m1 9 [en P "__init__" 240 (.ref 55),en P "word" 247 (.ref 62),en P "__static_attributes__" 249 (.ref 63),en P "__doc__" 250 .none],ce "NoDial" 38 65 64 [] 42 221 229,su 65,ii 65,LR,o9,dA P 6 260 m1 "NoLever" 16 [en P "__init__" 272 (.ref 81),en P "word" 279 (.ref 88),en P "__static_attributes__" 281 (.ref 89)],b7 P,fi [18,4,80,21,4,87],cc "NoLever" 255 16 71 72 258,fr 73 70 "dialvault.errors" 194]++(fA P 75 265 "__init__" "NoLever.__init__" (mp 4 0) 18 2 ["self","lever"] .none m1++(fA P 82 273 "word" "NoLever.word" (mp 4 1) 21 1 ["self"] .none m1++([tu [st "lever" 280],dB P 2 260 m1 16 [en P "__init__" 272 (.ref 81),en P "word" 279 (.ref 88),en P "__static_attributes__" 281 (.ref 89),en P "__doc__" 282 .none],ce "NoLever" 38 91 90 [] 68 253 261,su 91,ii 91,LR,o9,dA P 6 292 m1 "NoPrice" 23 [en P "__init__" 304 (.ref 107),en P "word" 311 (.ref 114),en P "__static_attributes__" 313 (.ref 115)],b7 P,fi [25,4,106,28,4,113],cc "NoPrice" 287 23 97 98 290,fr 99 96 "dialvault.errors" 194]++(fA P 101 297 "__init__" "NoPrice.__init__" (mp 5 0) 25 2 ["self","lever"] .none m1++(fA P 108 305 "word" "NoPrice.word" (mp 5 1) 28 1 ["self"] .none m1++([tu [st "lever" 312],dB P 2 292 m1 23 [en P "__init__" 304 (.ref 107),en P "word" 311 (.ref 114),en P "__static_attributes__" 313 (.ref 115),en P "__doc__" 314 .none],ce "NoPrice" 38 117 116 [] 94 285 293,su 117,ii 117,LR,o9,dA P 5 324 m1 "NoSetting" 30 [en P "word" 335 (.ref 133),en P "__static_attributes__" 336 (.ref 134)],b7 P,fi [32,4,132],cc "NoSetting" 319 30 123 124 322,fr 125 122 "dialvault.errors" 194]++(fA P 127 329 "word" "NoSetting.word" (mp 6 0) 32 1 ["self"] .none m1++([b7 P,dB P 2 324 m1 30 [en P "word" 335 (.ref 133),en P "__static_attributes__" 336 (.ref 134),en P "__doc__" 337 .none],ce "NoSetting" 38 136 135 [] 120 317 325,su 136,ii 136])))))))))))))))
def Oo:Obj:=gd 479 239
def Ow:Obj:=gw 481 239
def L1 P:=pt (L0 P) [(3,di 46 (en P "__name__" 165 m4::(gl P).take 45)),(12,fi [1,0,20,5,0,27,9,0,47,16,0,73,23,0,99,30,0,125,34,0,144,39,0,163,41,0,168,45,0,175,56,0,182,61,0,189,66,0,194,75,0,201,96,0,249,98,0,256,106,0,263,112,0,270,121,0,275,123,0,282,125,0,287,130,0,294,133,0,299,137,0,304,139,0,311,142,0,318,144,0,325,147,0,332,150,0,339,159,0,346,164,0,353]),(38,cl "VaultError" [.type "ValueError"] [.ref 38,.type "ValueError",.type "Exception",.type "BaseException",.type "object"] 37 [.ref 65,.ref 91,.ref 117,.ref 136,.ref 155] [some (.ref 22),none,some (st "VaultError" 196),some (st "VaultError" 204),some (.builtin "ValueError.__new__"),some (.bool true)])] ([LR,o9,dA P 5 347 m1 "TooMany" 34 [en P "word" 358 (.ref 152),en P "__static_attributes__" 359 (.ref 153)],b7 P,fi [36,4,151],cc "TooMany" 342 34 142 143 345,fr 144 141 "dialvault.errors" 194]++(fA P 146 352 "word" "TooMany.word" (mp 7 0) 36 1 ["self"] .none m1++([b7 P,dB P 2 347 m1 34 [en P "word" 358 (.ref 152),en P "__static_attributes__" 359 (.ref 153),en P "__doc__" 360 .none],ce "TooMany" 38 155 154 [] 139 340 348,su 155,ii 155]++(fT P 158 365 "is_whole" (tp 9) 39 1 ["thing"] m2++(fB P 165 372 "is_row" "is_row" (tp 10) 41 2 .none m2++(fT P 170 378 "common" (tp 11) 45 2 ["one","other","row","behind","times","rest"] m2++(fT P 177 390 "multiple_of" (tp 12) 56 1 ["numbers","multiple","number"] m2++(fT P 184 399 "product_of" (tp 13) 61 1 ["numbers","product","number"] m2++(fB P 191 408 "unit_row" "unit_row" (tp 14) 66 2 .none m2++([b7 P,o9,dA P 9 435 m3 "Vault" 75 [en P "__init__" 445 (.ref 208),en P "sizes" 452 (.ref 215),en P "levers" 459 (.ref 222),en P "prices" 466 (.ref 229),en P "around" 473 (.ref 236),en P "__static_attributes__" 478 (.ref 237)],b7 P,fi [77,4,207,85,4,214,88,4,221,91,4,228,94,4,235],cc "Vault" 430 75 199 200 433,fr 201 198 "dialvault.vault" 414,tu [.none]]++(fB P 204 440 "__init__" "Vault.__init__" (mp 22 0) 77 4 (.ref 203) m3++(fA P 209 446 "sizes" "Vault.sizes" (mp 22 1) 85 1 ["self"] .none m3++(fA P 216 453 "levers" "Vault.levers" (mp 22 2) 88 1 ["self"] .none m3++(fA P 223 460 "prices" "Vault.prices" (mp 22 3) 91 1 ["self"] .none m3++(fA P 230 467 "around" "Vault.around" (mp 22 4) 94 1 ["self"] .none m3++([tu [st "dial_sizes" 474,st "least_round" 475,st "lever_prices" 476,st "lever_settings" 477],dB P 4 435 m3 75 [en P "__init__" 445 (.ref 208),en P "sizes" 452 (.ref 215),en P "levers" 459 (.ref 222),en P "prices" 466 (.ref 229),en P "around" 473 (.ref 236),en P "__static_attributes__" 478 (.ref 237),en P "__dict__" 480 (.ref 240),en P "__weakref__" 482 (.ref 241),en P "__doc__" 483 .none],cl "Vault" [.type "object"] [.ref 239,.type "object"] 238 [] [none,none,some (st "Vault" 428),some (st "Vault" 436),some (.builtin "object.__new__"),some (.bool true)],Oo,Ow,su 239,ii 239]++(fT P 244 486 "is_within" (tp 23) 96 3 ["thing","least","most"] m3++(fT P 251 495 "need_sizes" (tp 24) 98 1 ["sizes","dial","size"] m3++(fT P 258 504 "need_levers" (tp 25) 106 2 ["levers","dials","place","lever"] m3++(fT P 265 514 "prices_for" (tp 26) 112 2 ["levers","prices","place"] m3++(fB P 272 523 "rests" "rests" (tp 27) 121 2 .none m3++(fT P 277 529 "nought" (tp 28) 123 1 ["vault"] m3++(fB P 284 536 "is_setting" "is_setting" (tp 29) 125 2 .none m3++(fT P 289 542 "need_setting" (tp 30) 130 2 ["vault","thing"] m3++(fB P 296 550 "added" "added" (tp 31) 133 4 .none m3++(fB P 301 558 "mixed" "mixed" (tp 33) 137 4 .none m4++(fT P 306 564 "mixed_made" (tp 34) 139 5 ["sizes","made","times","other","others","doing"] m4++(fT P 313 576 "unpulled" (tp 35) 142 2 ["vault","setting"] m4++(fT P 320 584 "pulled_once" (tp 36) 144 2 ["vault","lever","levers"] m4++(fT P 327 593 "step_size" (tp 37) 147 3 ["sizes","made_rows","dial","notch"] m4++(fT P 334 603 "taken_in" (tp 38) 150 3 ["sizes","made_rows","left","wider","dial","made","step","notch","found"] m4++(fT P 341 618 "lowered" (tp 39) 159 4 ["sizes","made_rows","made","first","dial","times"] m4++(fT P 348 630 "in_spans" (tp 40) 164 2 ["pulls","idle_rows","lever","row"] m4)))))))))))))))))))))))))))))))))
def Oz:Obj:=gd 719 419
def OI:Obj:=gw 721 419
def L2 P:=pt (L1 P) [(3,di 65 (en P "__name__" 165 m6::gl P)),(12,fi [1,0,20,5,0,27,9,0,47,16,0,73,23,0,99,30,0,125,34,0,144,39,0,163,41,0,168,45,0,175,56,0,182,61,0,189,66,0,194,75,0,201,96,0,249,98,0,256,106,0,263,112,0,270,121,0,275,123,0,282,125,0,287,130,0,294,133,0,299,137,0,304,139,0,311,142,0,318,144,0,325,147,0,332,150,0,339,159,0,346,164,0,353,169,0,360,210,0,427,223,0,434,227,0,441,231,0,448,240,0,455,251,0,462,257,0,469,268,0,474,270,0,479,287,0,484,289,0,489,291,0,494,297,0,499,301,0,506,310,0,511,320,0,518,333,0,523])] ([b7 P,o9,dA P 13 647 m4 "Rungs" 169 [en P "__init__" 657 (.ref 366),en P "steps" 663 (.ref 371),en P "rows" 669 (.ref 376),en P "spans" 675 (.ref 381),en P "idle" 682 (.ref 388),en P "brought_down" 690 (.ref 395),en P "least" 698 (.ref 402),en P "pulls_to" 706 (.ref 409),en P "weights_at" 714 (.ref 416),en P "__static_attributes__" 718 (.ref 417)],b7 P,fi [171,4,365,183,4,370,187,4,375,190,4,380,193,4,387,196,4,394,200,4,401,203,4,408,206,4,415],cc "Rungs" 642 169 358 359 645,fr 360 357 "dialvault.rungs" 556]++(fB P 362 652 "__init__" "Rungs.__init__" (mp 41 0) 171 2 .none m4++(fB P 367 658 "steps" "Rungs.steps" (mp 41 1) 183 1 .none m4++(fB P 372 664 "rows" "Rungs.rows" (mp 41 2) 187 1 .none m4++(fB P 377 670 "spans" "Rungs.spans" (mp 41 3) 190 1 .none m4++(fA P 382 676 "idle" "Rungs.idle" (mp 41 4) 193 1 ["self"] .none m4++(fA P 389 683 "brought_down" "Rungs.brought_down" (mp 41 5) 196 2 ["self","setting"] .none m4++(fA P 396 691 "least" "Rungs.least" (mp 41 6) 200 2 ["self","setting"] .none m4++(fA P 403 699 "pulls_to" "Rungs.pulls_to" (mp 41 7) 203 2 ["self","setting"] .none m4++(fA P 410 707 "weights_at" "Rungs.weights_at" (mp 41 8) 206 2 ["self","dial"] .none m4++([tu [st "idle_rows" 715,st "made_rows" 716,st "vault" 717],dB P 4 647 m4 169 [en P "__init__" 657 (.ref 366),en P "steps" 663 (.ref 371),en P "rows" 669 (.ref 376),en P "spans" 675 (.ref 381),en P "idle" 682 (.ref 388),en P "brought_down" 690 (.ref 395),en P "least" 698 (.ref 402),en P "pulls_to" 706 (.ref 409),en P "weights_at" 714 (.ref 416),en P "__static_attributes__" 718 (.ref 417),en P "__dict__" 720 (.ref 420),en P "__weakref__" 722 (.ref 421),en P "__doc__" 723 .none],cl "Rungs" [.type "object"] [.ref 419,.type "object"] 418 [] [none,none,some (st "Rungs" 640),some (st "Rungs" 648),some (.builtin "object.__new__"),some (.bool true)],Oz,OI,su 419,ii 419]++(fB P 424 730 "all_together" "all_together" (tp 44) 210 2 .none m5++(fT P 429 738 "_law_cell" (tp 46) 223 2 ["_law_script","_law_k"] m6++(fT P 436 746 "_law_mixed" (tp 47) 227 2 ["_law_cell_here","_law_k","_law_number"] m6++(fT P 443 755 "_law_free_sizes" (tp 48) 231 2 ["_law_rest","_law_most","_law_sizes_here","_law_room"] m6++(fT P 450 765 "_law_sizes" (tp 49) 240 2 ["_law_cell_here","_law_most","_law_sizes_here","_law_room","_law_k","_law_top"] m6++(fT P 457 777 "_law_digits" (tp 50) 251 2 ["_law_rest","_law_sizes_here","_law_found","_law_size"] m6++(fT P 464 787 "_law_lever" (tp 51) 257 2 ["_law_cell_here","_law_sizes_here","_law_by","_law_far","_law_lever_here","_law_k","_law_number","_law_turns"] m6++(fB P 471 801 "_law_sum" "_law_sum" (tp 52) 268 3 .none m6++(fB P 476 807 "_law_group" "_law_group" (tp 53) 270 2 .none m6++(fB P 481 813 "_law_kept" "_law_kept" (tp 54) 287 2 .none m6++(fB P 486 819 "_law_setting" "_law_setting" (tp 55) 289 3 .none m6++(fB P 491 825 "_law_bad" "_law_bad" (tp 56) 291 2 .none m6++(fB P 496 831 "_law_listed" "_law_listed" (tp 57) 297 2 .none m6++(fT P 501 837 "_law_word" (tp 58) 301 2 ["_law_vault","_law_setting_here","_law_word_here"] m6++(fB P 508 846 "_law_by_parts" "_law_by_parts" (tp 59) 310 1 .none m6++(fT P 513 852 "_law_large" (tp 60) 320 1 ["_law_cell_here","_law_counts","_law_steps","_law_sizes_here","_law_levers","_law_vault","_law_one","_law_due","_law_here","_law_there"] m6++(fB P 520 868 "law" "law" (tp 61) 333 1 .none m6))))))))))))))))))))))))))))
def LF(P:Params):=L2 P
def bE:List Stmt:=behindTheImports pw
noncomputable def env:Env:={ scope:=pw.main.scope,locals:=mainNs,globals:=mainNs,cells:=[],code:=.ref 13,frame:=some 14 }
def cE:Code:=.body bE env
noncomputable abbrev B:List Frame:=[topFrame ⟨0,0,0,0⟩]
noncomputable abbrev ann:Option Value:=(some (.ref 6))
noncomputable def Ii:List Stmt:=(bE.drop 0).take 7
noncomputable def KN:List Stmt:=(bE.drop 7).take 34
noncomputable def I0:List Stmt:=(bE.drop 41).take 21
end
def AQ:∀w:World,(λos=>topGo treeTable pw w 11 ann 12 ⟨boot_heap w.params,⟨[]⟩,boot_drawn,boot_toks,os⟩ (topStub pw))=λos=>some (F LA 187 w os,⟨denote treeTable cE,cE,⟨0,0,0,0⟩,B⟩):=λw=>by
 rw[PySem.W.Fast.te15667345088766844465,V0,PySem.W.Fast.te11892475500146522536]
 kernel_rfl
def Oe:∀w:World,(λos=>segRun treeTable pw w 11 ann 1 1 (F LA 187 w os) (blockOf bE env cE ⟨0,0,0,0⟩ B))=λos=>some (acs,(S LA 15 187 w os).abs,cE,⟨0,0,0,0⟩):=λw=>by
 rw[PySem.W.Fast.te14374325043358763698,V0]
 kernel_rfl
def P5:∀w:World,(λos=>segRunT treeTable pw w 11 ann 1 1326 (S LA 15 187 w os) (piecesOf Ii env cE ⟨0,0,0,0⟩ B))=λos=>some (acs,S L0 139 340 w os,cE,⟨30,0,33,16⟩):=λw=>by
 rw[Xm,V0]
 kernel_rfl
def PC:∀w:World,(λos=>segRunT treeTable pw w 11 ann 1 1366 (S L0 139 340 w os) (piecesOf KN env cE ⟨30,0,33,16⟩ B))=λos=>some (acs,S L1 355 640 w os,cE,⟨164,0,168,16⟩):=λw=>by
 rw[Xm,V0]
 kernel_rfl
def A7:∀w:World,(λos=>segRunT treeTable pw w 11 ann 1 989 (S L1 355 640 w os) (piecesOf I0 env cE ⟨164,0,168,16⟩ B))=λos=>some (acs,S L2 525 874 w os,cE,⟨333,0,348,48⟩):=λw=>by
 rw[Xm,V0]
 kernel_rfl
def IQ:∀w:World,(λos=>topRun treeTable pw w 11 ann 2 (S L2 525 874 w os).abs ⟨doneF .next,cE,⟨333,0,348,48⟩,B⟩)=λos=>some (F LF 874 w os):=λw=>by
 rw[PySem.W.Fast.te14082659384304107361,V0]
 kernel_rfl
def PU:bE=(Ii++(KN++(I0++[]))):=by kernel_rfl
def DY(w:World)(os:OsState):topRun treeTable pw w 11 ann (1326+(1366+(989+2))) (S LA 15 187 w os).abs (restOf bE env cE ⟨0,0,0,0⟩ B)=some (F LF 874 w os):=by
 rw[show restOf bE env cE ⟨0,0,0,0⟩ B=restOf (Ii++(KN++(I0++[]))) env cE ⟨0,0,0,0⟩ B from congrArg (λb=>restOf b env cE ⟨0,0,0,0⟩ B) PU];exact piece_app (segRun_of (congrFun (P5 w) os)) (piece_app (segRun_of (congrFun (PC w) os)) (piece_app (segRun_of (congrFun (A7 w) os)) (piece_nil (congrFun (IQ w) os))))
def O_(w:World)(os:OsState):topRun treeTable pw w 11 ann (12+(1+(1326+(1366+(989+2))))) ⟨boot_heap w.params,⟨[]⟩,boot_drawn,boot_toks,os⟩ (topStub pw)=some (F LF 874 w os) :=
 go_top (congrFun (AQ w) os) (piece_block (congrFun (Oe w) os) (DY w os))
end HD
end
section
namespace HD
open PySem PySem.W L2
noncomputable section
noncomputable def vw:Program:=PySem.W.view pw [0,2,3,4,5,6,7,9,10,11,12,13,14,16,17,18,19,20,21,22,23,24,25,26,27,28,29,30,31,33,34,35,36,37,38,39,40,41,43,44,46,47,48,49,50,51,52,53,54,55,56,57,58,59,60,61]
def loose:List Str:=[]
noncomputable def as:List Addr:=[2,3,15,17,18,20,21,22,29,31,32,34,35,36,37,38,39,42,49,51,52,54,55,56,58,59,61,62,63,64,65,68,75,77,78,80,81,82,84,85,87,88,89,90,91,94,101,103,104,106,107,108,110,111,113,114,115,116,117,120,127,129,130,132,133,134,135,136,139,146,148,149,151,152,153,154,155,158,160,161,163,164,165,168,169,170,172,173,175,176,177,179,180,182,183,184,186,187,189,190,191,194,195,203,204,207,208,209,211,212,214,215,216,218,219,221,222,223,225,226,228,229,230,232,233,235,236,237,238,239,240,241,244,246,247,249,250,251,253,254,256,257,258,260,261,263,264,265,267,268,270,271,272,275,276,277,279,280,282,283,284,287,288,289,291,292,294,295,296,299,300,301,304,305,306,308,309,311,312,313,315,316,318,319,320,322,323,325,326,327,329,330,332,333,334,336,337,339,340,341,343,344,346,347,348,350,351,353,354,362,365,366,367,370,371,372,375,376,377,380,381,382,384,385,387,388,389,391,392,394,395,396,398,399,401,402,403,405,406,408,409,410,412,413,415,416,417,418,419,420,421,424,427,428,429,431,432,434,435,436,438,439,441,442,443,445,446,448,449,450,452,453,455,456,457,459,460,462,463,464,466,467,469,470,471,474,475,476,479,480,481,484,485,486,489,490,491,494,495,496,499,500,501,503,504,506,507,508,511,512,513,515,516,518,519,520,523,524]
def K(P:Params):Frag:=as.map λa=>(a,(LF P).getD a (su 0))
def hook:Hook:=kHook K as (λ_=>by kernel_rfl)
noncomputable abbrev rr:RowW:=(PySem.Challenge.rw_dialvault_k32_all_that_belong_together.row).toRowW
noncomputable def Xt:Shared->Bool:=λs=>xlAt vw [] s&&recOk (RowW.records rr) s
def H1(P:Params):Heap:=⟨⟨LF P⟩,{}⟩
end
def Nr:∀w:World,((boot_heap w.params).isNs mainGlobals&&(Array.mk []:Array GenState).size==0,(boot_heap w.params).objs.size,(boot_heap w.params).nsMap mainGlobals "__annotations__")=(true,11,ann):=λw=>by
 rw[PySem.W.Fast.te8920871248978507458]
 kernel_rfl
def PF(w:World):staticsOk (importedModules pw.main.body) (boot_heap w.params) (H1 w.params)=true:=by
 first|(rw[Vi,Vj];kernel_rfl)|(rw[Vi];kernel_rfl)|(rw[Vj];kernel_rfl)|(kernel_rfl)
def P6(w:World):namesBound pw (H1 w.params)=true:=by
 first|(rw[Vi,Vj];kernel_rfl)|(rw[Vi];kernel_rfl)|(rw[Vj];kernel_rfl)|(kernel_rfl)
def PH(w:World)(os:_):gensDone ⟨H1 w.params,⟨[]⟩,⟨0,0,0,0⟩,874,os⟩=true:=by
 first|(rw[Vi,Vj];kernel_rfl)|(rw[Vi];kernel_rfl)|(rw[Vj];kernel_rfl)|(kernel_rfl)
def PQ(w:World):laidKept (boot_heap w.params) (H1 w.params)=true:=by
 first|(rw[Vi,Vj];kernel_rfl)|(rw[Vi];kernel_rfl)|(rw[Vj];kernel_rfl)|(kernel_rfl)
def PK(w:World)(os:_):openSeen vw loose (importedModules pw.main.body) Xt true ⟨H1 w.params,⟨[]⟩,⟨0,0,0,0⟩,874,os⟩=openGood vw loose:=by
 first|(rw[Vi,Vj];kernel_rfl)|(rw[Vi];kernel_rfl)|(rw[Vj];kernel_rfl)|(kernel_rfl)
def PJ(w:World)(os:_):Hook.obs hook ⟨H1 w.params,⟨[]⟩,⟨0,0,0,0⟩,874,os⟩=Hook.val hook w:=by
 first|(rw[Vi,Vj];kernel_rfl)|(rw[Vi];kernel_rfl)|(rw[Vj];kernel_rfl)|(kernel_rfl)
def Lm:∀w:World,(λos=>((staticsOk (importedModules pw.main.body) (boot_heap w.params) (H1 w.params)&&namesBound pw (H1 w.params)&&gensDone ⟨H1 w.params,⟨[]⟩,⟨0,0,0,0⟩,874,os⟩&&laidKept (boot_heap w.params) (H1 w.params)),openSeen vw loose (importedModules pw.main.body) Xt true ⟨H1 w.params,⟨[]⟩,⟨0,0,0,0⟩,874,os⟩,Hook.obs hook ⟨H1 w.params,⟨[]⟩,⟨0,0,0,0⟩,874,os⟩))=λ_=>(true,openGood vw loose,Hook.val hook w):=λw=>funext λos=>by
 rw[PF,P6,PH,PQ,PK,PJ];rfl
def LW:LeftO pw vw loose Xt (Hook.obs hook) (Hook.val hook) 7482 :=
 LeftO.of_pieces (H₀:=boot_heap) (H₁:=H1) (gs₀:=⟨[]⟩) (gs₁:=⟨[]⟩) (d₀:=boot_drawn) (d₁:=⟨0,0,0,0⟩) (k₀:=boot_toks) (k₁:=874) (m₀:=11) (ann:=ann) (M:=(12+(1+(1326+(1366+(989+2))))))
  (boot_open ↑10 ↑10 (λs=>by kernel_rfl)) Nr O_ ↑10 Lm
end HD
end
section
open PySem PySem.W
def HD.said:PySem.Challenge.rw_dialvault_k32_all_that_belong_together.wellSaid=true:=by
 decide +kernel
end
namespace L2
open PySem PySem.Spec PyProof.Rows
variable{X:Cx}
variable{n:Nat}
def CT(_ j:Int):Prop:=j≠0/\j.natAbs.log2<9000
def Dk:gQ X (binaryOp .FloorDiv) (rI CT λi j=>.int (i.fdiv j)):=Nz λ_ _ _ _ _ _ _ hc q=>floordiv_int hc.1 q (.inl (PyProof.noPylong_of_log2 hc.2))
def Ga:gQ X (binaryOp .Mult) (rI (λi j=>IntMulOk i j) λi j=>.int (i*j)):=Nz λ_ _ _ _ _ _ _ hc q=>mul_int q hc
def Bg{a b:Int}{m:Nat}(ha:a.natAbs<2^m)(hb:b.natAbs<2^n)(h:m+n<=134217728):IntMulOk a b:=IntMulOk.of_le (intBits_le_iff.mpr ha) (intBits_le_iff.mpr hb) h
def Ca:bootBuiltins "isinstance"=some (.builtin "isinstance"):=by decide +kernel
def Iv:bootBuiltins "int"=some (.type "int"):=by decide +kernel
def G9:bootBuiltins "bool"=some (.type "bool"):=by decide +kernel
def mn:bootBuiltins "tuple"=some (.type "tuple"):=by decide +kernel
def u6:bootBuiltins "list"=some (.type "list"):=by decide +kernel
def NY(K:UU):List V->Hp->VK->Prop:=λxs H Q=>∃x T t b,xs=[x,.ty T]/\j8 K H x t/\W9 K t (.type T)=some b/\Q (.bl b) H
def CU:du X (.builtin "isinstance") (NY X.K):=by
 intro Qg s σ H xs us Q I r h;obtain⟨x,T,t,b,rfl,ty,e,q⟩:=h;cases r with
 | cons r1 r2 =>
  cases r2 with
  | cons r3 r4 =>
   cases r4;cases (show _=Wm T from r3);exact AI I r1 ty e λtk=>⟨.bl b,H,I.tok tk,rfl,q⟩
section
variable(K:UU)
end
variable{o:HO}{ch:List Addr}{t':Nat}{h':Heap}{s:Shared}{H:Hp}{σ:St}{Qg:List (Addr×Obj)}
variable{x1:Nat}{elts:List Expr}{w:World}{P:Program}
def Inv.kz{a:Addr}(I:Inv X Qg σ H s)(k:∀b u,b ∉ ch->s.heap.get? b=some u->h'.get? b=some u)(R3:∀b∈ch,lp X Qg H b)(hp:s.heap.objs.size<=a)(hl:∀b∈ch,∃u,s.heap.get? b=some u)(new:bw X.prog X.w (upd H a o) h' a o):Inv X Qg σ (upd H a o) { s with heap:=h',toks:=t' }:=by
 have ne:∀b u,s.heap.get? b=some u->b≠a:=λb u e=>Vh (U8 (U3 e) hp);have SX:H a=none:=I.bq.fresh hp;have Tb:∀b u,H b=some u->b ∉ ch:=λb u e z=>by rw[(R3 b z).1] at e;cases e
 have Ta:∀b u,H b=some u->b≠a:=λb u e z=>by rw[z,SX] at e;cases e
 refine I.step (g':=s.gens) (d':=s.drawn) (ch:=ch) (λb hb=>?_) (λb u _ _ hc e _=>k b u hc e) (λb u _ _ hc e _=>⟨u.slots,k b u hc e⟩)
  (λb u _ e n=>by rwa[au (ne b u e)]) (λb u hc e=>⟨u,k b u hc e⟩)
  (λb xs e=>by rwa[au (Ta b _ e)]) (λb ob u e=>by rwa[au (Ta b _ e)]) (λb ps e=>⟨#[],by rw[au (Ta b _ e),e];simp⟩) (λm hm=>?_) (λb u e=>?_) I.bare
 .obtain⟨_,f1,_,f3,f4,f5⟩:=R3 b hb;exact⟨f3,f1,f4,f5⟩
 .obtain⟨ob,es,ep,ho,r⟩:=hm;exact⟨ob,es,ep,k _ ob (λz=>(R3 _ z).2.1 rfl) ho,r⟩
 .by_cases z:b=a
  .subst z;rw[av] at e;cases e;exact new
  .rw[au z] at e;refine(I.bq b u e).mB (λc v hc q=>k c v ?_ q) (λc q=>?_) λc ys q=>?_
   .rcases hc with z'|z'
    .rw[z'];exact Tb b u e
    .exact Tb c _ z'
   .rw[au (Ta c _ q)];exact q
   .rw[au (Ta c _ q)];exact q
def Ko (K : UU)(a : Addr) : It :=
  ⟨λi H => ∃xs x,g9 K H a xs /\ xs[i]? = some x,
   λi H y H' => ∃p x,H p=none /\ y=.ref p /\ H'=upd H p (.tup [.int i,x]) /\ ∀xs,g9 K H a xs -> xs[i]? = some x,
   λi H => ∃xs,g9 K H a xs /\ xs.length <= i⟩
theorem Aw{K:UU}{tp:Pos}(a e it:Addr)(SG:e≠it):Turn P w K (.Tuple elts x1 tp) (Ko K a) [e,it] e (λi h=>(∃old,IsEnum h e it i old)/\h.IsListIter it a i) where
 mem:=by simp
 obj:=λi h st b hb=>by
  obtain⟨⟨old,he⟩,⟨o,e1,c,d⟩⟩:=st;rcases U9.mp hb with z|z
  .subst z;exact⟨_,he,λv z=>by cases z⟩
  .have z':b=it:=by simpa using z
   subst z';exact⟨o,e1,λv z=>by rw[d] at z;cases z⟩
 keep:=λi h h' st k=>by
  obtain⟨⟨old,he⟩,hit⟩:=st;exact⟨⟨old,k e ↑13 _ he⟩,hit.at λo x=>k it ↑13 o x⟩
 item:=by
  intro X hP hw hK hc i Qg s σ H E I hf st hg;subst hP hw hK;obtain⟨xs,x,hq,hx⟩:=hg;obtain⟨Qo,rv,p,hz⟩:=I.list hq;obtain⟨u,hu,ru⟩:=rv.get hx;obtain⟨⟨old,he⟩,hit⟩:=st;have SU:e<s.heap.objs.size:=U3 he;have TM:it<s.heap.objs.size:=by obtain⟨_,z,_⟩:=hit;exact U3 z
  refine wpAny_pyNext_enum_item he hit p.isList (x:=u) (by simpa using hu) SG λh' ho TN hT hsz hk=>⟨_,rfl,?_⟩
  refine Z5 (s:={ s with heap:=h',toks:=s.toks+1 }) ho λh2 Uq Rx=>?_;have S8:∀b o,b ∉ [e,it]->s.heap.get? b=some o->h2.get? b=some o:=λb o hb q=>by
   have n1:b≠e:=λz=>hb (by simp[z]);have n2:b≠it:=λz=>hb (by simp[z]);exact(Rx.2 b n1).trans (hk b o n1 n2 q)
  have Ti:h2.get? s.heap.objs.size=some { cls:=.type "tuple",data:=.seq #[.int i s.toks,u] }:=(Rx.2 _ (WB SU)).trans hT;have I2:Inv X Qg σ (upd H s.heap.objs.size (.tup [.int i,x])) { s with heap:=h2,toks:=s.toks+1 } :=
   I.kz (ch:=[e,it]) S8 hf (UZ _) (λb hb=>by
    rcases U9.mp hb with z|z
    .subst z;exact⟨_,he⟩
    .have z':b=it:=by simpa using z
     subst z';obtain⟨o,z,_⟩:=hit;exact⟨o,z⟩)
    ⟨by show 2<=sizeLine;decide,[.int i s.toks,u],.cons ⟨_,rfl⟩ (.cons ru .nil),⟨_,Ti,rfl,_,rfl⟩⟩
  have RF:H s.heap.objs.size=none:=I.bq.fresh (UZ _);refine⟨.ref s.heap.objs.size,_,I2,rfl,⟨_,x,RF,rfl,rfl,λys hy=>by rwa[I.qX hy hq]⟩,⟨⟨u,by simpa using Uq⟩,TN.at λo z=>(Rx.2 it (W5 SG)).trans z⟩,λb hb=>?_⟩;have nb:b≠s.heap.objs.size:=by
   rcases U9.mp hb with z|z
   .rw[z];exact Vh SU
   .have z':b=it:=by simpa using z
    rw[z'];exact Vh TM
  rw[au nb];exact(hf b hb).1
 done:=by
  intro X hP hw hK hc i Qg s σ H E I hf st hg;subst hP hw hK;obtain⟨xs,hq,hx⟩:=hg;obtain⟨Qo,rv,p,hz⟩:=I.list hq;have hl:=rv.length;obtain⟨⟨old,he⟩,hit⟩:=st;obtain⟨f0,f1,f2,f3,f4,f5⟩:=hf it ↑13;exact wpAny_pyNext_enum_end (I.ok.hd hc) he hit p.isList (by simp;lia) λh' eb=>⟨rfl,I.turned (t':=s.toks) (λb o hb e=>eb b o hb e) f0 f1 f3 f4 f5⟩
 self:=λ_ _ _ _ _ st h=>by
  obtain⟨⟨old,he⟩,_⟩:=st;exact YX he h
variable{A:Around}{prog:Program}
variable{scope:Scope}{ifs:List Expr}{elt iter:Expr}
section
variable{R:Result->Shared->Prop}
def Af{target:Expr}{pos:Pos}{it acc:Value}{env:Env}(I:Nat->Shared->Prop)
  (turn:∀n s,I n s->wpAny ↑11 A (pyNext it) (λr s₁=>match r with
   | none=>R (.ok .next) s₁
   | some v=>wpAny ↑11 A (letOwnedTupleGo target it v) (λ_ s₂=>wpAny ↑11 A (assign target env v) (λ_ s₃ =>
     wpAny ↑11 A (forIn ifs true λc r=>if r=true then do let ok <- isTrue c env (eval c env);pure (aa2 ok) else pure (aa2 r)) (λok s₄ =>
      if ok=true then wpAny ↑11 A (eval elt env) (λx s₅ =>
       wpAny ↑11 A (call (.builtin "list.append") [acc,x]) (λ_ s₆=>∃m,m<n/\I m s₆) (λ_ _=>False) s₅) (λ_ _=>False) s₄
      else ∃m,m<n/\I m s₄) (λ_ _=>False) s₃) (λ_ _=>False) s₂) (λ_ _=>False) s₁) (λ_ _=>False) s)
  (n:Nat) (h:I n s) :
  codeAny ↑11 A (.compLoop (.ListComp elt [⟨target,iter,ifs,0⟩] scope pos) 0 it acc env) R s:=by
 refine codeAny_loop rfl I (λn s hI=>?_) n h;show wpAny _ A ((compTurn (.ListComp elt [⟨target,iter,ifs,0⟩] scope pos) 0 it acc env).onRaise (λx=>do noteFrame x env;theTreesLotGoes x)) _ _ s;refine wpAny_noted ?_;rw[compTurn_list];refine TR (Zl (TR (Wu (turn n s hI) (λr s₁ h₁=>?_) λ_ _ h'=>h'.elim)));cases r with
 | none=>exact UX h₁
 | some v =>
  refine TR (Wu h₁ (λ_ s₂ h₂=>TR (Wu h₂ (λ_ s₃ h₃=>TR (Wu h₃ (λok s₄ h₄=>?_) λ_ _ h'=>h'.elim)) λ_ _ h'=>h'.elim)) λ_ _ h'=>h'.elim);cases ok with
  | false=>exact UX ⟨rfl,h₄⟩
  | true =>
   exact TR (TR (Wu h₄ (λx s₅ h₅=>TR (Wu h₅ (λ_ s₆ h₆=>UX (UX ⟨rfl,h₆⟩)) λ_ _ h'=>h'.elim)) λ_ _ h'=>h'.elim))
end
noncomputable def rj(X:Cx)(scope:Scope)(cl:List (Str×Addr))(N:List Str)(C:Addr)(s₀:Shared)(H₀:Hp)(ex:List Addr)(Qg:List (Addr×Obj)):Cx :=
 { X with N:=N,s₀:=s₀,H₀:=H₀,env:=compEnvC scope cl C X.env,outer:=X.stack,stack:=X.stack,ex:=ex,fn:=λ_=>false,pn:=X.pn++Qg,xe:=λ_ _=>False }
inductive iE (X:Cx) (sc:Scope) (cl:List (Str×Addr)):List Str->List Nat->Prop where
 | nil:iE X sc cl [] []
 |cons {x:Str} {j:Nat} {c:Addr} {fs:List Str} {js:List Nat} (hN:X.N[j]?=some x) (hf:sc.names.lookup x=some .free) (hv:X.env.kindOf x=some .cell\/X.env.kindOf x=some .free) (hc:X.env.cells.lookup x=some c) (hl:cl.lookup x=some c) (r:iE X sc cl fs js):iE X sc cl (x::fs) (j::js)
inductive eN (X:Cx):List (Str×Addr)->Prop where
 | nil:eN X []
 |cons {x:Str} {c:Addr} {r:List (Str×Addr)} (h:X.env.cells.lookup x=some c) (t:eN X r):eN X ((x,c)::r)
theorem eN.at{X:Cx}:∀{cl:List (Str×Addr)},eN X cl->∀x c,cl.lookup x=some c->X.env.cells.lookup x=some c
 | _,.nil,_,_,e=>by simp at e
 | _,.cons (x:=y) (c:=d) h t,x,c,e=>by
  rw[Ws] at e;cases q:x==y with
  | true =>
   rw[q] at e;have e':d=c:=Vf e;have q':x=y:=by simpa using q
   rwa[q',<- e']
  | false =>
   rw[q] at e;exact eN.at t x c e
def h_(cl:List (Str×Addr))(names:List (Str×NameKind)):Bool:=names.all λy=>y.2 != .free||(cl.lookup y.1).isSome
def f7(names:List (Str×NameKind)):Bool:=names.all λy=>y.2 != .cell
def hG(names:List (Str×NameKind)):Bool:=names.all λy=>y.2 != .local||(names.lookup y.1==some .local)
noncomputable def fJ(ts:List Str)(js:List Nat)(σ:St):St:=ts.map (λ_=>none)++js.map λj=>(σ[j]?).join
def Di(wi:TI)(g:TG)(tt:Option TT)(te:TE)(ts:List Str)(js:List Nat):TE:=fun σ H Q=>wi σ H λJ H1=>∀D,H1 D=none ->
 ∃ W:Nat->Nat->St->Hp->Prop,(∃m,W 0 m (fJ ts js σ) (upd H1 D (.lst [])))/\∀i m σ' H',W i m σ' H' ->
  (J.stop i H'/\Q (.ref D) H')\/(J.go i H'/\∃N:St->Hp->Prop,(∀σ'' H'',N σ'' H''->∃m',m'<m/\W (i+1) m' σ'' H'') ∧
   ∀ x H2,J.vd i H' x H2->g x σ' H2 fun σ2 H3=>match tt with
    | none=>te σ2 H3 λy H4=>∃ys,H4 D=some (.lst ys)/\ys.length<sizeLine/\N σ2 (upd H4 D (.lst (ys++[y])))
    |some t=>t σ2 H3 λb T_=>if b=true then te σ2 T_ λy H4=>∃ys,H4 D=some (.lst ys)/\ys.length<sizeLine/\N σ2 (upd H4 D (.lst (ys++[y]))) else N σ2 T_)
variable{x:Str}{C:Addr}
def qU {cl : List (Str × Addr)}{env : Env}(h : (compEnvC scope cl C env).kindOf x=some .cell \/ (compEnvC scope cl C env).kindOf x=some .free)(nc : f7 scope.names=true) : scope.names.lookup x=some .free := by
  have key : ∀(names : List (Str × NameKind)),f7 names=true ->
      ((names.map λ(n,k) => if (k == Zm && env.scope.kind == .function && env.kindOf n == some .cell) then (n,abB) else (n,k)).lookup x=some .cell ∨
       (names.map λ(n,k) => if (k == Zm && env.scope.kind == .function && env.kindOf n == some .cell) then (n,abB) else (n,k)).lookup x=some .free) -> names.lookup x=some .free := by
    intro names
    induction names with
    | nil => intro _ h; simp at h
    | cons p r ih =>
      obtain ⟨n,k⟩ := p;intro nc h;have nc' : (k != .cell)=true /\ f7 r=true := by
        unfold f7 at nc;rw [aap,VR] at nc;exact nc
      rw [Vg] at h;dsimp only at h
      by_cases hc : (k == Zm && env.scope.kind == .function && env.kindOf n == some .cell)=true
      . rw [if_pos hc] at h;rw [Ws] at h ⊢;cases q : x == n with
        | true =>
          have : k=.free := by
            rw [VR,VR] at hc;simpa using hc.1.1
          rw [this]
        | false =>
          rw [q] at h;exact ih nc'.2 h
      . rw [if_neg hc] at h;rw [Ws] at h ⊢;cases q : x == n with
        | true =>
          rw [q] at h;have nk : k ≠ .cell := by simpa using nc'.1
          rcases h with h|h
          . exact absurd (Vf h) nk
          . exact h
        | false =>
          rw [q] at h;exact ih nc'.2 h
  exact key scope.names nc h
variable{js:List Nat}{ts:List Str}{te:TE}{tt:Option TT}{Qu:Pos}{tg:Expr}
theorem vj{cl:List (Str×Addr)}{pos:Pos}{wi:TI}{g:TG}{fs:List Str}(Qt:X.calm=true)(QK:closureFor scope X.env=pure cl)(hk:scope.kind=.function)(nc:f7 scope.names=true)(lo:hG scope.names=true)(fh:h_ cl scope.names=true)(ag:eN X cl)(fr:iE X scope cl fs js)(hi:PI X tg iter wi)(hg:∀C s₀ H₀ ex Qg,PG (rj X scope cl (ts++fs) C s₀ H₀ ex Qg) tg g)(ht:∀C s₀ H₀ ex Qg,match ifs,tt with|[],none=>True|[c],some t=>PT (rj X scope cl (ts++fs) C s₀ H₀ ex Qg) c t|_,_=>False)(he:∀C s₀ H₀ ex Qg,PE (rj X scope cl (ts++fs) C s₀ H₀ ex Qg) elt te)(hs:∀x,foldedSetIterable iter X.env x=pure x){Q:VK}(I:Inv X Qg σ H s)(h:Di wi g tt te ts js σ H Q)(use:Option (Value->Sem Unit))(Qv:Value->Shared->Prop)(IQ:∀(D:Addr)(H':Hp)(s':Shared)(C:Addr),Inv X Qg σ H' s'->Q (.ref D) H'->(∃m,s'.heap.Ns C m)->lp X Qg H' C->compPost ↑8 X.A X.xe use Qv (.ref D) C (.ok .next) s'):wpAny ↑8 X.A (comprehension (.ListComp elt [⟨tg,iter,ifs,0⟩] scope pos) scope X.env Qu (newList []) false (eval iter X.env) use) Qv X.xe s:=by
 have Sk:∀y∈scope.names,y.2≠.cell:=λy hy=>by
  have:=Wd.mp nc y hy;simpa using this
 have TQ:∀y∈scope.names,y.2=.local->scope.names.lookup y.1=some .local:=λy hy hl=>by
  have:=Wd.mp lo y hy;rw[hl] at this;simpa using this
 refine wpAny_comprehension_free (use:=use) rfl hs QK hk TQ (ck (hi Qg s σ H _ I h) λv s1 h1=>ck h1 λitv s2 h2=>?_);obtain⟨it,fp,tn,J,H1,e,I2,T,Qz,f2,hJ⟩:=h2;subst e;refine Wi (wpAny_newFunctionEnv Sk (by intro y hy;simp at hy) (λh₁ hns1 hsb1=>?_) hk);dsimp only at hns1 hsb1 ⊢;generalize hH2:s2.heap.push { cls:=.type "list",dict:=none,data:=.seq ([]:List Value).toArray }=G at hns1 hsb1 ⊢;have hC:G.objs.size=s2.heap.objs.size+1:=by rw[<- hH2,VN]
 have old:∀b o,s2.heap.get? b=some o->h₁.get? b=some o:=λb o e=>by
  have hb:=U3 e;refine hsb1.extBut b o (Vh (U8 hb (Xg (by rw[hC];exact WZ _)))) (UT _ ?_);rw[<- hH2];exact UT _ e
 have SK:h₁.get? s2.heap.objs.size=some { cls:=.type "list",dict:=none,data:=.seq #[] }:=by
  refine hsb1.extBut _ _ (Vh (by rw[hC];exact WZ _)) (UT _ ?_);rw[<- hH2];exact U1 _ rfl
 have nD:H1 s2.heap.objs.size=none:=I2.bq.fresh (UZ _);have nC:H1 G.objs.size=none:=I2.bq.fresh ⋯;obtain⟨W,⟨m0,w0⟩,turn⟩:=hJ _ nD;have Ur:∀b∈fp,b<s2.heap.objs.size:=λb hb=>by
  obtain⟨o,e,_⟩:=T.obj _ _ Qz b hb;exact U3 e
 have ltk:∀(x:Str)(c:Addr),cl.lookup x=some c->c<s2.heap.objs.size/\H1 c=none/\(∃v,s2.heap.IsCell c v):=λx c e=>by
  have e':=ag.at x c e;obtain⟨v,q⟩:=I2.cell x c e';exact⟨q.lt,I2.gf x c e',v,q⟩
 let X':=rj X scope cl (ts++fs) G.objs.size s2 H1 fp Qg
 have okX:X'.Ok:=by
  refine⟨I2.ok.mod,hk,I2.ok.glob,I2.ok.blt,by show s2.heap.objs.size<=G.objs.size;lia,λx y c e1 e2=>I2.ok.inj x y c (ag.at x c e1) (ag.at y c e2),λx hx=>?_,λx c hf _=>(nomatch (show (false:Bool)=true from hf)),I2.ok.hd,I2.ok.frames,.inl rfl,λb hb=>⟨?_,λx c e z=>?_⟩,λb o e=>I2.bs b o e,VM I2.ok.Ee I2.sz,λb o e hb=>?_,λb hb hz=>?_,I2.stack,λb hb=>I2.tW b hb⟩
  .have Sl:=qU (env:=X.env) hx nc;have hm:∃y∈scope.names,y.1=x/\y.2=.free:=by
    have:∀(l:List (Str×NameKind)),l.lookup x=some .free->∃y∈l,y.1=x/\y.2=.free:=by
     intro l
     induction l with
     | nil=>intro h;simp at h
     | cons p r ih =>
      intro h;rw[Ws] at h;cases q:x==p.1 with
      | true =>
       rw[q] at h;exact⟨p,VA,(by simpa using q:x=p.1).symm,Vf h⟩
      | false =>
       rw[q] at h;obtain⟨y,hy,r1,r2⟩:=ih h;exact⟨y,Vm _ hy,r1,r2⟩
    exact this _ Sl
   obtain⟨y,hy,r1,r2⟩:=hm;have:=Wd.mp fh y hy;rw[r2] at this;have h':(cl.lookup y.1).isSome=true:=by simpa using this
   rw[r1] at h';exact Yw.mp h'
  .exact Vh (U8 (Ur b hb) (by show s2.heap.objs.size<=G.objs.size;lia))
  .exact(f2 b hb).2.2.2.2.1 x c (ag.at x c e) z
  .obtain⟨_,_,_,f3,_,_⟩:=f2 b hb;rcases f3 with z|z
   .exact I2.ok.uZ b o e z
   .exact absurd (U8 (U3 (I2.ok.bs b o e).1) z) (Xl _)
  .rcases U9.mp (I2.uS b hz) with z|z
   .exact(f2 b hb).2.1 z
   .exact(f2 b hb).2.2.1 z
 have keepB:∀b o,s2.heap.get? b=some o->h₁.get? b=some o:=old;have I3:Inv X' [] (fJ ts js σ) (upd H1 s2.heap.objs.size (.lst [])) { s2 with heap:=h₁,toks:=s2.toks+([]:List (Str×Value)).length }:=by
  have neD:∀b o,s2.heap.get? b=some o->b≠s2.heap.objs.size:=λb o e=>Vh (U3 e);refine⟨okX,rfl,I2.bare,⟨λb o e n hb hx=>old b o e,λb o e n hb hx=>⟨o.slots,old b o e⟩,λb o e n hx=>by rwa[au (neD b o e)],λb o e hx=>⟨o,old b o e⟩,λb xs e=>?_,λb o u e=>?_,λb ps e=>?_⟩,⟨_,hns1,λi x v e1 e2 e3=>?_⟩,λx c e=>?_,?_,λx c e=>?_,λp hp=>?_,?_,?_⟩
  .rw[au (bN e nD)];exact e
  .rw[au (bN e nD)];exact e
  .exact⟨#[],by rw[au (bN e nD)];exact Vz e ↑13⟩
  .
   have hlen:(ts.map (λ_=>(none:Option V))).length=ts.length:=U0 _;unfold fJ at e2
   by_cases QW:i<ts.length
   .rw[VX (by rwa[hlen]),Vu] at e2;cases q:ts[i]?<;>rw[q] at e2<;>cases e2
   .rw[Vp (by rw[hlen];lia),hlen] at e2;have e1':fs[i-ts.length]?=some x:=by
     have e1':(ts++fs)[i]?=some x:=e1;rw[Vp ⋯] at e1';exact e1'
    have all:∀{fs:List Str}{js:List Nat},iE X scope cl fs js->∀k:Nat,fs[k]?=some x->(js.map λj=>(σ[j]?).join)[k]?=some (some v) ->
      ∃(j:Nat)(c:Addr),X.N[j]?=some x/\σ[j]?=some (some v)/\(X.env.kindOf x=some .cell\/X.env.kindOf x=some .free)/\X.env.cells.lookup x=some c/\cl.lookup x=some c/\scope.names.lookup x=some .free:=by
     intro fs js r
     induction r with
     | nil=>intro k e;simp at e
     | @cons y j c fs js hN hf hv hc hl r ih =>
      intro k e e';cases k with
      | zero =>
       have e0:y=x:=by simpa using e
       subst e0;have Uc:(σ[j]?).join=some v:=by simpa using e'
       refine⟨j,c,hN,?_,hv,hc,hl,hf⟩;cases q:σ[j]? with
       | none=>rw[q] at Uc;cases Uc
       | some z=>rw[q] at Uc;cases z with
        | none=>cases Uc
        | some z =>
         have:z=v:=by simpa using Uc
         rw[this]
      | succ k=>exact ih k (by simpa using e) (by simpa using e')
    obtain⟨j,c,q1,q2,q3,q4,q5,q6⟩:=all fr (i-ts.length) e1' e2;obtain⟨m,hn,hl⟩:=I2.loc;have vis:xh X.env.scope x:=by
     rcases q3 with z|z
     .exact .inr (.inl z)
     .exact .inr (.inr z)
    obtain⟨u,ru,lk⟩:=hl j x v q1 q2 vis;refine⟨u,ru,.inr ⟨?_,c,q5,?_⟩⟩
    .rcases e3 with z|z|z
     .exfalso;have key:∀(l:List (Str×NameKind)),(l.map λ(n,k)=>if (k==Zm&&X.env.scope.kind==.function&&X.env.kindOf n==some .cell) then (n,abB) else (n,k)).lookup x=some .local->l.lookup x=some .local:=by
       intro l
       induction l with
       | nil=>intro h;simp at h
       | cons p r ih =>
        obtain⟨n,k⟩:=p;intro h;rw[Vg] at h;dsimp only at h
        by_cases hc:(k==Zm&&X.env.scope.kind==.function&&X.env.kindOf n==some .cell)=true
        .rw[if_pos hc] at h;rw[Ws] at h ⊢;cases q:x==n with
         | true=>rw[q] at h;cases h
         | false=>rw[q] at h;exact ih h
        .rw[if_neg hc] at h;rw[Ws] at h ⊢;cases q:x==n with
         | true=>rwa[q] at h
         | false=>rw[q] at h;exact ih h
      have:=key _ z;rw[q6] at this;cases this
     .exact .inl z
     .exact .inr z
    .rcases lk with ⟨k,_⟩|⟨_,c',e4,z⟩
     .rcases q3 with z|z<;>rw[z] at k<;>cases k
     .rw[q4] at e4;cases e4;obtain⟨o,ho,hd⟩:=z;exact⟨o,old c o ho,hd⟩
  .obtain⟨_,_,v,o,ho,hd⟩:=ltk x c e;exact⟨v,o,old c o ho,hd⟩
  .show upd H1 s2.heap.objs.size (.lst []) G.objs.size=none;rwa[au (WB (by rw[hC];exact WZ _))]
  .obtain⟨q1,q2,_⟩:=ltk x c e;rwa[au (Vh q1)]
  .have Tg:p∈X.pn++Qg:=by
    have:p∈(X.pn++Qg)++[]:=hp
    rwa [VT] at this
   obtain⟨e,n,ne,nf,d⟩:=I2.pin p Tg;have QW:=U3 e;refine⟨old _ _ e,by rwa[au (Vh QW)],?_,λhz=>?_,d⟩
   .show p.1≠G.objs.size;exact Vh (Nat.lt_trans QW (by rw[hC];exact WZ _))
   .rcases U9.mp (I2.uS _ hz) with z|z
    .exact ne z
    .exact nf z
  .exact I2.bq.laid old (UZ _) ⟨Va _,[],0,.nil,SK⟩
  .show (fJ ts js σ).length=(ts++fs).length;have frl:∀{fs:List Str}{js:List Nat},iE X scope cl fs js->fs.length=js.length:=by
    intro fs js r
    induction r with
    | nil=>rfl
    | cons _ _ _ _ _ _ ih=>rw[Vw,Vw,ih]
   unfold fJ;rw[Vb,Vb,U0,U0,frl fr]
 have Sh:∀{H':Hp},(∀b∈fp,H' b=none)->∀b∈fp,lp X' [] H' b:=λ{H'} hn b hb=>by
  obtain⟨_,f1,f3,_,f4,f5⟩:=f2 b hb;refine⟨hn b hb,okX.Lx b hb |>.1,okX.vK b hb,.inl hb,λx c e=>f4 x c (ag.at x c e),λp hp=>f5 p ?_⟩;have:p∈(X.pn++Qg)++[]:=hp
  rwa [VT] at this
 have fin:∀{σ':St}{H':Hp}{s':Shared},Inv X' [] σ' H' s'->Q (.ref s2.heap.objs.size) H' ->
   compPost ↑8 X.A X.xe use Qv (.ref s2.heap.objs.size) G.objs.size (.ok .next) s':=by
  intro σ' H' s' I4 q;obtain⟨m,hn,_⟩:=I4.loc;have fC:H' G.objs.size=none:=I4.free;have Io:Inv X Qg σ H' s':=by
   refine I2.CG (s':=s') (ch:=fp) I4.os ⟨λb o e n hb hx=>?_,λb o e n hb hx=>?_,λb o e n hx=>I4.base.free b o e n hx,λb o e hx=>?_,I4.base.pQ,I4.base.lJ,I4.base.qT⟩ I4.bq I4.bare λb hb=>?_
   .exact I4.base.keep b o e n hb hx
   .exact I4.base.slot b o e n hb hx
   .exact I4.base.there b o e hx
   .obtain⟨_,f1,_,f3,f4,f5⟩:=f2 b hb;exact⟨f3,f1,f4,f5⟩
  have hCl:s2.heap.objs.size<=G.objs.size:=by rw[hC];exact Yg _
  exact IQ _ H' s' _ Io q ⟨m,hn⟩ (I2.rn hCl fC)
 have loop:∀s3:Shared,s3={ s2 with heap:=h₁,toks:=s2.toks+([]:List (Str×Value)).length } ->
   codeAny ↑8 X.A (.compLoop (.ListComp elt [⟨tg,iter,ifs,0⟩] scope pos) 0 (.ref it) (.ref s2.heap.objs.size) (compEnvC scope cl G.objs.size X.env))
    (compPost ↑8 X.A X.xe use Qv (.ref s2.heap.objs.size) G.objs.size) s3:=by
  rintro s3 rfl;refine Af (λn s'=>∃i σ' H',Inv X' [] σ' H' s'/\tn i s'.heap/\(∀b∈fp,H' b=none)/\W i n σ' H') ?_ m0 ⟨0,_,_,I3,T.keep _ _ _ Qz λb _ o e=>old b o e,λb hb=>?_,w0⟩
  .rintro n s3 ⟨i,σ3,H3,I3,RT,fr3,w3⟩;rcases turn i n σ3 H3 w3 with ⟨stop,qn⟩|⟨go,N,hN,step⟩
   .refine ck (T.done X' rfl rfl rfl Qt i [] s3 σ3 H3 _ I3 (Sh fr3) RT stop) λr s4 ⟨hr,I4⟩=>?_;subst hr;exact fin I4 qn
   .refine ck (T.item X' rfl rfl rfl Qt i [] s3 σ3 H3 _ I3 (Sh fr3) RT go) λr s4 ⟨u,hr,h4⟩=>?_;subst hr;refine ck h4 λ_ s5 ⟨x,H5,I5,r5,y5,TK,fr5⟩=>?_;have I5':=I5.pinned (Sh fr5) (T.obj _ _ TK);refine ck (hg _ _ _ _ _ _ s5 σ3 H5 x u _ I5' r5 (step x H5 y5)) λ_ s6 ⟨σ6,H6,I6,q6⟩=>?_;have again:∀{σ7:St}{H7:Hp}{s7:Shared},Inv X' ([]++mX fp s5.heap) σ7 H7 s7->N σ7 H7->∃m,m<n/\∃i σ' H',Inv X' [] σ' H' s7/\tn i s7.heap/\(∀b∈fp,H' b=none)/\W i m σ' H':=λ{σ7 H7 s7} I7 n7=>by
     obtain⟨m',hm,w7⟩:=hN σ7 H7 n7;refine⟨m',hm,i+1,σ7,H7,I7.mi,T.keep _ _ _ TK λb hb o e=>(I7.pin (b,o) (V6 _ (V6 _ (iX hb e)))).1,λb hb=>?_,w7⟩;obtain⟨o,e,d⟩:=T.obj _ _ TK b hb;exact(I7.pin (b,o) (V6 _ (V6 _ (iX hb e)))).2.1
    have tail:∀{H7:Hp}{s7:Shared},Inv X' ([]++mX fp s5.heap) σ6 H7 s7->(te σ6 H7 λy H4=>∃ys,H4 s2.heap.objs.size=some (.lst ys)/\ys.length<sizeLine/\N σ6 (upd H4 s2.heap.objs.size (.lst (ys++[y])))) ->
      wpAny ↑8 X.A (eval elt (compEnvC scope cl G.objs.size X.env)) (λx s₅=>wpAny ↑8 X.A (call (.builtin "list.append") [.ref s2.heap.objs.size,x])
       (λ_ s₆=>∃m,m<n/\∃i σ' H',Inv X' [] σ' H' s₆/\tn i s₆.heap/\(∀b∈fp,H' b=none)/\W i m σ' H') (λ_ _=>False) s₅) (λ_ _=>False) s7:=by
     intro H7 s7 I7 q7;refine ck (he _ _ _ _ _ _ s7 σ6 H7 _ I7 q7) λuy s8 ⟨y,H8,I8,ry,ys,hy,hl,q8⟩=>?_;refine ck (sq (X:=X') _ s8 σ6 H8 (.ref s2.heap.objs.size) [y] (.ref s2.heap.objs.size) [uy] (λ_ H9=>N σ6 H9) I8 rfl (.cons ry .nil) ⟨_,ys,y,rfl,rfl,hy,hl,q8⟩) λ_ s9 ⟨_,H9,I9,_,q9⟩=>?_;exact again I9 q9
    cases ifs with
    | nil =>
     cases tt with
     | none=>exact wpAny_tests_nil (tail I6 q6)
     | some t=>exact(ht 0 s2 H1 [] []).elim
    | cons c r =>
     cases r with
     | nil =>
      cases tt with
      | none=>exact(ht 0 s2 H1 [] []).elim
      | some t =>
       refine wpAny_tests_one (ck (ht G.objs.size s2 H1 fp Qg _ s6 σ6 H6 _ I6 q6) λb s7 ⟨H7,I7,q7⟩=>?_);cases b with
       | true =>
        rw[if_pos rfl] at q7 ⊢;exact tail I7 q7
       | false =>
        rw[if_neg VD] at q7 ⊢;exact again I7 q7
     | cons _ _=>cases tt<;>exact(ht 0 s2 H1 [] []).elim
  .rw[au (Vh (Ur b hb))];exact(f2 b hb).1
 exact codeAny_compStart_list (loop _ rfl) (T.self _ 0 _ _ _ (T.keep _ _ _ Qz λb _ o e=>old b o e) (loop _ rfl))
def Inv.other(I:Inv X Qg σ H s)(f:lp X Qg H C)(hs:XE C s.heap h'):Inv X Qg σ H { s with heap:=h' }:=by
 obtain⟨f0,f1,_,f3,f4,f5⟩:=f;refine I.CG (s':={ s with heap:=h' }) (ch:=[C]) rfl ⟨λb o e n hb hx=>?_,λb o e n hb hx=>?_,λb o e n hx=>n,λb o e hx=>?_,λ_ _ q=>q,λ_ _ _ q=>q,λb ps q=>⟨#[],by rw[q];simp⟩⟩ (λb u e=>?_) I.bare λb hb=>?_
 .exact(hs.2 b (λz=>hx (by rw[z];exact Vr.mpr rfl))).trans e
 .exact⟨o.slots,(hs.2 b (λz=>hx (by rw[z];exact Vr.mpr rfl))).trans e⟩
 .exact⟨o,(hs.2 b (λz=>hx (by rw[z];exact Vr.mpr rfl))).trans e⟩
 .refine(I.bq b u e).mB (λc v hc q=>(hs.2 c ?_).trans q) (λ_ q=>q) λ_ _ q=>q;rcases hc with z|z
  .rw[z];exact bN e f0
  .exact bN z f0
 .rw[Vr.mp hb];exact⟨f3,f1,f4,f5⟩
def yS{cl:List (Str×Addr)}{pos:Pos}{wi:TI}{g:TG}{fs:List Str}(Qt:X.calm=true)(QK:closureFor scope X.env=pure cl)(hk:scope.kind=.function)(nc:f7 scope.names=true)(lo:hG scope.names=true)(fh:h_ cl scope.names=true)(ag:eN X cl)(fr:iE X scope cl fs js)(hi:PI X tg iter wi)(hg:∀C s₀ H₀ ex Qg,PG (rj X scope cl (ts++fs) C s₀ H₀ ex Qg) tg g)(ht:∀C s₀ H₀ ex Qg,match ifs,tt with|[],none=>True|[c],some t=>PT (rj X scope cl (ts++fs) C s₀ H₀ ex Qg) c t|_,_=>False)(he:∀C s₀ H₀ ex Qg,PE (rj X scope cl (ts++fs) C s₀ H₀ ex Qg) elt te)(hs:autoParam ↑5 aI._auto_1):PE X (.ListComp elt [⟨tg,iter,ifs,0⟩] scope pos) (Di wi g tt te ts js):=by
 intro Qg s σ H Q I h;rw[eval_ListComp];refine vj Qt QK hk nc lo fh ag fr hi hg ht he hs I h none _ λD H' s' C Io q hm f=>?_;obtain⟨m,hn⟩:=hm;exact⟨m,hn,λh' R_=>⟨.ref D,H',Io.other f R_,rfl,q⟩⟩
def xH(wi:TI)(g:TG)(te:TE)(ts:List Str)(js:List Nat):TE:=fun σ H Q=>wi σ H λJ H1=>∀D,H1 D=none ->
 ∃ W:Nat->Nat->St->Hp->Prop,(∃m,W 0 m (fJ ts js σ) (upd H1 D (.lst [])))/\∀i m σ' H',W i m σ' H' ->
  (J.stop i H'/\Q (.ref D) H')\/(J.go i H'/\∃N:St->Hp->Prop,(∀σ'' H'',N σ'' H''->∃m',m'<m/\W (i+1) m' σ'' H'') ∧
   ∀x H2,J.vd i H' x H2->g x σ' H2 fun σ2 H3=>te σ2 H3 λy H4=>∃ys,H4 D=some (.lst ys)/\ys.length<sizeLine/\N σ2 (upd H4 D (.lst (ys++[y]))))
def DF(wi:TI)(g:TG)(t:TT)(te:TE)(ts:List Str)(js:List Nat):TE:=fun σ H Q=>wi σ H λJ H1=>∀D,H1 D=none ->
 ∃ W:Nat->Nat->St->Hp->Prop,(∃m,W 0 m (fJ ts js σ) (upd H1 D (.lst [])))/\∀i m σ' H',W i m σ' H' ->
  (J.stop i H'/\Q (.ref D) H')\/(J.go i H'/\∃N:St->Hp->Prop,(∀σ'' H'',N σ'' H''->∃m',m'<m/\W (i+1) m' σ'' H'') ∧
   ∀x H2,J.vd i H' x H2->g x σ' H2 fun σ2 H3=>t σ2 H3 λb T_=>if b=true then te σ2 T_ λy H4=>∃ys,H4 D=some (.lst ys)/\ys.length<sizeLine/\N σ2 (upd H4 D (.lst (ys++[y]))) else N σ2 T_)
def Ex{cl:List (Str×Addr)}{pos:Pos}{wi:TI}{g:TG}{fs:List Str}(Qt:X.calm=true)(QK:closureFor scope X.env=pure cl)(hk:scope.kind=.function)(nc:f7 scope.names=true)(lo:hG scope.names=true)(fh:h_ cl scope.names=true)(ag:eN X cl)(fr:iE X scope cl fs js)(hi:PI X tg iter wi)(hg:∀C s₀ H₀ ex Qg,PG (rj X scope cl (ts++fs) C s₀ H₀ ex Qg) tg g)(he:∀C s₀ H₀ ex Qg,PE (rj X scope cl (ts++fs) C s₀ H₀ ex Qg) elt te)(hs:autoParam ↑5 aI._auto_1):PE X (.ListComp elt [⟨tg,iter,[],0⟩] scope pos) (xH wi g te ts js) :=
 yS (tt:=none) Qt QK hk nc lo fh ag fr hi hg (λ_ _ _ _ _=>trivial) he hs
variable{c:Expr}
def Dg{cl:List (Str×Addr)}{pos:Pos}{wi:TI}{g:TG}{t:TT}{fs:List Str}(Qt:X.calm=true)(QK:closureFor scope X.env=pure cl)(hk:scope.kind=.function)(nc:f7 scope.names=true)(lo:hG scope.names=true)(fh:h_ cl scope.names=true)(ag:eN X cl)(fr:iE X scope cl fs js)(hi:PI X tg iter wi)(hg:∀C s₀ H₀ ex Qg,PG (rj X scope cl (ts++fs) C s₀ H₀ ex Qg) tg g)(ht:∀C s₀ H₀ ex Qg,PT (rj X scope cl (ts++fs) C s₀ H₀ ex Qg) c t)(he:∀C s₀ H₀ ex Qg,PE (rj X scope cl (ts++fs) C s₀ H₀ ex Qg) elt te)(hs:autoParam ↑5 aI._auto_1):PE X (.ListComp elt [⟨tg,iter,[c],0⟩] scope pos) (DF wi g t te ts js) :=
 yS (tt:=some t) Qt QK hk nc lo fh ag fr hi hg ht he hs
def f6(h:Heap)(b:Bool)(l:Addr)(xs:Array Value):Prop:=match b with
 | true=>h.IsList l xs
 |false=>h.IsTuple l xs
def eB(h:Heap)(b:Bool)(it l:Addr)(i:Nat):Prop:=match b with
 | true=>h.IsListIter it l i
 |false=>h.IsTupleIter it l i
variable{l:Addr}{b:Bool}{h:Heap}
def f6.at{xs:Array Value}(x:f6 h b l xs)(k:∀o,h.get? l=some o->h'.get? l=some o):f6 h' b l xs:=by
 cases b with
 | true=>obtain⟨o,ho,r⟩:=(show h.IsList l xs from x);exact(show h'.IsList l xs from ⟨o,k o ho,r⟩)
 |false=>obtain⟨o,ho,r⟩:=(show h.IsTuple l xs from x);exact(show h'.IsTuple l xs from ⟨o,k o ho,r⟩)
variable{i:Nat}{it:Addr}
def eB.at(x:eB h b it l i)(k:∀o,h.get? it=some o->h'.get? it=some o):eB h' b it l i:=by
 cases b with
 | true=>obtain⟨o,ho,r⟩:=(show h.IsListIter it l i from x);exact(show h'.IsListIter it l i from ⟨o,k o ho,r⟩)
 |false=>obtain⟨o,ho,r⟩:=(show h.IsTupleIter it l i from x);exact(show h'.IsTupleIter it l i from ⟨o,k o ho,r⟩)
def eB.obj(x:eB h b it l i):∃o vs,h.get? it=some o/\o.data=.fields vs:=by
 cases b with
 | true=>obtain⟨o,ho,_,hd⟩:=(show h.IsListIter it l i from x);exact⟨o,_,ho,hd⟩
 |false=>obtain⟨o,ho,_,hd⟩:=(show h.IsTupleIter it l i from x);exact⟨o,_,ho,hd⟩
def f6.obj{xs:Array Value}(x:f6 h b l xs):∃o n,h.get? l=some o/\o.data=.seq xs n:=by
 cases b with
 | true=>obtain⟨o,ho,_,n,hd⟩:=(show h.IsList l xs from x);exact⟨o,n,ho,hd⟩
 |false=>obtain⟨o,ho,_,n,hd⟩:=(show h.IsTuple l xs from x);exact⟨o,n,ho,hd⟩
variable{Q:Value->Shared->Prop}{Qi:Array Value}
variable{ys:Array Value}{k1 k2:Nat}{l1 l2:Addr}
section
variable{E:Value->Shared->Prop}
def g_{t:Addr}{x:Value}(hit:s.heap.IsTupleIter it t i)(ht:s.heap.IsTuple t Qi)(hx:Qi[i]?=some x)(hQ:∀h',h'.IsTupleIter it t (i+1)->XE it s.heap h'->Q x { s with heap:=h' }):wpAny ↑11 A (Vl (.ref it)) Q E s:=by
 obtain⟨o,ho,hc,hd⟩:=id hit;obtain⟨ol,hol,_,nl,hdl⟩:=ht;unfold Vl;refine TR (VL (name:=VF "__next__") hit.typeIs F.slot_tuple_iterator_next
  (V8 F.slot_tuple_iterator_next hit.typeIs F.entry_tuple_iterator_next ?_ (F.args_tuple_iterator_next_1 _)))
 show wpAny _ _ (field (.ref it) 0 >>= _) _ _ s;refine TR (Vq ho hd (x:=.ref t) rfl ?_);show wpAny _ _ (if (U5 t==VC)=true then _ else _) _ _ s;rw[if_neg (show ¬ ((U5 t==VC)=true) from VD)];show wpAny _ _ (field (.ref it) 1 >>= _) _ _ s;refine TR (Vq ho hd (x:=.int i 0) rfl ?_);show wpAny _ _ (seqItems? (.ref t) >>= _) _ _ s;refine TR (VZ hol hdl ?_);simp only[VE,hx];refine TR (XU ho hd ↑13 (UX ⟨x,rfl,UX (hQ _ ?_ (XQ ..))⟩));exact⟨_,VS _ ho (Xy (WI hd _)),(ab6 ..).trans hc,by
  rw[WI hd];simp[rawInt]⟩
def ff{t:Addr}(hh:A.handled=none)(hit:s.heap.IsTupleIter it t i)(ht:s.heap.IsTuple t Qi)(hx:Qi[i]?=none)(hE:∀h' e,acH it s.heap h'->(∃o,h'.get? e=some o/\o.cls=.type "StopIteration")->E (.ref e) { s with heap:=h' }):wpAny ↑11 A (Vl (.ref it)) Q E s:=by
 obtain⟨o,ho,hc,hd⟩:=id hit;obtain⟨ol,hol,_,nl,hdl⟩:=ht;unfold Vl;refine TR (VL (name:=VF "__next__") hit.typeIs F.slot_tuple_iterator_next
  (V8 F.slot_tuple_iterator_next hit.typeIs F.entry_tuple_iterator_next ?_ (F.args_tuple_iterator_next_1 _)))
 show wpAny _ _ (field (.ref it) 0 >>= _) _ _ s;refine TR (Vq ho hd (x:=.ref t) rfl ?_);show wpAny _ _ (if (U5 t==VC)=true then _ else _) _ _ s;rw[if_neg (show ¬ ((U5 t==VC)=true) from VD)];show wpAny _ _ (field (.ref it) 1 >>= _) _ _ s;refine TR (Vq ho hd (x:=.int i 0) rfl ?_);show wpAny _ _ (seqItems? (.ref t) >>= _) _ _ s;refine TR (VZ hol hdl ?_);simp only[VE,hx];refine TR (W0 (TR (XU ho hd ↑13 ?_)));show wpAny _ _ (newExc (.type "StopIteration") [] >>= _) _ _ _;refine TR ?_;simp only[newExc,newTuple];refine TR (Wi ?_ (by size_fits));refine TR (m:=firstArgMember _ _) (wpAny_of_eq (a:=VC) (by first|rfl|(simp only[firstArgMember];rfl)) ?_);refine Wi ?_ (by size_fits);simp only[raiseNew];refine TR (wpAny_handled ?_)
 first|rw[show A.in1.handled=none from hh]|rw[hh]
 refine TR (UX (wpAny_throw ?_));exact hE _ _ (((XQ ..).extBut.push _).push _) ⟨_,U1 _ rfl,rfl⟩
def cR{x:Value}(hit:eB s.heap b it l i)(hl:f6 s.heap b l Qi)(hx:Qi[i]?=some x)(hQ:∀h',eB h' b it l (i+1)->XE it s.heap h'->Q x { s with heap:=h' }):wpAny ↑11 A (Vl (.ref it)) Q E s:=by
 cases b with
 | true=>exact wpAny_nextOf_list_item hit hl hx hQ
 |false=>exact g_ hit hl hx hQ
def gL(hh:A.handled=none)(hit:eB s.heap b it l i)(hl:f6 s.heap b l Qi)(hx:Qi[i]?=none)(hE:∀h' e,acH it s.heap h'->(∃o,h'.get? e=some o/\o.cls=.type "StopIteration")->E (.ref e) { s with heap:=h' }):wpAny ↑11 A (Vl (.ref it)) Q E s:=by
 cases b with
 | true=>exact wpAny_nextOf_list_end hh hit hl hx hE
 |false=>exact ff hh hit hl hx hE
def zq{b1 b2:Bool}{z TI TO i1 i2:Addr}{xs:Array Value}{x y a b:Value}(D:ZipApart z TI TO i1 i2 l1 l2)(hz:IsZip s.heap z TI TO .none)(QV:IsPair s.heap TI (.ref i1) (.ref i2))(QY:IsPair s.heap TO a b)(h1:eB s.heap b1 i1 l1 k1)(h2:eB s.heap b2 i2 l2 k2)(RE:f6 s.heap b1 l1 xs)(Ry:f6 s.heap b2 l2 ys)(hx:xs[k1]?=some x)(hy:ys[k2]?=some y)(hQ:∀h',IsZip h' z TI TO (rawInt s.heap.objs.size)->IsPair h' TO x y->eB h' b1 i1 l1 (k1+1)->eB h' b2 i2 l2 (k2+1)->IsPair h' s.heap.objs.size x y->h'.objs.size=s.heap.objs.size+1 ->(∀c o,c≠z->c≠TO->c≠i1->c≠i2->s.heap.get? c=some o->h'.get? c=some o)->Q (.ref s.heap.objs.size) { s with heap:=h' }):wpAny ↑11 A (Builtin.«zip.__next__» ⟨[.ref z],[]⟩) (λfin s'=>∃v,fin=.done (.ret v)/\Q v s') E s:=by
 show wpAny _ _ (field (.ref z) 2 >>= _) _ _ _;refine TR (Vq hz rfl (x:=.bool false) rfl ?_);show wpAny _ _ (field (.ref z) 3 >>= _) _ _ _;refine TR (Vq hz rfl (x:=.ref TI) rfl ?_);refine TR (VZ QV rfl ?_);show wpAny _ _ (Vx (.ref z) >>= _) _ _ _;refine TR ?_;unfold Vx;refine TR (Vq hz rfl (x:=.none) rfl (UX ?_));simp only[if_true];refine TR (W0 ?_);refine TR (Vq hz rfl (x:=.ref TO) rfl ?_);refine TR (VU hz ↑13 λh₁ hz1 hs₁=>?_)
 replace hz1:IsZip h₁ z TI TO .ellipsis:=hz1
 refine TR ?_;simp only[Xn,Zz,YE,YY];refine TR (TR (W6 ?_));show wpAny _ _ (Vl (.ref i1) >>= _) _ _ _;refine TR (cR (h1.at λo e=>hs₁.extBut _ _ D.i1z e) (RE.at λo e=>hs₁.extBut _ _ D.l1z e) hx λh₂ h1₂ hs2=>UX ?_);have hTO2:IsPair h₂ TO a b:=hs2.extBut _ _ D.TOi1 (hs₁.extBut _ _ D.TOz QY);refine TR (VZ hTO2 rfl ?_);refine TR (Zs hTO2 λh₃ hTO3 hs3=>?_)
 replace hTO3:IsPair h₃ TO x b:=hTO3
 refine TR (XZ (UX ?_));refine TR (TR (W6 ?_));show wpAny _ _ (Vl (.ref i2) >>= _) _ _ _;refine TR (cR (h2.at λo e=>hs3.extBut _ _ D.TOi2.symm (hs2.extBut _ _ D.i12.symm (hs₁.extBut _ _ D.i2z e)))
  (Ry.at λo e=>hs3.extBut _ _ D.l2TO (hs2.extBut _ _ D.l2i1 (hs₁.extBut _ _ D.l2z e))) hy λh₄ h2₄ hs4=>UX ?_)
 have hTO4:IsPair h₄ TO x b:=hs4.extBut _ _ D.TOi2 hTO3;refine TR (VZ hTO4 rfl ?_);refine TR (Zs hTO4 λh₅ hTO5 hs5=>?_)
 replace hTO5:IsPair h₅ TO x y:=hTO5
 refine TR (XZ (UX (UX ?_)));refine TR (VZ hTO5 rfl ?_);refine TR (abl ?_);have hsz:h₅.objs.size=s.heap.objs.size:=by rw[hs5.1,hs4.1,hs3.1,hs2.1,hs₁.1]
 have hz5:IsZip h₅ z TI TO .ellipsis:=hs5.extBut _ _ D.TOz.symm (hs4.extBut _ _ D.i2z.symm (hs3.extBut _ _ D.TOz.symm (hs2.extBut _ _ D.i1z.symm hz1)));have hk5:∀c o,c≠z->c≠TO->c≠i1->c≠i2->s.heap.get? c=some o->h₅.get? c=some o:=λc o c1 c2 c3 c4 e =>
  hs5.extBut _ _ c2 (hs4.extBut _ _ c4 (hs3.extBut _ _ c2 (hs2.extBut _ _ c3 (hs₁.extBut _ _ c1 e))))
 have h1₅:eB h₅ b1 i1 l1 (k1+1):=h1₂.at λo e=>hs5.extBut _ _ D.TOi1.symm (hs4.extBut _ _ D.i12 (hs3.extBut _ _ D.TOi1.symm e));have h2₅:eB h₅ b2 i2 l2 (k2+1):=h2₄.at λo e=>hs5.extBut _ _ D.TOi2.symm e;have S6:z<h₅.objs.size:=U3 hz5;show wpAny _ _ (Wv (.ref z) (.ref h₅.objs.size) >>= _) _ _ _;refine TR ?_;unfold Wv;have hz6:IsZip (h₅.push { cls:=.type "tuple",data:=.seq #[x,y] }) z TI TO .ellipsis:=UT _ hz5;refine TR (VU hz6 ↑13 λh₇ hz7 hs7=>?_)
 replace hz7:IsZip h₇ z TI TO (rawInt h₅.objs.size):=hz7
 refine VU hz7 ↑13 λh₈ hz₈ hs8=>?_
 replace hz₈:IsZip h₈ z TI TO (rawInt h₅.objs.size):=hz₈
 have up:∀c o,c≠z->h₅.get? c=some o->h₈.get? c=some o:=λc o c1 e=>hs8.extBut _ _ c1 (hs7.extBut _ _ c1 (UT _ e));have hT8:IsPair h₈ h₅.objs.size x y:=hs8.extBut _ _ (WB S6) (hs7.extBut _ _ (WB S6) (U1 _ rfl));have hz8:h₈.objs.size=h₅.objs.size+1:=by rw[hs8.1,hs7.1,VN]
 rw[hsz] at hz₈ hT8 hz8;refine UX ⟨_,rfl,?_⟩;show Q (.ref h₅.objs.size) _;rw[hsz];exact hQ h₈ hz₈ (up _ _ D.TOz hTO5) (h1₅.at λo e=>up _ o D.i1z e) (h2₅.at λo e=>up _ o D.i2z e) hT8 hz8 λc o c1 c2 c3 c4 e=>up c o c1 (hk5 c o c1 c2 c3 c4 e)
def BR{b1 b2:Bool}{z TI TO i1 i2:Addr}{xs:Array Value}{a b:Value}{Q:Fin->Shared->Prop}(hh:A.handled=none)(D:ZipApart z TI TO i1 i2 l1 l2)(hz:IsZip s.heap z TI TO .none)(QV:IsPair s.heap TI (.ref i1) (.ref i2))(QY:IsPair s.heap TO a b)(h1:eB s.heap b1 i1 l1 k1)(h2:eB s.heap b2 i2 l2 k2)(RE:f6 s.heap b1 l1 xs)(Ry:f6 s.heap b2 l2 ys)(Rw:xs[k1]?=none\/ys[k2]?=none)(hE:∀h' e,(∀c o,c≠z->c≠TO->c≠i1->c≠i2->s.heap.get? c=some o->h'.get? c=some o)->(∃o,h'.get? e=some o/\o.cls=.type "StopIteration")->E (.ref e) { s with heap:=h' }):wpAny ↑11 A (Builtin.«zip.__next__» ⟨[.ref z],[]⟩) Q E s:=by
 show wpAny _ _ (field (.ref z) 2 >>= _) _ _ _;refine TR (Vq hz rfl (x:=.bool false) rfl ?_);show wpAny _ _ (field (.ref z) 3 >>= _) _ _ _;refine TR (Vq hz rfl (x:=.ref TI) rfl ?_);refine TR (VZ QV rfl ?_);show wpAny _ _ (Vx (.ref z) >>= _) _ _ _;refine TR ?_;unfold Vx;refine TR (Vq hz rfl (x:=.none) rfl (UX ?_));simp only[if_true];refine TR (W0 ?_);refine TR (Vq hz rfl (x:=.ref TO) rfl ?_);refine TR (VU hz ↑13 λh₁ hz1 hs₁=>?_)
 replace hz1:IsZip h₁ z TI TO .ellipsis:=hz1
 refine TR ?_;simp only[Xn,Zz,YE,YY];refine TR (TR (W6 ?_));show wpAny _ _ (Vl (.ref i1) >>= _) _ _ _;cases hx:xs[k1]? with
 | none =>
  refine TR (gL hh (h1.at λo e=>hs₁.extBut _ _ D.i1z e) (RE.at λo e=>hs₁.extBut _ _ D.l1z e) hx λh₂ e hs2 he=>?_);obtain⟨oe,RP,Sj⟩:=he;have hz2:IsZip h₂ z TI TO .ellipsis:=hs2 _ _ D.i1z.symm hz1;have To:e≠z:=λx=>by subst x;rw[hz2] at RP;cases RP;simp at Sj
  refine VU hz2 ↑13 λh₃ _ hs3=>hE h₃ e (λc o c1 _ c3 _ x=>hs3.extBut _ _ c1 (hs2 _ _ c3 (hs₁.extBut _ _ c1 x))) ⟨oe,hs3.extBut _ _ To RP,Sj⟩
 | some x =>
  have hy:ys[k2]?=none:=by rcases Rw with h|h;rw[hx] at h;cases h;exact h
  refine TR (cR (h1.at λo e=>hs₁.extBut _ _ D.i1z e) (RE.at λo e=>hs₁.extBut _ _ D.l1z e) hx λh₂ h1₂ hs2=>UX ?_);have hTO2:IsPair h₂ TO a b:=hs2.extBut _ _ D.TOi1 (hs₁.extBut _ _ D.TOz QY);refine TR (VZ hTO2 rfl ?_);refine TR (Zs hTO2 λh₃ hTO3 hs3=>?_);refine TR (XZ (UX ?_));refine TR (TR (W6 ?_));show wpAny _ _ (Vl (.ref i2) >>= _) _ _ _;refine TR (gL hh (h2.at λo e=>hs3.extBut _ _ D.TOi2.symm (hs2.extBut _ _ D.i12.symm (hs₁.extBut _ _ D.i2z e)))
   (Ry.at λo e=>hs3.extBut _ _ D.l2TO (hs2.extBut _ _ D.l2i1 (hs₁.extBut _ _ D.l2z e))) hy λh₄ e hs4 he=>?_)
  obtain⟨oe,RP,Sj⟩:=he;have hz₄:IsZip h₄ z TI TO .ellipsis:=hs4 _ _ D.i2z.symm (hs3.extBut _ _ D.TOz.symm (hs2.extBut _ _ D.i1z.symm hz1));have To:e≠z:=λx=>by subst x;rw[hz₄] at RP;cases RP;simp at Sj
  refine VU hz₄ ↑13 λh₅ _ hs5=>hE h₅ e (λc o c1 c2 c3 c4 x=>hs5.extBut _ _ c1 (hs4 _ _ c4 (hs3.extBut _ _ c2 (hs2.extBut _ _ c3 (hs₁.extBut _ _ c1 x))))) ⟨oe,hs5.extBut _ _ To RP,Sj⟩
def wQ(hl:f6 s.heap b l Qi)(h:∀o,o=({ cls:=.type (if b then "list_iterator" else "tuple_iterator"),data:=.fields #[.ref l,.int 0 0] }:Obj)->Q (.ref s.heap.objs.size) { s with heap:=s.heap.push o }):wpAny ↑11 A (pyIter (.ref l)) Q E s:=by
 cases b with
 | true=>exact aai hl (h _ rfl)
 |false=>exact X3 hl (h _ rfl)
def mP{b1 b2:Bool}{z TI TO i1 i2:Addr}{xs:Array Value}{x y a b:Value}{Q:Option Value->Shared->Prop}(D:ZipApart z TI TO i1 i2 l1 l2)(hz:IsZip s.heap z TI TO .none)(QV:IsPair s.heap TI (.ref i1) (.ref i2))(QY:IsPair s.heap TO a b)(h1:eB s.heap b1 i1 l1 k1)(h2:eB s.heap b2 i2 l2 k2)(RE:f6 s.heap b1 l1 xs)(Ry:f6 s.heap b2 l2 ys)(hx:xs[k1]?=some x)(hy:ys[k2]?=some y)(hQ:∀h',IsZip h' z TI TO (rawInt s.heap.objs.size)->IsPair h' TO x y->eB h' b1 i1 l1 (k1+1)->eB h' b2 i2 l2 (k2+1)->IsPair h' s.heap.objs.size x y->h'.objs.size=s.heap.objs.size+1 ->(∀c o,c≠z->c≠TO->c≠i1->c≠i2->s.heap.get? c=some o->h'.get? c=some o)->Q (some (.ref s.heap.objs.size)) { s with heap:=h' }):wpAny ↑11 A (pyNext (.ref z)) Q E s:=by
 have hT:s.TypeIs (.ref z) "zip" := ⟨_,hz,rfl⟩
 unfold pyNext;exact TR (W7 (VL (name:=VF "__next__") hT F.slot_zip_next
  (V8 F.slot_zip_next hT F.entry_zip_next
   (zq D hz QV QY h1 h2 RE Ry hx hy λh' a1 a2 a3 a4 a5 a6 a7=>UX (hQ h' a1 a2 a3 a4 a5 a6 a7)) (F.args_zip_next_1 _))))
def oh{b1 b2:Bool}{z TI TO i1 i2:Addr}{xs:Array Value}{a b:Value}{Q:Option Value->Shared->Prop}(hh:A.handled=none)(D:ZipApart z TI TO i1 i2 l1 l2)(hz:IsZip s.heap z TI TO .none)(QV:IsPair s.heap TI (.ref i1) (.ref i2))(QY:IsPair s.heap TO a b)(h1:eB s.heap b1 i1 l1 k1)(h2:eB s.heap b2 i2 l2 k2)(RE:f6 s.heap b1 l1 xs)(Ry:f6 s.heap b2 l2 ys)(Rw:xs[k1]?=none\/ys[k2]?=none)(hQ:∀h',(∀c o,c≠z->c≠TO->c≠i1->c≠i2->s.heap.get? c=some o->h'.get? c=some o)->Q none { s with heap:=h' }):wpAny ↑11 A (pyNext (.ref z)) Q E s:=by
 have hT:s.TypeIs (.ref z) "zip" := ⟨_,hz,rfl⟩
 unfold pyNext;refine TR (W7 (VL (name:=VF "__next__") hT F.slot_zip_next
  (V8 F.slot_zip_next hT F.entry_zip_next (BR hh D hz QV QY h1 h2 RE Ry Rw λh' e hk he=>?_) (F.args_zip_next_1 _))))
 obtain⟨o,ho,hc⟩:=he;refine TR (Yp (T := "StopIteration") (b:=true) ⟨o,ho,hc⟩ Z6 ?_);exact UX (hQ _ hk)
noncomputable abbrev G0(b:Bool)(l:Addr):Obj:={ cls:=.type (if b then "list_iterator" else "tuple_iterator"),data:=.fields #[.ref l,.int 0 0] }
noncomputable abbrev Ij(h:Heap)(b1:Bool)(l1:Addr):Heap:=h.push (G0 b1 l1)
noncomputable abbrev Hl(h:Heap)(b1 b2:Bool)(l1 l2:Addr):Heap:=(Ij h b1 l1).push (G0 b2 l2)
noncomputable abbrev NN(h:Heap)(b1 b2:Bool)(l1 l2:Addr):Heap:=(Hl h b1 b2 l1 l2).push { cls:=.type "tuple",data:=.seq #[.ref h.objs.size,.ref (Ij h b1 l1).objs.size] }
noncomputable abbrev NM(h:Heap)(b1 b2:Bool)(l1 l2:Addr):Heap:=(NN h b1 b2 l1 l2).push { cls:=.type "tuple",data:=.seq #[.none,.none] }
noncomputable abbrev KY(h:Heap)(b1 b2:Bool)(l1 l2:Addr):Heap:=(NM h b1 b2 l1 l2).push { cls:=.type "zip",data:=.fields #[.none,.bool false,.bool false,.ref (Hl h b1 b2 l1 l2).objs.size,.ref (NN h b1 b2 l1 l2).objs.size] }
end
def fR{E:Value->Shared->Prop}(hl:f6 s.heap b l Qi)(h:Q (.ref s.heap.objs.size) { s with heap:=s.heap.push (G0 b l) }):wpAny ↑11 A (pyIter (.ref l)) Q E s:=wQ hl λo e=>by subst e;exact h
theorem f6.push{h:Heap}{b:Bool}{l:Addr}{xs:Array Value}(x:f6 h b l xs)(o:Obj):f6 (h.push o) b l xs:=x.at λ_ e=>UT _ e
def pN(b1 b2:Bool)(l1 l2:Addr)(xs ys:Array Value):Meets (Builtin.«zip.__new__» ⟨[.type "zip",.ref l1,.ref l2],[]⟩) (λ_ R s=>f6 s.heap b1 l1 xs/\f6 s.heap b2 l2 ys ∧R (.ok (.ret (.ref (NM s.heap b1 b2 l1 l2).objs.size))) { s with heap:=KY s.heap b1 b2 l1 l2 }) :=
 .of_wp λprog w A R s h=>by
  obtain⟨hp,g,d,tk,os⟩:=s;obtain⟨RE,Ry,h⟩:=h;have UE:=sub_zip;have hL1:f6 (Zt ⟨hp,g,d,tk,os⟩) b1 l1 xs:=RE;have hL2:f6 (Zt ⟨hp.push (G0 b1 l1),g,d,tk,os⟩) b2 l2 ys:=f6.push Ry _
  wp_walk using fR hL1,fR hL2
  exact⟨_,rfl,h⟩
section
variable{E:Value->Shared->Prop}
def eB.new(h:Heap)(b:Bool)(it l:Addr)(e:h.get? it=some (G0 b l)):eB h b it l 0:=by
 cases b with
 | true=>exact⟨_,e,rfl,rfl⟩
 |false=>exact⟨_,e,rfl,rfl⟩
def zm{b1 b2:Bool}{xs:Array Value}(RE:f6 s.heap b1 l1 xs)(Ry:f6 s.heap b2 l2 ys)(h:∀h',IsZip h' (s.heap.objs.size+4) (s.heap.objs.size+2) (s.heap.objs.size+3) .none->IsPair h' (s.heap.objs.size+2) (.ref s.heap.objs.size) (.ref (s.heap.objs.size+1)) ->IsPair h' (s.heap.objs.size+3) .none .none->eB h' b1 s.heap.objs.size l1 0->eB h' b2 (s.heap.objs.size+1) l2 0->h'.objs.size=s.heap.objs.size+5 ->(∀c o,s.heap.get? c=some o->h'.get? c=some o)->Q (.ref (s.heap.objs.size+4)) { s with heap:=h' }):wpAny ↑11 A (call (.type "zip") [.ref l1,.ref l2]) Q E s:=by
 refine ab7 F.called_zip ↑12 (F.typeCall_zip_2 _ _) (F.newCall_zip_2 _ _) (λobj=>F.args_object_init_3 obj _ _) F.entry_zip_new
  (pN b1 b2 l1 l2 xs ys) ⟨RE,Ry,?_⟩
 have z1:(Ij s.heap b1 l1).objs.size=s.heap.objs.size+1:=VN ..;have z2:(Hl s.heap b1 b2 l1 l2).objs.size=s.heap.objs.size+2:=by rw[VN,z1]
 have z3:(NN s.heap b1 b2 l1 l2).objs.size=s.heap.objs.size+3:=by rw[VN,z2]
 have z4:(NM s.heap b1 b2 l1 l2).objs.size=s.heap.objs.size+4:=by rw[VN,z3]
 have z5:(KY s.heap b1 b2 l1 l2).objs.size=s.heap.objs.size+5:=by rw[VN,z4]
 have g5:(KY s.heap b1 b2 l1 l2).get? (NM s.heap b1 b2 l1 l2).objs.size=some _:=U1 _ rfl;have g4:(KY s.heap b1 b2 l1 l2).get? (NN s.heap b1 b2 l1 l2).objs.size=some _:=UT _ (U1 _ rfl);have g3:(KY s.heap b1 b2 l1 l2).get? (Hl s.heap b1 b2 l1 l2).objs.size=some _:=UT _ (UT _ (U1 _ rfl));have g2:(KY s.heap b1 b2 l1 l2).get? (Ij s.heap b1 l1).objs.size=some _:=UT _ (UT _ (UT _ (U1 _ rfl)));have g1:(KY s.heap b1 b2 l1 l2).get? s.heap.objs.size=some _:=UT _ (UT _ (UT _ (UT _ (U1 _ rfl))));show _/\_;rw[z2,z3,z4] at g5;rw[z1,z2] at g3;rw[z3] at g4;rw[z1] at g2;rw[z4];exact⟨⟨_,g5,rfl⟩,h _ g5 g3 g4 (eB.new _ b1 _ _ g1) (eB.new _ b2 _ _ g2) z5 λc o x =>
  UT _ (UT _ (UT _ (UT _ (UT _ x))))⟩
end
def kR(K:UU)(H:Hp)(b:Bool)(a:Addr)(xs:List V):Prop:=match b with
 | true=>g9 K H a xs
 |false=>gR K H a xs
variable{tl:TA}
def Inv.row{a:Addr}{xs:List V}(I:Inv X Qg σ H s)(h:kR X.K H b a xs):∃Qo:List Value,Vals xs Qo/\f6 s.heap b a Qo.toArray/\xs.length<=sizeLine:=by
 cases b with
 | true =>
  obtain⟨Qo,r,p,z⟩:=I.list h;exact⟨Qo,r,p.isList,z⟩
 | false =>
  obtain⟨Qo,r,p,z⟩:=I.tuple h;exact⟨Qo,r,p,z⟩
def Inv.mh{a:Addr}{xs ys:List V}(I:Inv X Qg σ H s)(h:kR X.K H b a xs)(h':kR X.K H b a ys):xs=ys:=by
 cases b with
 | true=>exact I.qX h h'
 |false=>exact I.nv h h'
def Inv.yD(I:Inv X Qg σ H s)(k:∀b u,b ∉ ch->s.heap.get? b=some u->h'.get? b=some u)(R3:∀b∈ch,lp X Qg H b):Inv X Qg σ H { s with heap:=h',toks:=t' }:=by
 have Tb:∀b u,H b=some u->b ∉ ch:=λb u e z=>by rw[(R3 b z).1] at e;cases e
 refine I.step (g':=s.gens) (d':=s.drawn) (ch:=ch) (λb hb=>?_) (λb u _ _ hc e _=>k b u hc e) (λb u _ _ hc e _=>⟨u.slots,k b u hc e⟩)
  (λb u _ e n=>n) (λb u hc e=>⟨u,k b u hc e⟩) (λb xs e=>e) (λb ob u e=>e) (λb ps e=>⟨#[],by rw[e];simp⟩) (λm hm=>?_) (λb u e=>?_) I.bare
 .obtain⟨_,f1,_,f3,f4,f5⟩:=R3 b hb;exact⟨f3,f1,f4,f5⟩
 .obtain⟨ob,es,ep,ho,r⟩:=hm;exact⟨ob,es,ep,k _ ob (λz=>(R3 _ z).2.1 rfl) ho,r⟩
 .refine(I.bq b u e).mB (λc v hc q=>k c v ?_ q) (λc q=>q) λc ys q=>q;rcases hc with z'|z'
  .rw[z'];exact Tb b u e
  .exact Tb c _ z'
def cB{a c:Addr}{xs:List V}(I:Inv X Qg σ H s)(h:kR X.K H b a xs)(f:lp X Qg H c):a≠c:=by
 have rd:∀{u:HO},Rd H a u->a≠c:=λ{u} r=>by
  rcases r with r|⟨o,r⟩
  .exact bN r f.1
  .exact bN r f.1
 have mk:∀{o:Obj},X.K.lookup a=some o->a≠c:=λ{o} e z=>by
  subst z;have e':=I.ok.mod.Hw _ _ e;rcases f.2.2.2.1 with q|q
  .exact I.ok.uZ _ _ e' q
  .exact absurd (U8 (U3 (I.ok.bs _ _ e').1) q) (Xl _)
 cases b with
 | true =>
  rcases(show g9 X.K H a xs from h) with r|⟨o,Qo,n,e,_⟩
  .exact rd r
  .exact mk e
 | false =>
  rcases(show gR X.K H a xs from h) with r|⟨o,Qo,n,e,_⟩
  .exact rd r
  .exact mk e
def N8 (K : UU)(b1 b2 : Bool)(a1 a2 : Addr) : It :=
  ⟨λi H => ∃xs ys x y,kR K H b1 a1 xs /\ kR K H b2 a2 ys /\ xs[i]? = some x /\ ys[i]? = some y,
   λi H v H' => ∃p x y,H p=none /\ v=.ref p /\ H'=upd H p (.tup [x,y]) /\ (∀xs,kR K H b1 a1 xs -> xs[i]? = some x) /\ (∀ys,kR K H b2 a2 ys -> ys[i]? = some y),
   λi H => ∃xs ys,kR K H b1 a1 xs /\ kR K H b2 a2 ys /\ (xs.length <= i \/ ys.length <= i)⟩
theorem En{K:UU}{tp:Pos}(b1 b2:Bool)(a1 a2 z TI TO i1 i2:Addr)(D:TI≠z/\TO≠z/\i1≠z/\i2≠z/\TI≠TO/\TI≠i1/\TI≠i2/\TO≠i1/\TO≠i2/\i1≠i2):Turn P w K (.Tuple elts x1 tp) (N8 K b1 b2 a1 a2) [z,TO,i1,i2,TI] z (λi h=>IsZip h z TI TO .none/\IsPair h TI (.ref i1) (.ref i2)/\(∃a b,IsPair h TO a b)/\eB h b1 i1 a1 i/\eB h b2 i2 a2 i) where
 mem:=by simp
 obj:=λi h st b hb=>by
  obtain⟨hz,QV,⟨a,c,QY⟩,h1,h2⟩:=st;simp only[U9,We,or_false] at hb;rcases hb with q|q|q|q|q<;>subst q
  .exact⟨_,hz,λv z=>by cases z⟩
  .exact⟨_,QY,λv z=>by cases z⟩
  .obtain⟨o,vs,e,d⟩:=h1.obj;exact⟨o,e,λv z=>by rw[d] at z;cases z⟩
  .obtain⟨o,vs,e,d⟩:=h2.obj;exact⟨o,e,λv z=>by rw[d] at z;cases z⟩
  .exact⟨_,QV,λv z=>by cases z⟩
 keep:=λi h h' st k=>by
  obtain⟨hz,QV,⟨a,c,QY⟩,h1,h2⟩:=st;exact⟨k z ↑13 _ hz,k TI ↑13 _ QV,⟨a,c,k TO ↑13 _ QY⟩,h1.at λo e=>k i1 ↑13 o e,h2.at λo e=>k i2 ↑13 o e⟩
 item:=by
  intro X hP hw hK hc i Qg s σ H E I hf st hg;subst hP hw hK;obtain⟨xs,ys,x,y,QX,QQ,hx,hy⟩:=hg;obtain⟨S7,Tr,p1,UH⟩:=I.row QX;obtain⟨Q_,Tt,p2,Sq⟩:=I.row QQ;obtain⟨u1,hu1,ru1⟩:=Tr.get hx;obtain⟨u2,hu2,ru2⟩:=Tt.get hy;obtain⟨hz,QV,⟨a,c,QY⟩,h1,h2⟩:=st;obtain⟨d1,d2,d3,d4,d5,d6,d7,d8,d9,d10⟩:=D;obtain⟨o1,n1,e1,dd1⟩:=p1.obj;obtain⟨o2,n2,e2,Ub⟩:=p2.obj;obtain⟨oi1,vs1,Ud,di1⟩:=h1.obj;obtain⟨oi2,vs2,Ue,di2⟩:=h2.obj;have D:ZipApart z TI TO i1 i2 a1 a2:=⟨d1,d2,d3,d4,d5,d6,d7,d8,d9,d10,cB I QX (hf z ↑13),cB I QX (hf TO ↑13),cB I QX (hf i1 ↑13),cB I QX (hf i2 ↑13),
   cB I QQ (hf z ↑13),cB I QQ (hf TO ↑13),cB I QQ (hf i1 ↑13),cB I QQ (hf i2 ↑13)⟩
  refine mP D hz QV QY h1 h2 p1 p2 (x:=u1) (y:=u2) (by simpa using hu1) (by simpa using hu2) λh' g1 g2 g3 g4 g5 g6 g7=>⟨_,rfl,?_⟩
  refine aae (s:={ s with heap:=h' }) g1 λh3 UI Sn=>?_;have RF:H s.heap.objs.size=none:=I.bq.fresh (UZ _);have lt:∀{c:Addr}{o:Obj},s.heap.get? c=some o->c≠s.heap.objs.size:=λe=>Vh (U3 e);have S9:∀b o,b ∉ [z,TO,i1,i2,TI]->s.heap.get? b=some o->h3.get? b=some o:=λb o hb q=>by
   simp only[U9,We,or_false,not_or] at hb;exact(Sn.2 b hb.1).trans (g7 b o hb.1 hb.2.1 hb.2.2.1 hb.2.2.2.1 q)
  have hT3:h3.get? s.heap.objs.size=some { cls:=.type "tuple",data:=.seq #[u1,u2] }:=(Sn.2 _ (lt hz).symm).trans g5;have I3:Inv X Qg σ (upd H s.heap.objs.size (.tup [x,y])) { s with heap:=h3,toks:=s.toks } :=
   I.kz (ch:=[z,TO,i1,i2,TI]) S9 hf (UZ _) (λb hb=>by
    simp only[U9,We,or_false] at hb;rcases hb with q|q|q|q|q<;>subst q
    .exact⟨_,hz⟩
    .exact⟨_,QY⟩
    .exact⟨_,Ud⟩
    .exact⟨_,Ue⟩
    .exact⟨_,QV⟩)
    ⟨by show 2<=sizeLine;decide,[u1,u2],.cons ru1 (.cons ru2 .nil),⟨_,hT3,rfl,_,rfl⟩⟩
  refine⟨.ref s.heap.objs.size,_,I3,rfl,⟨_,x,y,RF,rfl,rfl,λzs Tq=>by rwa[I.mh Tq QX],λzs Tq=>by rwa[I.mh Tq QQ]⟩,
   ⟨UI,(Sn.2 TI d1).trans (g7 TI _ d1 d5 d6 d7 QV),⟨_,_,(Sn.2 TO d2).trans g2⟩,g3.at λo e=>(Sn.2 i1 d3).trans e,g4.at λo e=>(Sn.2 i2 d4).trans e⟩,λb hb=>?_⟩
  have nb:b≠s.heap.objs.size:=by
   simp only[U9,We,or_false] at hb;rcases hb with q|q|q|q|q<;>subst q
   .exact lt hz
   .exact lt QY
   .exact lt Ud
   .exact lt Ue
   .exact lt QV
  rw[au nb];exact(hf b hb).1
 done:=by
  intro X hP hw hK hc i Qg s σ H E I hf st hg;subst hP hw hK;obtain⟨xs,ys,QX,QQ,Rw⟩:=hg;obtain⟨S7,Tr,p1,UH⟩:=I.row QX;obtain⟨Q_,Tt,p2,Sq⟩:=I.row QQ;obtain⟨hz,QV,⟨a,c,QY⟩,h1,h2⟩:=st;obtain⟨d1,d2,d3,d4,d5,d6,d7,d8,d9,d10⟩:=D;have D:ZipApart z TI TO i1 i2 a1 a2:=⟨d1,d2,d3,d4,d5,d6,d7,d8,d9,d10,cB I QX (hf z ↑13),cB I QX (hf TO ↑13),cB I QX (hf i1 ↑13),cB I QX (hf i2 ↑13),
   cB I QQ (hf z ↑13),cB I QQ (hf TO ↑13),cB I QQ (hf i1 ↑13),cB I QQ (hf i2 ↑13)⟩
  have l1:=Tr.length;have l2:=Tt.length;refine oh (I.ok.hd hc) D hz QV QY h1 h2 p1 p2 ?_ λh' k=>⟨rfl,?_⟩
  .rcases Rw with q|q
   .exact .inl (by simp;lia)
   .exact .inr (by simp;lia)
  .exact I.yD (t':=s.toks) (ch:=[z,TO,i1,i2,TI]) (λb u hb e=>by
    simp only[U9,We,or_false,not_or] at hb;exact k b u hb.1 hb.2.1 hb.2.2.1 hb.2.2.2.1 e) hf
 self:=λ_ _ _ _ _ st h=>by
  obtain⟨hz,_⟩:=st;exact Ze hz h
theorem JH(n:Nat):n+2≠n+4/\n+3≠n+4/\n≠n+4/\n+1≠n+4/\n+2≠n+3/\n+2≠n/\n+2≠n+1/\n+3≠n/\n+3≠n+1/\n≠n+1:=by
 refine⟨?_,?_,?_,?_,?_,?_,?_,?_,?_,?_⟩<;>lia
def MJ(K:UU)(tl:TA):TI:=fun σ H R=>tl σ H λvs H1=>∃b1 b2 a1 a2,vs=[.ref a1,.ref a2]/\(∃xs,kR K H1 b1 a1 xs)/\(∃ys,kR K H1 b2 a2 ys)/\R (N8 K b1 b2 a1 a2) H1
def pS{tp:Pos}{l1 l2:Expr}{p pos:Pos}(hg:Gl X "zip")(hm:X.mg "zip"=none)(hl:PA X [l1,l2] tl)(hs:autoParam (starEach [l1,l2] X.env=[(false,eval l1 X.env),(false,eval l2 X.env)]) aR._auto_1)(Rx:autoParam (starEach [l2] X.env=[(false,eval l2 X.env)]) aR._auto_1):PI X (.Tuple elts x1 tp) (.Call (.Name "zip" p) [l1,l2] [] pos) (MJ X.K tl):=by
 intro Qg s σ H R I h;refine Call_ (jr I hg hm aa9 (V_ (ck (hl pos Qg s σ H _ I h) λus s1 ⟨vs,H1,I1,r1,q1⟩=>?_) (by rw[hs,Rx]) (by rw[Rx];rfl)));obtain⟨b1,b2,a1,a2,e,⟨xs,QX⟩,⟨ys,QQ⟩,q⟩:=q1;subst e;cases r1 with
 | cons r rr =>
  cases rr with
  | cons r' rr =>
   cases rr;cases (show _=U5 a1 from r);cases (show _=U5 a2 from r');obtain⟨S7,Tr,p1,UH⟩:=I1.row QX;obtain⟨Q_,Tt,p2,Sq⟩:=I1.row QQ;refine zm p1 p2 λh' g1 g2 g3 g4 g5 g6 g7=>?_;have I2:Inv X Qg σ H1 { s1 with heap:=h' }:=I1.kept (t':=s1.toks) g7;refine Ze (s:={ s1 with heap:=h' }) g1 ?_;refine⟨s1.heap.objs.size+4,[s1.heap.objs.size+4,s1.heap.objs.size+3,s1.heap.objs.size,s1.heap.objs.size+1,s1.heap.objs.size+2],_,_,H1,rfl,I2,
    En b1 b2 a1 a2 _ _ _ _ _ (JH s1.heap.objs.size),⟨g1,g2,⟨_,_,g3⟩,g4,g5⟩,λb hb=>?_,q⟩
   have hle:s1.heap.objs.size<=b:=by
    simp only[U9,We,or_false] at hb;rcases hb with q|q|q|q|q
    .rw[q];exact Wt _ 4
    .rw[q];exact Wt _ 3
    .rw[q];exact UZ _
    .rw[q];exact Wt _ 1
    .rw[q];exact Wt _ 2
   exact I1.rn hle (I1.bq.fresh hle)
def O7(K:UU)(b:Bool)(a:Addr):It:=match b with
 | true=>Pg K a
 |false=>Px K a
def Ms(K:UU)(tl:TE):TI:=fun σ H R=>tl σ H λx H1=>∃b a,x=.ref a/\(∃xs,kR K H1 b a xs)/\R (O7 K b a) H1
def dU{l:Expr}{tl:TE}(hl:PE X l tl):PI X tg l (Ms X.K tl):=by
 intro Qg s σ H R I h;refine ck (hl Qg s σ H _ I h) λv s1 ⟨x,H1,I1,r1,q1⟩=>?_;obtain⟨b,a,e,⟨xs,hq⟩,q⟩:=q1;subst e;cases r1;cases b with
 | true =>
  obtain⟨Qo,rv,p,hz⟩:=I1.list hq;refine aai p.isList ?_;refine⟨s1.heap.objs.size,[s1.heap.objs.size],_,_,H1,rfl,I1.kept (t':=s1.toks) λb o e=>UT _ e,zB a _,⟨_,U1 _ rfl,rfl,rfl⟩,λb hb=>?_,q⟩;have e:b=s1.heap.objs.size:=by simpa using hb
  subst e;exact I1.rn (UZ _) (I1.bq.fresh (UZ _))
 | false =>
  obtain⟨Qo,rv,p,hz⟩:=I1.tuple hq;refine X3 (show s1.heap.IsTuple a Qo.toArray from p) ?_;refine⟨s1.heap.objs.size,[s1.heap.objs.size],_,_,H1,rfl,I1.kept (t':=s1.toks) λb o e=>UT _ e,yc a _,⟨_,U1 _ rfl,rfl,rfl⟩,λb hb=>?_,q⟩;have e:b=s1.heap.objs.size:=by simpa using hb
  subst e;exact I1.rn (UZ _) (I1.bq.fresh (UZ _))
structure ja (K:UU) (C:Addr):Prop where
 ga:VY K (.ref C) "__getattribute__"=some (some (.builtin "BaseException.__getattribute__"))
 gn:VY K (.ref C) "__getattr__"=some none
 hd:YQ K C=true
 sa:VY K (.ref C) "__setattr__"=some (some (.builtin "object.__setattr__"))
 mb:aao K C (.type "BaseException")=some true
 mo:aao K C (.type "object")=some true
 ca:VY K (.ref C) "__class__"=some (some (.builtin "object.__class__"))
 cg:YS K (.builtin "object.__class__") "__get__"=some (some (.builtin "getset_descriptor.__get__"))
 ct:Zy K (.builtin "object.__class__")=some true
variable{name:Str}{ox:Obj}
section
variable{E:Value->Shared->Prop}{K:UU}{x:Addr}{od:Option Obj}
def Em:builtinKind "BaseException.__getattribute__"=some .slot:=by decide +kernel
def AK:splitId "BaseException.__getattribute__"=some ("BaseException","__getattribute__"):=by decide +kernel
def IP{tk:Tok}{fill expr:Bool}(c:ja K C)(X:K.In s.heap)(I:XS s.heap x ox C od)(h:wpAny ↑11 A.in1 (Builtin.«object.__getattribute__» ⟨[.ref x,.str name tk],[]⟩) (λfin s'=>match fin with|.done (.ret v)=>wpAny ↑11 A (handedOut v) Q E s'|_=>False) (λ_ _=>False) s):wpAny ↑11 A (getAttrBy (.ref x) (.str name tk) fill expr) Q E s:=by
 have Rz:(Zn "BaseException.__getattribute__" == Zn "object.__getattribute__")=false:=by decide +kernel
 have TH:(onTheHeap (U5 C)&&Zn "BaseException.__getattribute__" == Zn "object.__getattribute__")=false:=by rw[Rz];rfl
 have hx0:(expr&&onTheHeap (Zn "BaseException.__getattribute__"))=false:=by cases expr<;>rfl
 have sub:Yy ↑11 s.heap (isInstance (.ref x) (.type "BaseException")) true:=I.type.andThen (ZK X c.mb);unfold getAttrBy;refine Wx (TR (I.type.here (TR ((Yd X c.ga).here ?_))));dsimp only;rw[TH,if_neg VD];unfold getAttrByItsOwn hookBefore;refine TR ?_;show wpAny _ _ (typeLookup (.ref C) "__getattr__") _ _ _;refine(Yd X c.gn).here ?_;refine TR (W7 (Wx ?_));unfold callGetattribute;rw[hx0,if_neg VD];unfold boundAndCalled;refine TR (wpAny_of_eq (aau.ga.bind _) ?_);refine Z7 (abm aau.ga.plain PySem.F.entry_bexc_ga (@abK ↑11 _ _ s "BaseException.__getattribute__" "BaseException" "__getattribute__" (.ref x) [.str name tk] [] _ Em AK sub (PySem.F.args_bexc_ga _ _) ?_));refine Wu h (λfin s' z=>?_) (λ_ _ z=>z.elim);rcases fin with (v|_|_|_)|_<;>first|exact z|exact z.elim
end
variable{newId:String}{dd:Option Addr}
variable{f:Addr}
section
open PySem.Builtin.ObjectAttr (storeInOwnDict storeTaker? setByDescriptor)
noncomputable abbrev eY:List Value:=[.type "ValueError",.type "Exception",.type "BaseException",.type "object"]
noncomputable def gF:List Value->Bool
 | .ref _::r=>gF r
 |l=>l==eY
def qr(self:Value):refuseLoop self "__setattr__" eY=pure ():=by kernel_rfl
theorem nI(self:Value):∀{l:List Value},gF l=true->refuseLoop self "__setattr__" l=pure ()
 | .ref c::r,e=>by rw[PySem.refuseLoop_ref];exact nI self e
 | [],e=>by cases (show false=true from e)
 | .type n::r,e=>by rw[show Wm n::r=eY from beq_iff_eq.mp e];exact qr self
 |.none::r,e=>by rw[show VC::r=eY from beq_iff_eq.mp e];exact qr self
section
variable{E:Value->Shared->Prop}{K:UU}{x:Addr}{od:Option Obj}
def rX{a g:Value}(hc:(XJ K C).isSome=true)(ha:VY K (.ref C) name=some (some a))(hg:YS K a "__get__"=some (some g))(ht:Zy K a=some true):aa3 K C od name=some (.bind g a):=by
 obtain⟨cd,hc⟩:=Yw.mp hc;unfold aa3;rw[hc,acu,ha,acu];simp[hg,ht]
def zN{Q:Option Value->Shared->Prop}(c:ja K C)(X:K.In s.heap)(I:XS s.heap x ox C od)(h:Q (some (.ref C)) { s with toks:=s.toks+1 }):wpAny ↑11 A (getAttr? (.ref x) "__class__") Q E s:=by
 have hc:(XJ K C).isSome=true:=by obtain⟨cd,hc,_⟩:=XT c.hd;rw[hc];rfl
 have hf:aa3 K C od "__class__"=some (.bind (.builtin "getset_descriptor.__get__") (.builtin "object.__class__")):=rX hc c.ca c.cg c.ct;unfold getAttr? getAttrBy?;refine TR (wpAny_mkText (TR (W7 ?_)));refine IP (s:={ s with toks:=s.toks+1 }) c X I ?_;unfold Builtin.«object.__getattribute__»;refine TR (UX ?_);dsimp only;refine TR (UX ?_);refine TR (I.type.here (s:={ s with toks:=s.toks+1 }) (TR ((PySem.W.looks_find X I hf).here (s:={ s with toks:=s.toks+1 }) ?_)));show wpAny _ _ (holding [.builtin "object.__class__"] (call (.builtin "getset_descriptor.__get__") [.builtin "object.__class__",.ref x,.ref C]) >>= ret) _ _ _;refine TR (Wx (Z7 (PySem.W.class_get (s:={ s with toks:=s.toks+1 }) (ox:=ox) (od:=od) X I c.mo ?_)));refine UX ?_;exact PySem.W.handed_on rfl (UX h)
def wa(c:ja K C):acX K (.ref x) (.ref C) (λh=>XS h x ox C od) where
 ty:=λ_ _ _ I=>I.type
 it:=λ_ _ X _=>by
  obtain⟨cdD,SQ,_⟩:=XT c.hd;unfold XJ at SQ
  split at SQ
  .rename_i c' d' cd' sl' ho;intro A' Q' E' s' k q;unfold isType loadHead;exact TR (YR (k _ _ (X _ _ ho)) (UX q))
  .cases SQ
 ne:=λh tp dd Qo n sl X htp=>by
  obtain⟨cdD,SQ,_⟩:=XT c.hd;refine Bool.eq_false_iff.mpr λq=>?_;have e:C=tp:=Value.ref.inj (beq_iff_eq.mp q);subst e;unfold XJ at SQ
  split at SQ
  .rename_i c' d' cd' sl' ho;have z:=(X _ _ ho).symm.trans htp;cases z
  .cases SQ
 ca:=λX I k=>zN c X I k
def Gh{tk:Tok}{v:Value}{R:Result->Shared->Prop}(po:((XJ K C).any λcd=>gF cd.mro)=true)(c:ja K C)(X:K.In s.heap)(I:XS s.heap x ox C od)(ht:YB K C name=some none)(h:∀b,wpAny ↑11 A.in1 (storeInOwnDict (.ref x) (.ref C) (.str name tk) name v b) (λfin s'=>match fin with|.done f=>R (.ok f) s'|.again c'=>c'.quiet=true/\codeAny ↑11 A c' R s') (λe s'=>R (.error e) s') s):codeAny ↑11 A (.call (.builtin "object.__setattr__") ⟨[.ref x,.str name tk,v],[]⟩) R s:=by
 have SF:=PySem.F.store_object;obtain⟨cd,hc,ho⟩:=XT po;have sub:Yy ↑11 s.heap (isInstance (.ref x) (.type "object")) true:=I.type.andThen (ZK X c.mo);refine abm SF.slot.plain SF.entry (@abK ↑11 _ _ s "object.__setattr__" "object" "__setattr__" (.ref x) [.str name tk,v] [] _ SF.kind SF.split sub (SF.args (.ref x) (.str name tk) v) ?_);obtain⟨attr,ha,hr⟩:=YL.mp ht;have hm:Yy ↑11 s.heap (mroOf (.ref C)) cd.mro:=(ZJ X hc).andThen .now;have L3:Yy ↑11 s.heap (storeTaker? attr) none:=by
  cases attr with
  | none=>cases hr;exact .now
  | some a =>
   obtain⟨b,hb,e⟩:=Vo.mp hr;refine(PySem.W.looks_takesIn X hb).andThen ?_;cases b with
   | true=>cases e
   | false=>exact .now
 rw[PySem.W.osa_eq,PySem.refuse_eq];refine TR (TR (I.type.here (TR (hm.here ?_))));rw[nI _ ho];refine UX (TR (I.type.here (TR ((Yd X ha).here (TR (L3.here ?_))))));exact h _
def BO{vs:Array Value}{v:Value}{Q:Unit->Shared->Prop}(po:((XJ K C).any λcd=>gF cd.mro)=true)(c:ja K C)(X:K.In s.heap)(hx:s.heap.get? x=some ⟨.ref C,none,.fields vs,#[]⟩)(ht:YB K C name=some none)(h:∀h' tk d,h'.get? x=some ⟨.ref C,some d,.fields vs,#[]⟩->s.heap.get? d=none->h'.Ns1 d (λy=>if y=name then some v else none)->(∀b o,b≠x->s.heap.get? b=some o->h'.get? b=some o)->Q () { s with heap:=h',toks:=tk }):wpAny ↑11 A (setAttr (.ref x) name v) Q E s:=by
 have I:XS s.heap x ⟨.ref C,none,.fields vs,#[]⟩ C none:=⟨hx,rfl,rfl,trivial⟩
 refine abX X I c.sa (Gh (s:={ s with toks:=s.toks+1 }) po c X I ht λb=>?_);obtain⟨cd,hc,Um⟩:=XT c.hd;have QW:=U3 hx;refine TR (UX (TR (TR (YR hx (TR (abH (s:={ s with toks:=s.toks+1 }) (ZJ X hc) ?_))))));rw[Um];refine TR (wpAny_alloc ?_);have TH:(s.heap.push { cls:=.type "dict",data:=.dict #[] }).get? x=some ⟨.ref C,none,.fields vs,#[]⟩:=UT _ hx;refine TR (wpAny_update TH ?_);refine UX (a:=some s.heap.objs.size) (TR (UX (TR ?_)));have Rz:((s.heap.push { cls:=.type "dict",data:=.dict #[] }).update x λo=>{ o with dict:=some s.heap.objs.size }).get? x=some ⟨.ref C,some s.heap.objs.size,.fields vs,#[]⟩:=VS _ TH rfl;have e1:(s.heap.push { cls:=.type "dict",data:=.dict #[] }).get? s.heap.objs.size=some { cls:=.type "dict",data:=.dict #[] }:=U1 s.heap rfl;have nxd:s.heap.objs.size≠x:=WB QW;have e2:((s.heap.push { cls:=.type "dict",data:=.dict #[] }).update x λo=>{ o with dict:=some s.heap.objs.size }).get? s.heap.objs.size=some { cls:=.type "dict",data:=.dict #[] }:=by
  rwa[Vy _ _ (W5 nxd)]
 have e3:((s.heap.push { cls:=.type "dict",data:=.dict #[] }).update x λo=>{ o with dict:=some s.heap.objs.size }).Ns s.heap.objs.size (λ_=>none):=⟨_,#[],_,e2,rfl,(λe he=>absurd he ↑13),λ_=>rfl⟩
 refine wpAny_nsSet1 (s:={ s with heap:=(s.heap.push { cls:=.type "dict",data:=.dict #[] }).update x λo=>{ o with dict:=some s.heap.objs.size },toks:=s.toks+1 }) (abZ e3) λh' SE Rx=>?_;obtain⟨oD,esD,epD,hoD,hdD,SQ⟩:=SE.count (abY (ns:=[]) name v (λy hy=>absurd rfl hy));refine TR (wpAny_lookBehind hoD (by rw[hdD];exact pastItsLine_dict (VM SQ (by show 1<=sizeLine+1;exact Nat.le_add_left _ _))) ?_);refine UX (h h' _ s.heap.objs.size ((Rx.2 x (W5 nxd)).trans Rz) (Yb (UZ _)) SE λb o hb e=>?_);refine(Rx.2 b (Vh (U3 e))).trans ?_;rw[Vy _ _ (W5 hb)];exact UT _ e
end
noncomputable def qc(K:UU)(C:Addr)(newId:String)(f:Addr):Bool:=match K.lookup C with
 | some ⟨.type "type",_,.cls cd,sl⟩=>(match cd.mro,sl.toList with
  | .ref C'::bm,[_,_,_,_,some (.builtin n),_]=>C'==C&&n==newId&&!cd.hasDel&&PySem.W.tailIn K eY bm&&PySem.W.nsOkIn K cd.ns&&aaL K cd.ns "__init__" == some (some (.ref f))
  | _,_=>false)
 |_=>false
section
variable{E:Value->Shared->Prop}{g:Array GenState}{d:Drawn}{t:Nat}{os:OsState}
variable{nm q:Str}{N:Addr}{bs bm:List Value}{Sb:Bool}{sn:List Str}{sub:List Value}{ab:Bool}{col:Option Bool}{k0 k1 k2 k3 k5:Option Value}{T1:String}
def pe(F:ExcBaseFacts "ValueError" newId T1 eY)(T:OwnTail h eY bm){mN:Str->Option Value}{rest:List Value}{Q:Fin->Shared->Prop}(hC:h.get? C=some (excClassObj nm q C N bs bm Sb sn sub ab col dd k0 k1 k2 k3 k5 newId))(hn:h.Ns N mN)(Sv:mN "__init__"=some (.ref f))(hb:∀h':Heap,(∀b o,h.get? b=some o->h'.get? b=some o)->∀self,Yy ↑11 h' (bindSpecial (.ref f) self) (.ref f,[self]))(hq:∀h':Heap,(∀b o,h.get? b=some o->h'.get? b=some o)->h'.get? h.objs.size=some { cls:=.type "tuple",data:=.seq rest.toArray } ->h'.get? (h.objs.size+1)=some { cls:=.ref C,data:=.fields #[.ref h.objs.size,.none,.none,.none,.bool false,.none] }->h'.objs.size=h.objs.size+2 ->wpAny ↑11 A (call (.ref f) (.ref (h.objs.size+1)::rest)) (λv s'=>v=.none/\Q (.done (.ret (.ref (h.objs.size+1)))) s') E ⟨h',g,d,t,os⟩)(DY:rest.length<=sizeLine:=by size_fits):wpAny ↑11 A (Builtin.«type.__call__» ⟨.ref C::rest,[]⟩) Q E ⟨h,g,d,t,os⟩:=by
 repeat (first|with_reducible refine aaj hC ?_|with_reducible refine wpAny_madeBy_exc hC ?_|wp_step)
 refine codeAny_call_builtin_code (abL _ F.quiet) (wpAny_check_new_subT F T hC ?_);refine codeAny_exc_new_subT F T hC ?_ DY;show wpAny _ _ _ _ _ _;have kp:∀b o,h.get? b=some o->((h.push { cls:=.type "tuple",data:=.seq rest.toArray }).push { cls:=.ref C,data:=.fields #[.ref h.objs.size,.none,.none,.none,.bool false,.none] }).get? b=some o:=λb o e=>UT _ (UT _ e);have hC1:=kp _ _ hC;have hn₁:((h.push { cls:=.type "tuple",data:=.seq rest.toArray }).push { cls:=.ref C,data:=.fields #[.ref h.objs.size,.none,.none,.none,.bool false,.none] }).Ns N mN:=hn.keeps kp;have Us:((h.push { cls:=.type "tuple",data:=.seq rest.toArray }).push
   { cls:=.ref C,data:=.fields #[.ref h.objs.size,.none,.none,.none,.bool false,.none] }).get? (h.objs.size+1)=some
   { cls:=.ref C,data:=.fields #[.ref h.objs.size,.none,.none,.none,.bool false,.none] }:=by heap_get
 have htup:((h.push { cls:=.type "tuple",data:=.seq rest.toArray }).push
   { cls:=.ref C,data:=.fields #[.ref h.objs.size,.none,.none,.none,.bool false,.none] }).get? h.objs.size=some { cls:=.type "tuple",data:=.seq rest.toArray }:=UT _ (U1 _ rfl)
 have hsz:((h.push { cls:=.type "tuple",data:=.seq rest.toArray }).push { cls:=.ref C,data:=.fields #[.ref h.objs.size,.none,.none,.none,.bool false,.none] }).objs.size=h.objs.size+2:=by rw[VN,VN]
 have hcC:(U5 C::bm).contains (.ref C)=true:=by simp
 have T₁:=T.keeps kp;have hb1:=hb _ kp (.ref (h.objs.size+1));have fin:=hq _ kp htup Us hsz;generalize ((h.push { cls:=.type "tuple",data:=.seq rest.toArray }).push { cls:=.ref C,data:=.fields #[.ref h.objs.size,.none,.none,.none,.bool false,.none] })=h1 at *;unfold isInstance
 repeat (first|with_reducible refine aaj Us ?_|(with_reducible refine wpAny_isSubtype_exc hC1 ?_;rw[hcC])|wp_step)
 show wpAny _ _ (typeLookup (.ref C) _) _ _ _;refine wpAny_typeLookup_tail hC1 hn₁ T₁ F.mroIs F.init.lookup ?_;rw[Sv];refine Wx (TR (hb1.here ?_));refine TR (Wu fin (λv s' z=>?_) λ_ _ z=>z);obtain⟨rfl,z⟩:=z
 wp_walk
 exact z
end
end
def gW(C:Addr)(dd:Option Addr)(e:Addr):HO:=.ext λh=>∃vs,h.get? e=some ⟨.ref C,dd,.fields vs,#[]⟩
def Fs{e:Addr}{vs:Array Value}(he:h.get? e=some ⟨.ref C,dd,.fields vs,#[]⟩):bw P w H h e (gW C dd e) :=
 ⟨⟨vs,he⟩,⟨_,he⟩,λ_ _ ⟨vs,q⟩ k=>⟨vs,k _ q⟩⟩
def ExcAt(H:Hp)(e C:Addr)(fo:Option (List (Str×V))):Prop:=match fo with
 | none=>H e=some (gW C none e)
 |some fs=>∃d,H e=some (gW C (some d) e)/\H d=some (.xd fs)
def Inv.qP(I:Inv X Qg σ H s){e:Addr}(he:H e=some (gW C dd e)):∃vs,s.heap.get? e=some ⟨.ref C,dd,.fields vs,#[]⟩:=(I.bq e _ he).1
def Inv.F5(I:Inv X Qg σ H s){e:Addr}{fo:Option (List (Str×V))}(h:ExcAt H e C fo):∃ox od,XS s.heap e ox C od/\(fo=none->od=none) ∧∀fs,fo=some fs->∃(o:Obj)(mA:Str->Option Value),od=some o/\(∀n,YO n o=some (mA n))/\∀f,j9 (fs.lookup f) (mA f):=by
 cases fo with
 | none =>
  obtain⟨vs,q⟩:=I.qP h;exact⟨_,none,⟨q,rfl,rfl,trivial⟩,λ_=>rfl,λfs z=>(by cases z)⟩
 | some fs =>
  obtain⟨d,h1,h2⟩:=h;obtain⟨vs,q⟩:=I.qP h1;obtain⟨mA,n,r⟩:=(show ∃mA,s.heap.Ns1 d mA/\∀f,j9 (fs.lookup f) (mA f) from I.bq d _ h2)
  obtain⟨o,ho,hl⟩:=mL n;refine⟨_,some o,⟨q,rfl,rfl,ho⟩,λz=>(by cases z),λfs' z=>?_⟩;cases z;exact⟨o,mA,rfl,hl,r⟩
def Inv.ur{a:Addr}(I:Inv X Qg σ H s)(hn:s.heap.get? a=none):H a=none:=by
 cases q:H a with
 | none=>rfl
 | some u =>
  exfalso;have:∀(u:HO),bw X.prog X.w H s.heap a u->∃ob,s.heap.get? a=some ob:=by
   intro u
   induction u with
   | lst xs=>intro ⟨_,_,_,_,e⟩;exact⟨_,e⟩
   | tup xs=>intro ⟨_,_,_,p⟩;obtain⟨ob,e,_⟩:=p;exact⟨ob,e⟩
   | dK Qk=>intro ⟨_,_,_,_,p⟩;obtain⟨ob,_,_,e,_⟩:=p;exact⟨ob,e⟩
   | dT Qk=>intro ⟨_,_,_,_,ob,_,_,e,_⟩;exact⟨ob,e⟩
   | set S n=>intro p;obtain⟨es,ob,xs,ep,e,_⟩:=p;exact⟨_,e⟩
   | ins C dx fs=>intro ⟨_,_,_,e,_⟩;exact⟨_,e⟩
   | own x=>intro ⟨ob,e⟩;exact⟨ob,e⟩
   | xd fs=>intro ⟨mA,n,_⟩;obtain⟨ob,e,_⟩:=mL n;exact⟨ob,e⟩
   | met f x=>intro e;exact⟨_,e⟩
   | kU lo hi=>intro ⟨_,_,_,e⟩;exact⟨_,e⟩
   | kX o u _=>intro ⟨e,_⟩;exact⟨_,e⟩
   | HX ps=>intro e;exact⟨_,e⟩
   | ext φ=>intro ⟨_,⟨ob,e⟩,_⟩;exact⟨ob,e⟩
  obtain⟨ob,e⟩:=this u (I.bq a u q);rw[hn] at e;cases e
def Inv.Ia{a:Addr}(I:Inv X Qg σ H s)(k:∀b u,s.heap.get? b=some u->h'.get? b=some u)(hn:s.heap.get? a=none)(new:bw X.prog X.w (upd H a o) h' a o):Inv X Qg σ (upd H a o) { s with heap:=h',toks:=t' }:=by
 have ne:∀b u,s.heap.get? b=some u->b≠a:=λb u e z=>by rw[z,hn] at e;cases e
 have SX:H a=none:=I.ur hn;have Ta:∀b u,H b=some u->b≠a:=λb u e z=>by rw[z,SX] at e;cases e
 refine I.un ⟨λb u e _ _ _=>k b u e,λb u e _ _ _=>⟨u.slots,k b u e⟩,λb u e n _=>by rwa[au (ne b u e)],λb u e _=>⟨u,k b u e⟩,
  λb xs e=>by rwa[au (Ta b _ e)],λb ob u e=>by rwa[au (Ta b _ e)],λb ps e=>⟨#[],by rw[au (Ta b _ e),e];simp⟩⟩ λb u e=>?_
 by_cases z:b=a
 .subst z;rw[av] at e;cases e;exact new
 .rw[au z] at e;refine(I.bq b u e).mB (λc v _ q=>k c v q) (λc q=>?_) λc ys q=>?_
  .rw[au (Ta c _ q)];exact q
  .rw[au (Ta c _ q)];exact q
variable{apos:Pos}{m:Str}{ta:TE}
section
variable{o:Expr}{f:Str}{pos:Pos}
def OO(K:UU):List V->Hp->VK->Prop:=λxs H Q=>∃e C fo b,ja K C/\ExcAt H e C fo ∧
 ((∃T,xs=[.ref e,.ty T]/\W9 K (.ref C) (.type T)=some b)\/(∃D,xs=[.ref e,.ref D]/\W9 K (.ref C) (.ref D)=some b))/\Q (.bl b) H
def Bb:du X (.builtin "isinstance") (OO X.K):=by
 intro Qg s σ H xs us Q I r h;obtain⟨e,C,fo,b,c,ha,hc,q⟩:=h;obtain⟨ox,od,J,_⟩:=I.F5 ha;rcases hc with ⟨T,rfl,hk⟩|⟨D,rfl,hk⟩
 .cases r with
  | cons r1 r2 =>
   cases r2 with
   | cons r3 r4 =>
    cases r4;cases (show _=U5 e from r1);cases (show _=Wm T from r3);exact Wc (wa c) I.jG J hk (λz=>nomatch z) λtk=>⟨.bl b,H,I.tok tk,rfl,q⟩
 .cases r with
  | cons r1 r2 =>
   cases r2 with
   | cons r3 r4 =>
    cases r4;cases (show _=U5 e from r1);cases (show _=U5 D from r3);exact Wc (wa c) I.jG J hk (λz=>nomatch z) λtk=>⟨.bl b,H,I.tok tk,rfl,q⟩
end
variable{mg:Str->Option Value}
def xu{K:UU}{N:Addr}{n:Str}{v:Value}(X:K.In h)(G:h.Ns N mg)(e:aaL K N n=some (some v)):mg n=some v:=by
 obtain⟨o,es,ep,ho,hd,_,hf⟩:=G;unfold aaL at e
 split at e
 .rename_i c d T6 n' sl q;have:=X _ _ q;rw[ho] at this;cases this;cases hd
  split at e
  .rename_i en he;cases e;rw[<- hf];unfold nsFind findBy;rw[<- abG,he];rfl
  .split at e<;>cases e
 .cases e
def E9{K:UU}(X:K.In h)(q:Zo K C eY newId=true):∃bm N nm qn bs Sb sn sub ab col dd k0 k1 k2 k3 k5 mN,h.get? C=some (excClassObj nm qn C N bs bm Sb sn sub ab col dd k0 k1 k2 k3 k5 newId)/\h.Ns N mN/\mN "__init__"=none/\OwnTail h eY bm:=by
 unfold Zo at q
 split at q
 .rename_i dd cd sl ho
  split at q
  .rename_i C' bm k0 k1 k2 k3 n k5 hm hs;simp only[VR,beq_iff_eq,ab8] at q;obtain⟨⟨⟨⟨⟨rfl,rfl⟩,SS⟩,ht⟩,bq⟩,Sv⟩:=q;obtain⟨nm,bs,mro,ns,qn,hd,sn,sub,ab,col,del⟩:=cd;dsimp only at hm SS bq Sv;subst hm SS;have hsl:sl=#[k0,k1,k2,k3,some (.builtin n),k5]:=by
    obtain⟨l⟩:=sl;simp only at hs;rw[hs]
   subst hsl;exact⟨bm,ns,nm,qn,bs,hd,sn,sub,ab,col,dd,k0,k1,k2,k3,k5,_,X _ _ ho,.of_isNs (abM X bq),PySem.W.nsMap_none_of_in X bq Sv,abN X ht⟩
  .cases q
 .cases q
def CW{K:UU}(X:K.In h)(q:qc K C newId f=true):∃bm N nm qn bs Sb sn sub ab col dd k0 k1 k2 k3 k5 mN,h.get? C=some (excClassObj nm qn C N bs bm Sb sn sub ab col dd k0 k1 k2 k3 k5 newId)/\h.Ns N mN/\mN "__init__"=some (.ref f)/\OwnTail h eY bm:=by
 unfold qc at q
 split at q
 .rename_i dd cd sl ho
  split at q
  .rename_i C' bm k0 k1 k2 k3 n k5 hm hs;simp only[VR,beq_iff_eq,ab8] at q;obtain⟨⟨⟨⟨⟨rfl,rfl⟩,SS⟩,ht⟩,bq⟩,Sv⟩:=q;obtain⟨nm,bs,mro,ns,qn,hd,sn,sub,ab,col,del⟩:=cd;dsimp only at hm SS bq Sv;subst hm SS;have hsl:sl=#[k0,k1,k2,k3,some (.builtin n),k5]:=by
    obtain⟨l⟩:=sl;simp only at hs;rw[hs]
   subst hsl;have hN:=Heap.Ns.of_isNs (abM X bq);exact⟨bm,ns,nm,qn,bs,hd,sn,sub,ab,col,dd,k0,k1,k2,k3,k5,_,X _ _ ho,hN,xu X hN Sv,abN X ht⟩
  .cases q
 .cases q
variable{k:Nat}{es:List Expr}{e:Expr}{sp:Sp}{ps:List Str}{fd:FuncData}
section
variable{p pos:Pos}{t:TA}
end
section
open PySem.SeqAt (shaped noMix noMixAll)
end
section
open PySem.SeqAt (shaped noMix noMixAll)
def E6{x:V}{u t:Value}(I:Inv X Qg σ H s)(rx:RelV x u)(ty:j8 X.K H x t):∃HH:Heap->Prop,acX X.K u t HH/\HH s.heap/\u≠.builtin "__main__.__loader__#opaque" := by
 cases ty with
 | c8=>cases (show u=VC from rx);exact⟨_,ab0,Wn,λz=>nomatch z⟩
 | bl y=>cases (show u=Xq y from rx);exact⟨_,ab1,Wn,λz=>nomatch z⟩
 | int i=>obtain⟨t,q⟩:=(show ∃t,u=Zb i t from rx);cases q;exact⟨_,acn,Wn,λz=>nomatch z⟩
 | str y=>obtain⟨t,q⟩:=(show ∃t,u=ZX y t from rx);cases q;exact⟨_,aco,Wn,λz=>nomatch z⟩
 | HL y=>obtain⟨t,q⟩:=(show ∃t,u=abk y t from rx);cases q;exact⟨_,abI,Wn,λz=>nomatch z⟩
 | @lst a xs ea =>
  cases (show u=U5 a from rx);obtain⟨_,_,n,_,h1⟩:=(show bw X.prog X.w H s.heap a (.lst xs) from I.bq a _ ea)
  exact⟨_,YT,⟨_,h1,rfl⟩,λz=>nomatch z⟩
 | @kX a ob xs ea =>
  cases (show u=U5 a from rx);obtain⟨_,_,_,n,_,h1⟩:=(show bw X.prog X.w H s.heap a (.kX ob (.lst xs)) from I.bq a _ ea)
  exact⟨_,YT,⟨_,h1,rfl⟩,λz=>nomatch z⟩
 | @tup a xs ea =>
  cases (show u=U5 a from rx);obtain⟨_,_,_,o,h1,h2,_⟩:=(show bw X.prog X.w H s.heap a (.tup xs) from I.bq a _ ea)
  exact⟨_,abJ,⟨o,h1,h2⟩,λz=>nomatch z⟩
 | @dK a Qk ea =>
  cases (show u=U5 a from rx);obtain⟨_,_,vs,_,o,es,ep,h1,h2,_⟩:=(show bw X.prog X.w H s.heap a (.dK Qk) from I.bq a _ ea)
  exact⟨_,YU,⟨o,h1,h2.1⟩,λz=>nomatch z⟩
 | @dT a Qk ea =>
  cases (show u=U5 a from rx);obtain⟨_,_,xs,_,o,es,ep,h1,h2,_⟩:=(show bw X.prog X.w H s.heap a (.dT Qk) from I.bq a _ ea)
  exact⟨_,YU,⟨o,h1,h2.1⟩,λz=>nomatch z⟩
 | @ins a C dx fs ea cl ha hn LG hm =>
  cases (show u=U5 a from rx);obtain⟨mA,O,_⟩:=mE I.bq ea;obtain⟨od,J,_⟩:=O.look;exact⟨_,acp (cl.get _) cl.hd ha hn LG hm,J,λz=>nomatch z⟩
def LN(K:UU):List V->Hp->VK->Prop:=λxs H Q=>∃(x:V)(tp:Addr)(Ts:List String)(t:Value)(b:Bool),xs=[x,.ref tp]/\H tp=some (.tup (Ts.map V.ty))/\j8 K H x t/\Z8 K t (Ts.map Wm)=some b/\Q (.bl b) H
theorem ze:∀{Ts:List String}{us:List Value},Vals (Ts.map V.ty) us->us=Ts.map Wm
 | [],us,r=>by rw[Xh] at r;cases r;rfl
 | T::Ts,us,r=>by
  rw[Vg] at r;cases r with
  | cons r1 r2 =>
   cases (show _=Wm T from r1);rw[ze r2];rfl
def zz:du X (.builtin "isinstance") (LN X.K):=by
 intro Qg s σ H xs us Q I r h;obtain⟨x,tp,Ts,t,b,rfl,htp,ty,e,q⟩:=h;cases r with
 | cons r1 r2 =>
  cases r2 with
  | cons r3 r4 =>
   cases r4;cases (show _=U5 tp from r3);obtain⟨HH,Z,p,ne⟩:=E6 I r1 ty;obtain⟨_,Qo,rv,o,h1,h2,n,h3⟩:=(show bw X.prog X.w H s.heap tp (.tup (Ts.map V.ty)) from I.bq tp _ htp)
   have ei:=ze rv;subst ei;obtain⟨cls,dd,data,sl⟩:=o;dsimp only at h2 h3;subst h2 h3;exact PySem.W.kia_tup Z I.jG p h1 e ne λtk=>⟨.bl b,H,I.tok tk,rfl,q⟩
theorem yX:∀{bs:List Bool}{us:List Value},Vals (bs.map V.bl) us->us=bs.map Xq
 | [],us,r=>by rw[Xh] at r;cases r;rfl
 | b::bs,us,r=>by
  rw[Vg] at r;cases r with
  | cons r1 r2 =>
   cases (show _=Xq b from r1);rw[yX r2];rfl
def Kk:bootBuiltins "all"=some (.builtin "all"):=by decide +kernel
def AB(hc:X.calm=true):du X (.builtin "all") (λxs H Q=>∃(a:Addr)(bs:List Bool),xs=[.ref a]/\g9 X.K H a (bs.map V.bl)/\Q (.bl (bs.all id)) H):=by
 intro Qg s σ H xs us Q I r h;obtain⟨a,bs,rfl,hq,q⟩:=h;cases r with
 | cons r1 r2 =>
  cases r2;cases (show _=U5 a from r1);obtain⟨Qo,rv,p,hz⟩:=I.list hq;have ei:=yX rv;subst ei;have hl:=p.isList;have QW:a<s.heap.objs.size:=by obtain⟨_,e,_⟩:=hl;exact U3 e
  refine call_all_walk (aai hl ?_);refine⟨s.heap.objs.size,[s.heap.objs.size,a],[s.heap.objs.size],(bs.map Xq).toArray.size,_,_,λi=>(bs[i]?).getD true,rfl,Walks.list (A:=X.A.in1) (I.ok.hd hc) _ a (Vh QW) (bs.map Xq).toArray,
   ⟨⟨_,U1 _ rfl,rfl,rfl⟩,hl.push _⟩,λi v s' Q' E' hP hQ=>?_,λh' tk hk=>?_⟩
  .have hP':(bs.map Xq)[i]?=some v:=by simpa using hP
   rw[Vu] at hP';obtain⟨b,e1,e2⟩:=Vo.mp hP';subst e2;simp only[e1,Zg] at hQ;exact Xc hQ
  .have e:((Vc (bs.map Xq).toArray.size).all λi=>(bs[i]?).getD true)=bs.all id:=by
    rw[U6,U0];rw[ZA,Wd,Wd];constructor
    .intro h b hb;obtain⟨i,hi,e⟩:=abv hb;have:=h i (V3.mpr hi);simp only[UW hi,Zg,e] at this;exact this
    .intro h i hi;have SD:=V3.mp hi;simp only[UW SD,Zg];exact h _ (VP SD)
   rw[e];refine⟨.bl _,H,I.kept (t':=tk) (λb x e=>?_),rfl,q⟩;exact hk b x (λhm=>by rw[Vr.mp hm] at e;exact Xl _ (U3 e)) (UT _ e)
end
section
open PySem.MeetsSeq PySem.MeetsSeq2 PySem.MeetsSeq3
def mZ:fillsNumberSlot (.type "tuple") "mul"=pure false :=
 PySem.fillsNumberSlot_seq (id := "tuple.__mul__") (r:=some (.builtin "tuple.__rmul__")) F.slot_tuple_mul.lookup (by decide +kernel) F.slot_tuple_rmul.lookup (by decide +kernel)
def uu:seqRepeat? (.type "tuple")=pure (some (.builtin "tuple.__mul__")):=by
 unfold seqRepeat?;rw[acv (T := "tuple") (name := "__mul__") (id := "tuple.__mul__") F.slot_tuple_mul.lookup (by decide +kernel),acv (T := "tuple") (name := "__rmul__") (id := "tuple.__rmul__") F.slot_tuple_rmul.lookup (by decide +kernel)];rfl
def uw(a:Int)(t:Tok)(l:Addr)(Qi:Array Value)(n:Nat)(dd:Option Addr)(sl:Array (Option Value)):Meets (Builtin.«int.__rmul__» ⟨[.int a t,.ref l],[]⟩) (λ_ R s=>s.heap.get? l=some ⟨.type "tuple",dd,.seq Qi n,sl⟩/\R (.ok (.ret Value.notImplemented)) s) :=
 .of_wp λprog w A R s h=>by obtain⟨hp,g,d,tk,os⟩:=s;obtain⟨hl,h⟩:=h;wp_walk;exact⟨_,rfl,h⟩
def zY(l:Addr)(Qi:Array Value)(n:Nat)(dd:Option Addr)(sl:Array (Option Value))(u:Tok):Meets (Builtin.«tuple.__mul__» ⟨[.ref l,.int 1 u],[]⟩) (λ_ R s=>s.heap.get? l=some ⟨.type "tuple",dd,.seq Qi n,sl⟩/\R (.ok (.ret (.ref l))) s) :=
 .of_wp λprog w A R s h=>by
  obtain⟨hp,g,d,tk,os⟩:=s;obtain⟨hl,h⟩:=h;have f1:=aav;have f2:=Yz
  wp_walk using Wy hl
  exact⟨_,rfl,h⟩
def AF(l:Addr)(Qi:Array Value)(n:Nat)(dd:Option Addr)(sl:Array (Option Value))(x:Int)(u:Tok)(c0:¬ (decide (x < -2^63)||decide (x>=2^63))=true)(c1:¬ (Qi.isEmpty||x==1)=true)(c2:¬ (decide (x<=0)||Qi.isEmpty)=true)(c3:¬ (Qi.size:Int)*x>(2^63-1)/8)(c4:¬ Z9 ((Qi.size:Int)*x)=true)(hsz:(Z4 (λx1 x2=>x1++x2) #[] (UY x.toNat Qi)).size<=sizeLine):Meets (Builtin.«tuple.__mul__» ⟨[.ref l,.int x u],[]⟩) (λ_ R s=>s.heap.get? l=some ⟨.type "tuple",dd,.seq Qi n,sl⟩/\R (.ok (.ret (.ref s.heap.objs.size))) { s with heap:=s.heap.push { cls:=.type "tuple",data:=.seq (Z4 (λx1 x2=>x1++x2) #[] (UY x.toNat Qi)) },toks:=s.toks }) :=
 .of_wp λprog w A R s h=>by
  obtain⟨hp,g,d,tk,os⟩:=s;obtain⟨hl,h⟩:=h;have f1:=aav;have f2:=Yz
  wp_walk using Wy hl
  refine aa4 (decide_eq_false c0) ?_;wp_walk using Wy hl;refine aa4 (decide_eq_false c3) ?_;wp_walk using Wy hl;exact⟨_,rfl,h⟩
def Ay(l:Addr)(Qi:Array Value)(n:Nat)(dd:Option Addr)(sl:Array (Option Value))(x:Int)(u:Tok)(c0:¬ (decide (x < -2^63)||decide (x>=2^63))=true)(c1:¬ (Qi.isEmpty||x==1)=true)(c2:(decide (x<=0)||Qi.isEmpty)=true):Meets (Builtin.«tuple.__mul__» ⟨[.ref l,.int x u],[]⟩) (λ_ R s=>s.heap.get? l=some ⟨.type "tuple",dd,.seq Qi n,sl⟩/\R (.ok (.ret (.ref s.heap.objs.size))) { s with heap:=s.heap.push { cls:=.type "tuple",data:=.seq #[] },toks:=s.toks }) :=
 .of_wp λprog w A R s h=>by
  obtain⟨hp,g,d,tk,os⟩:=s;obtain⟨hl,h⟩:=h;have f1:=aav;have f2:=Yz
  wp_walk using Wy hl
  refine aa4 (decide_eq_false c0) ?_;wp_walk using Wy hl;exact⟨_,rfl,h⟩
def Hq(K:UU):R2:=λx y H Q=>∃a k xs,x=.ref a/\y=.int k/\gR K H a xs/\xs≠[]/\-(2^63)<=k/\k<2^63/\xs.length*k.toNat<=sizeLine/\(k=1->Q (.ref a) H)/\(k≠1->∀p,H p=none->Q (.ref p) (upd H p (.tup (UY k.toNat xs).flatten)))
theorem Fj:gQ X (binaryOp .Mult) (Hq X.K):=by
 intro Qg s σ H x y v u Q I rx ry h;obtain⟨a,k,xs,rfl,rfl,hq,SG,h1,h2,hz,q1,q2⟩:=h;cases rx;obtain⟨t,rfl⟩:=ry;obtain⟨Qo,r,⟨o,e,hc,n,hd⟩,_⟩:=I.tuple hq;obtain⟨cls,dd,data,sl⟩:=o;dsimp only at hc hd;subst hc hd;have hl:=r.length;refine aad (T := "tuple") (U := "int") ↑12 ⟨_,e,rfl⟩ (λs'=>aaI s' k t) mZ F.fills_int_mul F.slot_int_rmul uu F.slot_int_index.lookup
  (Ye F.slot_int_rmul (aaI s k t) F.entry_int_rmul (F.args_int_rmul_2 _ _) (uw k t a Qo.toArray n dd sl) ⟨e,rfl,⟨_,e,rfl⟩,?_⟩)
 by_cases hk1:k=1
 .subst hk1;exact Ye F.slot_tuple_mul ⟨_,e,rfl⟩ F.entry_tuple_mul (F.args_tuple_mul_2 _ _) (zY a Qo.toArray n dd sl t) ⟨e,⟨.ref a,H,I,rfl,q1 rfl⟩⟩
 .have Tf:(k==1)=false:=by simpa using hk1
  have Sv:Qo≠[]:=λz=>SG (r.my.mp z);have hie:Qo.toArray.isEmpty=false:=by cases Qo with|nil=>exact absurd rfl Sv|cons _ _=>rfl
  have c0:¬ (decide (k < -2^63)||decide (k>=2^63))=true:=by simp;lia
  have c1:¬ (Qo.toArray.isEmpty||k==1)=true:=by rw[hie,Tf];simp
  have fin:∀ys,ys=(UY k.toNat Qo).flatten.toArray->EP X Qg σ Q (.ref s.heap.objs.size) { s with heap:=s.heap.push { cls:=.type "tuple",data:=.seq ys },toks:=s.toks }:=λys ey=>by
   subst ey;refine⟨.ref s.heap.objs.size,_,I.laid (t':=s.toks) (o:=.tup (UY k.toNat xs).flatten) (λb ob q=>UT _ q) (UZ _) ?_,rfl,q2 hk1 _ (I.bq.fresh (UZ _))⟩;exact⟨by rwa[len_rep,ZQ],_,r.rep k.toNat,acq _ _⟩
  have RF:Z4 (λx1 x2=>x1++x2) #[] (UY k.toNat Qo.toArray)=(UY k.toNat Qo).flatten.toArray:=by
   have:=foldl_rep Qo k.toNat [];rwa[aa1] at this
  by_cases hk0:k<=0
  .have c2:(decide (k<=0)||Qo.toArray.isEmpty)=true:=by rw[decide_eq_true hk0];rfl
   refine Ye F.slot_tuple_mul ⟨_,e,rfl⟩ F.entry_tuple_mul (F.args_tuple_mul_2 _ _) (Ay a Qo.toArray n dd sl k t c0 c1 c2) ⟨e,fin _ ?_⟩;rw[show k.toNat=0 by lia];rfl
  .have c2:¬ (decide (k<=0)||Qo.toArray.isEmpty)=true:=by rw[decide_eq_false hk0,hie];simp
   have em:((Qo.toArray.size:Nat):Int)*k=((xs.length*k.toNat:Nat):Int):=by
    rw[U6,<- hl,YF,WS ⋯]
   have hs:(sizeLine:Int)<=(2^63-1)/8:=by decide
   refine Ye F.slot_tuple_mul ⟨_,e,rfl⟩ F.entry_tuple_mul (F.args_tuple_mul_2 _ _) (AF a Qo.toArray n dd sl k t c0 c1 c2 ?_ ?_ ?_) ⟨e,fin _ RF⟩
   .rw[em];lia
   .rw[em];unfold Z9;simp only[decide_eq_true_eq];lia
   .rw[RF,U6,len_rep,ZQ,<- hl];exact hz
end
structure bp (K:UU) (x qual:Str) (st:Stmt) (dv:Value) (f:Addr) (fd:FuncData):Prop where
 ex:∃(oc:Value)(od:Option Addr)(kV doc pm:Value)(an:Option Addr)(Qy ct:Value)(Ss:Array (Option Value)),
  fd=Wb x qual (g8 st) (dO st) (aT st) dv kV doc pm an Qy ct/\K.lookup f=some ⟨oc,od,.func fd,Ss⟩/\WN K Qy qual=true
 kp:V4 K (.ref f)=true
variable{base:Heap}
variable{ds:List Value}{T:Addr}{qual:Str}
section
variable{K:UU}
def bp.binds{st:Stmt}{o:Obj}(F:bp K x qual st (.ref T) f fd)(ho:K.lookup T=some o)(hs:o.data=.seq Qi n)(h:∀(kV doc pm:Value)(an:Option Addr)(Qy ct:Value)(us:List Value),(us++ds).length=ps.length->∃k,bindArgs (Wb x qual (g8 st) (dO st) (aT st) (.ref T) kV doc pm an Qy ct) ⟨us,[]⟩=seqItems? (.ref T) >>= k/\k (some Qi)=pure (ps.zip (us++ds))):Binds K fd ps ds:=by
 obtain⟨oc,od,kV,doc,pm,an,Qy,ct,Ss,rfl,lk,QP⟩:=F.ex;intro s us X hl;obtain⟨k,h1,h2⟩:=h kV doc pm an Qy ct us hl;exact BindsTo.of_defaults rfl (X _ _ ho) hs h1 h2
end
variable{v:V}
def LS{pos:Pos}(hg:Gl X x)(hm:∃u,X.mg x=some u/\RelV v u)(hd:autoParam ↑7 aD._auto_1):PE X (.Name x pos) (tC v):=by
 obtain⟨u,h1,h2⟩:=hm;exact GW hg h1 h2 hd
def KJ:bootBuiltins "max"=some (.builtin "max"):=by decide +kernel
def A5:bootBuiltins "min"=some (.builtin "min"):=by decide +kernel
variable{y:Str}
def Gv{cl:List (Str×Addr)}{pos Sf py:Pos}{wi:TI}{g:TG}{fs:List Str}(hN:X.N.Nodup)(hiy:X.N[i]?=some y)(hy:Loc X.env.scope y)(Qt:X.calm=true)(QK:closureFor scope X.env=pure cl)(hk:scope.kind=.function)(nc:f7 scope.names=true)(lo:hG scope.names=true)(fh:h_ cl scope.names=true)(ag:eN X cl)(fr:iE X scope cl fs js)(hi:PI X tg iter wi)(hg:∀C s₀ H₀ ex Qg,PG (rj X scope cl (ts++fs) C s₀ H₀ ex Qg) tg g)(he:∀C s₀ H₀ ex Qg,PE (rj X scope cl (ts++fs) C s₀ H₀ ex Qg) elt te)(hs:autoParam ↑5 aI._auto_1)(UG:autoParam (swapsWith (.ListComp elt [⟨tg,iter,[],0⟩] scope pos) (some (.Name y py)) Sf.line X.env=pure true) aR._auto_1)(hf:autoParam (X.fn y=true\/X.env.scope.names.lookup y=some .local) aF._auto_1):PS X (.Assign [.Name y py] (.ListComp elt [⟨tg,iter,[],0⟩] scope pos) Sf) (J8 (xH wi g te ts js) (aM i)):=by
 intro Qg s σ H D I h;rw[exec_Assign_Name_used _ _ _ _ UG];refine TR (Zl (TR ?_));show wpAny _ X.A (do let _ <- comprehension (.ListComp elt [⟨tg,iter,[],0⟩] scope pos) scope X.env _ (newList []) false (eval iter X.env) (some (assign (.Name y py) X.env))) _ _ s;refine TR (Wu (vj (tt:=none) Qt QK hk nc lo fh ag fr hi hg (λ_ _ _ _ _=>trivial) he hs I (show Di wi g none te ts js σ H (λx H1=>D.nx (σ.set i (some x)) H1) from h) (some (assign (.Name y py) X.env)) (λ_ s'=>SP X Qg D .next s') λDd H' s' C Io q hm f=>?_) (λ_ s' hq=>UX (UX hq)) λ_ _ e=>e);show wpAny _ X.A (assign (.Name y py) X.env (.ref Dd)) _ _ s';refine wpAny_assign_Name (sM Io hN hiy hy (v:=.ref Dd) rfl (λs'' I'' ⟨a,sb,ha⟩=>?_) hf);obtain⟨m,hn⟩:=hm;obtain⟨f0,f1,f2,f3,f4,f5⟩:=f;have naC:a≠C:=by
  rcases ha with z|z
  .rw[z];exact λw=>f1 w.symm
  .exact f4 y a z
 refine⟨m,hn.sameBut sb (W5 naC),λh' R_=>?_⟩;exact⟨_,H',I''.other ⟨f0,f1,f2,f3,f4,f5⟩ R_,q⟩
def qz(a b c:Value):checkTypeCall "zip" ⟨[a,b,c],[]⟩=pure ():=by kernel_rfl
def sd(a b c:Value):checkBuiltinCall "zip.__new__" ⟨[.type "zip",a,b,c],[]⟩=pure ():=by kernel_rfl
abbrev bJ(h:Heap)(T:Addr)(a b c:Value):Prop:=h.get? T=some { cls:=.type "tuple",data:=.seq #[a,b,c] }
structure Z3 (z TI TO i1 i2 i3:Addr):Prop where
 TIz:TI≠z
 TOz:TO≠z
 i1z:i1≠z
 i2z:i2≠z
 LC:i3≠z
 TITO:TI≠TO
 TIi1:TI≠i1
 TIi2:TI≠i2
 Oc:TI≠i3
 TOi1:TO≠i1
 TOi2:TO≠i2
 FU:TO≠i3
 i12:i1≠i2
 OJ:i1≠i3
 OK:i2≠i3
structure L3 (z TO i1 i2 i3 l:Addr):Prop where
 z:l≠z
 o:l≠TO
 i1:l≠i1
 i2:l≠i2
 i3:l≠i3
section
variable{E:Value->Shared->Prop}
def dq{a b c x:Value}{Q:Unit->Shared->Prop}(hT:bJ s.heap T a b c)(h:∀h',h'.get? T=some { cls:=.type "tuple",data:=.seq ((#[a,b,c]:Array Value).setIfInBounds k x) }->XE T s.heap h'->Q () { s with heap:=h' }):wpAny ↑11 A (updateSeq T (·.setIfInBounds k x)) Q E s:=by
 refine ZC hT rfl (h _ ?_ (XQ ..));rw[VS _ hT rfl];simp[Wo]
variable{b1 b2 b3:Bool}{z TI TO i1 i2 i3 l3:Addr}{k3:Nat}{xs zs:Array Value}{x y v a b c:Value}
def zZ(D:Z3 z TI TO i1 i2 i3)(D1:L3 z TO i1 i2 i3 l1)(D2:L3 z TO i1 i2 i3 l2)(D3:L3 z TO i1 i2 i3 l3)(hz:IsZip s.heap z TI TO .none)(QV:bJ s.heap TI (.ref i1) (.ref i2) (.ref i3))(QY:bJ s.heap TO a b c)(h1:eB s.heap b1 i1 l1 k1)(h2:eB s.heap b2 i2 l2 k2)(h3:eB s.heap b3 i3 l3 k3)(RE:f6 s.heap b1 l1 xs)(Ry:f6 s.heap b2 l2 ys)(SY:f6 s.heap b3 l3 zs)(hx:xs[k1]?=some x)(hy:ys[k2]?=some y)(hv:zs[k3]?=some v)(hQ:∀h',IsZip h' z TI TO (rawInt s.heap.objs.size)->bJ h' TO x y v->eB h' b1 i1 l1 (k1+1)->eB h' b2 i2 l2 (k2+1)->eB h' b3 i3 l3 (k3+1)->bJ h' s.heap.objs.size x y v->h'.objs.size=s.heap.objs.size+1 ->(∀c o,c≠z->c≠TO->c≠i1->c≠i2->c≠i3->s.heap.get? c=some o->h'.get? c=some o)->Q (.ref s.heap.objs.size) { s with heap:=h' }):wpAny ↑11 A (Builtin.«zip.__next__» ⟨[.ref z],[]⟩) (λfin s'=>∃v,fin=.done (.ret v)/\Q v s') E s:=by
 show wpAny _ _ (field (.ref z) 2 >>= _) _ _ _;refine TR (Vq hz rfl (x:=.bool false) rfl ?_);show wpAny _ _ (field (.ref z) 3 >>= _) _ _ _;refine TR (Vq hz rfl (x:=.ref TI) rfl ?_);refine TR (VZ QV rfl ?_);show wpAny _ _ (Vx (.ref z) >>= _) _ _ _;refine TR ?_;unfold Vx;refine TR (Vq hz rfl (x:=.none) rfl (UX ?_));simp only[if_true];refine TR (W0 ?_);refine TR (Vq hz rfl (x:=.ref TO) rfl ?_);refine TR (VU hz ↑13 λh₁ hz1 hs₁=>?_)
 replace hz1:IsZip h₁ z TI TO .ellipsis:=hz1
 refine TR ?_;simp only[Xn,Zz,YE,YY];refine TR (TR (W6 ?_));show wpAny _ _ (Vl (.ref i1) >>= _) _ _ _;refine TR (cR (h1.at λo e=>hs₁.extBut _ _ D.i1z e) (RE.at λo e=>hs₁.extBut _ _ D1.z e) hx λh₂ h1₂ hs2=>UX ?_);have hTO2:bJ h₂ TO a b c:=hs2.extBut _ _ D.TOi1 (hs₁.extBut _ _ D.TOz QY);refine TR (VZ hTO2 rfl ?_);refine TR (dq hTO2 λh₃ hTO3 hs3=>?_)
 replace hTO3:bJ h₃ TO x b c:=hTO3
 refine TR (XZ (UX ?_));have Th:∀q o,q≠z->q≠TO->q≠i1->s.heap.get? q=some o->h₃.get? q=some o:=λq o c1 c2 c3 e=>hs3.extBut _ _ c2 (hs2.extBut _ _ c3 (hs₁.extBut _ _ c1 e));refine TR (TR (W6 ?_));show wpAny _ _ (Vl (.ref i2) >>= _) _ _ _;refine TR (cR (h2.at λo e=>Th _ o D.i2z D.TOi2.symm D.i12.symm e) (Ry.at λo e=>Th _ o D2.z D2.o D2.i1 e) hy λh₄ h2₄ hs4=>UX ?_);have hTO4:bJ h₄ TO x b c:=hs4.extBut _ _ D.TOi2 hTO3;refine TR (VZ hTO4 rfl ?_);refine TR (dq hTO4 λh₅ hTO5 hs5=>?_)
 replace hTO5:bJ h₅ TO x y c:=hTO5
 refine TR (XZ (UX ?_));have k5:∀q o,q≠z->q≠TO->q≠i1->q≠i2->s.heap.get? q=some o->h₅.get? q=some o:=λq o c1 c2 c3 c4 e=>hs5.extBut _ _ c2 (hs4.extBut _ _ c4 (Th q o c1 c2 c3 e));refine TR (TR (W6 ?_));show wpAny _ _ (Vl (.ref i3) >>= _) _ _ _;refine TR (cR (h3.at λo e=>k5 _ o D.LC D.FU.symm D.OJ.symm D.OK.symm e) (SY.at λo e=>k5 _ o D3.z D3.o D3.i1 D3.i2 e) hv λh₆ h3₆ hs6=>UX ?_);have hTO6:bJ h₆ TO x y c:=hs6.extBut _ _ D.FU hTO5;refine TR (VZ hTO6 rfl ?_);refine TR (dq hTO6 λh₇ hTO7 hs7=>?_)
 replace hTO7:bJ h₇ TO x y v:=hTO7
 refine TR (XZ (UX (UX ?_)));refine TR (VZ hTO7 rfl ?_);refine TR (abl ?_);have hsz:h₇.objs.size=s.heap.objs.size:=by rw[hs7.1,hs6.1,hs5.1,hs4.1,hs3.1,hs2.1,hs₁.1]
 have hz3:IsZip h₃ z TI TO .ellipsis:=hs3.extBut _ _ D.TOz.symm (hs2.extBut _ _ D.i1z.symm hz1);have hz5:IsZip h₅ z TI TO .ellipsis:=hs5.extBut _ _ D.TOz.symm (hs4.extBut _ _ D.i2z.symm hz3);have hz7:IsZip h₇ z TI TO .ellipsis:=hs7.extBut _ _ D.TOz.symm (hs6.extBut _ _ D.LC.symm hz5);have k7:∀q o,q≠z->q≠TO->q≠i1->q≠i2->q≠i3->s.heap.get? q=some o->h₇.get? q=some o:=λq o c1 c2 c3 c4 c5 e=>hs7.extBut _ _ c2 (hs6.extBut _ _ c5 (k5 q o c1 c2 c3 c4 e));have h1₇:eB h₇ b1 i1 l1 (k1+1):=h1₂.at λo e=>hs7.extBut _ _ D.TOi1.symm (hs6.extBut _ _ D.OJ (hs5.extBut _ _ D.TOi1.symm (hs4.extBut _ _ D.i12 (hs3.extBut _ _ D.TOi1.symm e))));have h2₇:eB h₇ b2 i2 l2 (k2+1):=h2₄.at λo e=>hs7.extBut _ _ D.TOi2.symm (hs6.extBut _ _ D.OK (hs5.extBut _ _ D.TOi2.symm e));have h3₇:eB h₇ b3 i3 l3 (k3+1):=h3₆.at λo e=>hs7.extBut _ _ D.FU.symm e;have S6:z<h₇.objs.size:=U3 hz7;show wpAny _ _ (Wv (.ref z) (.ref h₇.objs.size) >>= _) _ _ _;refine TR ?_;unfold Wv;have hz₈:IsZip (h₇.push { cls:=.type "tuple",data:=.seq #[x,y,v] }) z TI TO .ellipsis:=UT _ hz7;refine TR (VU hz₈ ↑13 λh₉ hz9 hs9=>?_)
 replace hz9:IsZip h₉ z TI TO (rawInt h₇.objs.size):=hz9
 refine VU hz9 ↑13 λhA hzA hsA=>?_
 replace hzA:IsZip hA z TI TO (rawInt h₇.objs.size):=hzA
 have up:∀c o,c≠z->h₇.get? c=some o->hA.get? c=some o:=λc o c1 e=>hsA.extBut _ _ c1 (hs9.extBut _ _ c1 (UT _ e));have hTA:bJ hA h₇.objs.size x y v:=hsA.extBut _ _ (WB S6) (hs9.extBut _ _ (WB S6) (U1 _ rfl));have UJ:hA.objs.size=h₇.objs.size+1:=by rw[hsA.1,hs9.1,VN]
 rw[hsz] at hzA hTA UJ;refine UX ⟨_,rfl,?_⟩;show Q (.ref h₇.objs.size) _;rw[hsz];exact hQ hA hzA (up _ _ D.TOz hTO7) (h1₇.at λo e=>up _ o D.i1z e) (h2₇.at λo e=>up _ o D.i2z e) (h3₇.at λo e=>up _ o D.LC e) hTA UJ λc o c1 c2 c3 c4 c5 e=>up c o c1 (k7 c o c1 c2 c3 c4 c5 e)
def Br{Q:Fin->Shared->Prop}(hh:A.handled=none)(D:Z3 z TI TO i1 i2 i3)(D1:L3 z TO i1 i2 i3 l1)(D2:L3 z TO i1 i2 i3 l2)(D3:L3 z TO i1 i2 i3 l3)(hz:IsZip s.heap z TI TO .none)(QV:bJ s.heap TI (.ref i1) (.ref i2) (.ref i3))(QY:bJ s.heap TO a b c)(h1:eB s.heap b1 i1 l1 k1)(h2:eB s.heap b2 i2 l2 k2)(h3:eB s.heap b3 i3 l3 k3)(RE:f6 s.heap b1 l1 xs)(Ry:f6 s.heap b2 l2 ys)(SY:f6 s.heap b3 l3 zs)(Rw:xs[k1]?=none\/ys[k2]?=none\/zs[k3]?=none)(hE:∀h' e,(∀c o,c≠z->c≠TO->c≠i1->c≠i2->c≠i3->s.heap.get? c=some o->h'.get? c=some o)->(∃o,h'.get? e=some o/\o.cls=.type "StopIteration")->E (.ref e) { s with heap:=h' }):wpAny ↑11 A (Builtin.«zip.__next__» ⟨[.ref z],[]⟩) Q E s:=by
 show wpAny _ _ (field (.ref z) 2 >>= _) _ _ _;refine TR (Vq hz rfl (x:=.bool false) rfl ?_);show wpAny _ _ (field (.ref z) 3 >>= _) _ _ _;refine TR (Vq hz rfl (x:=.ref TI) rfl ?_);refine TR (VZ QV rfl ?_);show wpAny _ _ (Vx (.ref z) >>= _) _ _ _;refine TR ?_;unfold Vx;refine TR (Vq hz rfl (x:=.none) rfl (UX ?_));simp only[if_true];refine TR (W0 ?_);refine TR (Vq hz rfl (x:=.ref TO) rfl ?_);refine TR (VU hz ↑13 λh₁ hz1 hs₁=>?_)
 replace hz1:IsZip h₁ z TI TO .ellipsis:=hz1
 refine TR ?_;simp only[Xn,Zz,YE,YY];refine TR (TR (W6 ?_));show wpAny _ _ (Vl (.ref i1) >>= _) _ _ _;cases hx:xs[k1]? with
 | none =>
  refine TR (gL hh (h1.at λo e=>hs₁.extBut _ _ D.i1z e) (RE.at λo e=>hs₁.extBut _ _ D1.z e) hx λh₂ e hs2 he=>?_);obtain⟨oe,RP,Sj⟩:=he;have hz2:IsZip h₂ z TI TO .ellipsis:=hs2 _ _ D.i1z.symm hz1;have To:e≠z:=λx=>by subst x;rw[hz2] at RP;cases RP;simp at Sj
  refine VU hz2 ↑13 λh₃ _ hs3=>hE h₃ e (λc o c1 _ c3 _ _ x=>hs3.extBut _ _ c1 (hs2 _ _ c3 (hs₁.extBut _ _ c1 x))) ⟨oe,hs3.extBut _ _ To RP,Sj⟩
 | some x =>
  refine TR (cR (h1.at λo e=>hs₁.extBut _ _ D.i1z e) (RE.at λo e=>hs₁.extBut _ _ D1.z e) hx λh₂ h1₂ hs2=>UX ?_);have hTO2:bJ h₂ TO a b c:=hs2.extBut _ _ D.TOi1 (hs₁.extBut _ _ D.TOz QY);refine TR (VZ hTO2 rfl ?_);refine TR (dq hTO2 λh₃ hTO3 hs3=>?_)
  replace hTO3:bJ h₃ TO x b c:=hTO3
  refine TR (XZ (UX ?_));have Th:∀q o,q≠z->q≠TO->q≠i1->s.heap.get? q=some o->h₃.get? q=some o:=λq o c1 c2 c3 e=>hs3.extBut _ _ c2 (hs2.extBut _ _ c3 (hs₁.extBut _ _ c1 e));have hz3:IsZip h₃ z TI TO .ellipsis:=hs3.extBut _ _ D.TOz.symm (hs2.extBut _ _ D.i1z.symm hz1);refine TR (TR (W6 ?_));show wpAny _ _ (Vl (.ref i2) >>= _) _ _ _;cases hy:ys[k2]? with
  | none =>
   refine TR (gL hh (h2.at λo e=>Th _ o D.i2z D.TOi2.symm D.i12.symm e) (Ry.at λo e=>Th _ o D2.z D2.o D2.i1 e) hy λh₄ e hs4 he=>?_);obtain⟨oe,RP,Sj⟩:=he;have hz₄:IsZip h₄ z TI TO .ellipsis:=hs4 _ _ D.i2z.symm hz3;have To:e≠z:=λx=>by subst x;rw[hz₄] at RP;cases RP;simp at Sj
   refine VU hz₄ ↑13 λh₅ _ hs5=>hE h₅ e (λc o c1 c2 c3 c4 _ x=>hs5.extBut _ _ c1 (hs4 _ _ c4 (Th c o c1 c2 c3 x))) ⟨oe,hs5.extBut _ _ To RP,Sj⟩
  | some y =>
   have hv:zs[k3]?=none:=by
    rcases Rw with h|h|h
    .rw[hx] at h;cases h
    .rw[hy] at h;cases h
    .exact h
   refine TR (cR (h2.at λo e=>Th _ o D.i2z D.TOi2.symm D.i12.symm e) (Ry.at λo e=>Th _ o D2.z D2.o D2.i1 e) hy λh₄ h2₄ hs4=>UX ?_);have hTO4:bJ h₄ TO x b c:=hs4.extBut _ _ D.TOi2 hTO3;refine TR (VZ hTO4 rfl ?_);refine TR (dq hTO4 λh₅ hTO5 hs5=>?_);refine TR (XZ (UX ?_));have k5:∀q o,q≠z->q≠TO->q≠i1->q≠i2->s.heap.get? q=some o->h₅.get? q=some o:=λq o c1 c2 c3 c4 e=>hs5.extBut _ _ c2 (hs4.extBut _ _ c4 (Th q o c1 c2 c3 e));have hz5:IsZip h₅ z TI TO .ellipsis:=hs5.extBut _ _ D.TOz.symm (hs4.extBut _ _ D.i2z.symm hz3);refine TR (TR (W6 ?_));show wpAny _ _ (Vl (.ref i3) >>= _) _ _ _;refine TR (gL hh (h3.at λo e=>k5 _ o D.LC D.FU.symm D.OJ.symm D.OK.symm e) (SY.at λo e=>k5 _ o D3.z D3.o D3.i1 D3.i2 e) hv λh₆ e hs6 he=>?_);obtain⟨oe,RP,Sj⟩:=he;have hz6:IsZip h₆ z TI TO .ellipsis:=hs6 _ _ D.LC.symm hz5;have To:e≠z:=λx=>by subst x;rw[hz6] at RP;cases RP;simp at Sj
   refine VU hz6 ↑13 λh₇ _ hs7=>hE h₇ e (λc o c1 c2 c3 c4 c5 x=>hs7.extBut _ _ c1 (hs6 _ _ c5 (k5 c o c1 c2 c3 c4 x))) ⟨oe,hs7.extBut _ _ To RP,Sj⟩
end
section
variable{E:Value->Shared->Prop}
variable{b1 b2 b3:Bool}{z TI TO i1 i2 i3 l3:Addr}{k3:Nat}{xs zs:Array Value}{x y v a b c:Value}
def mQ{Q:Option Value->Shared->Prop}(D:Z3 z TI TO i1 i2 i3)(D1:L3 z TO i1 i2 i3 l1)(D2:L3 z TO i1 i2 i3 l2)(D3:L3 z TO i1 i2 i3 l3)(hz:IsZip s.heap z TI TO .none)(QV:bJ s.heap TI (.ref i1) (.ref i2) (.ref i3))(QY:bJ s.heap TO a b c)(h1:eB s.heap b1 i1 l1 k1)(h2:eB s.heap b2 i2 l2 k2)(h3:eB s.heap b3 i3 l3 k3)(RE:f6 s.heap b1 l1 xs)(Ry:f6 s.heap b2 l2 ys)(SY:f6 s.heap b3 l3 zs)(hx:xs[k1]?=some x)(hy:ys[k2]?=some y)(hv:zs[k3]?=some v)(hQ:∀h',IsZip h' z TI TO (rawInt s.heap.objs.size)->bJ h' TO x y v->eB h' b1 i1 l1 (k1+1)->eB h' b2 i2 l2 (k2+1)->eB h' b3 i3 l3 (k3+1)->bJ h' s.heap.objs.size x y v->h'.objs.size=s.heap.objs.size+1 ->(∀c o,c≠z->c≠TO->c≠i1->c≠i2->c≠i3->s.heap.get? c=some o->h'.get? c=some o)->Q (some (.ref s.heap.objs.size)) { s with heap:=h' }):wpAny ↑11 A (pyNext (.ref z)) Q E s:=by
 have hT:s.TypeIs (.ref z) "zip" := ⟨_,hz,rfl⟩
 unfold pyNext;exact TR (W7 (VL (name:=VF "__next__") hT F.slot_zip_next
  (V8 F.slot_zip_next hT F.entry_zip_next
   (zZ D D1 D2 D3 hz QV QY h1 h2 h3 RE Ry SY hx hy hv λh' a1 a2 a3 a4 a5 a6 a7 a8=>UX (hQ h' a1 a2 a3 a4 a5 a6 a7 a8)) (F.args_zip_next_1 _))))
def oA{Q:Option Value->Shared->Prop}(hh:A.handled=none)(D:Z3 z TI TO i1 i2 i3)(D1:L3 z TO i1 i2 i3 l1)(D2:L3 z TO i1 i2 i3 l2)(D3:L3 z TO i1 i2 i3 l3)(hz:IsZip s.heap z TI TO .none)(QV:bJ s.heap TI (.ref i1) (.ref i2) (.ref i3))(QY:bJ s.heap TO a b c)(h1:eB s.heap b1 i1 l1 k1)(h2:eB s.heap b2 i2 l2 k2)(h3:eB s.heap b3 i3 l3 k3)(RE:f6 s.heap b1 l1 xs)(Ry:f6 s.heap b2 l2 ys)(SY:f6 s.heap b3 l3 zs)(Rw:xs[k1]?=none\/ys[k2]?=none\/zs[k3]?=none)(hQ:∀h',(∀c o,c≠z->c≠TO->c≠i1->c≠i2->c≠i3->s.heap.get? c=some o->h'.get? c=some o)->Q none { s with heap:=h' }):wpAny ↑11 A (pyNext (.ref z)) Q E s:=by
 have hT:s.TypeIs (.ref z) "zip" := ⟨_,hz,rfl⟩
 unfold pyNext;refine TR (W7 (VL (name:=VF "__next__") hT F.slot_zip_next
  (V8 F.slot_zip_next hT F.entry_zip_next (Br hh D D1 D2 D3 hz QV QY h1 h2 h3 RE Ry SY Rw λh' e hk he=>?_) (F.args_zip_next_1 _))))
 obtain⟨o,ho,hc⟩:=he;refine TR (Yp (T := "StopIteration") (b:=true) ⟨o,ho,hc⟩ Z6 ?_);exact UX (hQ _ hk)
end
noncomputable abbrev NC(h:Heap)(b1 b2 b3:Bool)(l1 l2 l3:Addr):Heap:=(Hl h b1 b2 l1 l2).push (G0 b3 l3)
noncomputable abbrev NJ(h:Heap)(b1 b2 b3:Bool)(l1 l2 l3:Addr):Heap:=(NC h b1 b2 b3 l1 l2 l3).push { cls:=.type "tuple",data:=.seq #[.ref h.objs.size,.ref (Ij h b1 l1).objs.size,.ref (Hl h b1 b2 l1 l2).objs.size] }
noncomputable abbrev Nu(h:Heap)(b1 b2 b3:Bool)(l1 l2 l3:Addr):Heap:=(NJ h b1 b2 b3 l1 l2 l3).push { cls:=.type "tuple",data:=.seq #[.none,.none,.none] }
noncomputable abbrev JW(h:Heap)(b1 b2 b3:Bool)(l1 l2 l3:Addr):Heap:=(Nu h b1 b2 b3 l1 l2 l3).push { cls:=.type "zip",data:=.fields #[.none,.bool false,.bool false,.ref (NC h b1 b2 b3 l1 l2 l3).objs.size,.ref (NJ h b1 b2 b3 l1 l2 l3).objs.size] }
def qV(b1 b2 b3:Bool)(l1 l2 l3:Addr)(xs ys zs:Array Value):Meets (Builtin.«zip.__new__» ⟨[.type "zip",.ref l1,.ref l2,.ref l3],[]⟩) (λ_ R s=>f6 s.heap b1 l1 xs/\f6 s.heap b2 l2 ys/\f6 s.heap b3 l3 zs ∧R (.ok (.ret (.ref (Nu s.heap b1 b2 b3 l1 l2 l3).objs.size))) { s with heap:=JW s.heap b1 b2 b3 l1 l2 l3 }) :=
 .of_wp λprog w A R s h=>by
  obtain⟨hp,g,d,tk,os⟩:=s;obtain⟨RE,Ry,SY,h⟩:=h;have UE:=sub_zip;have hL1:f6 (Zt ⟨hp,g,d,tk,os⟩) b1 l1 xs:=RE;have hL2:f6 (Zt ⟨hp.push (G0 b1 l1),g,d,tk,os⟩) b2 l2 ys:=f6.push Ry _;have hL3:f6 (Zt ⟨(hp.push (G0 b1 l1)).push (G0 b2 l2),g,d,tk,os⟩) b3 l3 zs:=f6.push (f6.push SY _) _
  wp_walk using fR hL1,fR hL2,fR hL3
  exact⟨_,rfl,h⟩
section
variable{E:Value->Shared->Prop}
def AE{b1 b2 b3:Bool}{l3:Addr}{xs zs:Array Value}(RE:f6 s.heap b1 l1 xs)(Ry:f6 s.heap b2 l2 ys)(SY:f6 s.heap b3 l3 zs)(h:∀h',IsZip h' (s.heap.objs.size+5) (s.heap.objs.size+3) (s.heap.objs.size+4) .none->bJ h' (s.heap.objs.size+3) (.ref s.heap.objs.size) (.ref (s.heap.objs.size+1)) (.ref (s.heap.objs.size+2)) ->bJ h' (s.heap.objs.size+4) .none .none .none->eB h' b1 s.heap.objs.size l1 0->eB h' b2 (s.heap.objs.size+1) l2 0->eB h' b3 (s.heap.objs.size+2) l3 0 ->(∀c o,s.heap.get? c=some o->h'.get? c=some o)->Q (.ref (s.heap.objs.size+5)) { s with heap:=h' }):wpAny ↑11 A (call (.type "zip") [.ref l1,.ref l2,.ref l3]) Q E s:=by
 refine ab7 F.called_zip ↑12 (qz _ _ _) (sd _ _ _) (λobj=>F.initArgs_range_3 obj _ _ _) F.entry_zip_new
  (qV b1 b2 b3 l1 l2 l3 xs ys zs) ⟨RE,Ry,SY,?_⟩
 have z1:(Ij s.heap b1 l1).objs.size=s.heap.objs.size+1:=VN ..;have z2:(Hl s.heap b1 b2 l1 l2).objs.size=s.heap.objs.size+2:=by rw[VN,z1]
 have z3:(NC s.heap b1 b2 b3 l1 l2 l3).objs.size=s.heap.objs.size+3:=by rw[VN,z2]
 have z4:(NJ s.heap b1 b2 b3 l1 l2 l3).objs.size=s.heap.objs.size+4:=by rw[VN,z3]
 have z5:(Nu s.heap b1 b2 b3 l1 l2 l3).objs.size=s.heap.objs.size+5:=by rw[VN,z4]
 have g6:(JW s.heap b1 b2 b3 l1 l2 l3).get? (Nu s.heap b1 b2 b3 l1 l2 l3).objs.size=some _:=U1 _ rfl;have g5:(JW s.heap b1 b2 b3 l1 l2 l3).get? (NJ s.heap b1 b2 b3 l1 l2 l3).objs.size=some _:=UT _ (U1 _ rfl);have g4:(JW s.heap b1 b2 b3 l1 l2 l3).get? (NC s.heap b1 b2 b3 l1 l2 l3).objs.size=some _:=UT _ (UT _ (U1 _ rfl));have g3:(JW s.heap b1 b2 b3 l1 l2 l3).get? (Hl s.heap b1 b2 l1 l2).objs.size=some _:=UT _ (UT _ (UT _ (U1 _ rfl)));have g2:(JW s.heap b1 b2 b3 l1 l2 l3).get? (Ij s.heap b1 l1).objs.size=some _:=UT _ (UT _ (UT _ (UT _ (U1 _ rfl))));have g1:(JW s.heap b1 b2 b3 l1 l2 l3).get? s.heap.objs.size=some _:=UT _ (UT _ (UT _ (UT _ (UT _ (U1 _ rfl)))));show _/\_;rw[z3,z4,z5] at g6;rw[z1,z2,z3] at g4;rw[z4] at g5;rw[z2] at g3;rw[z1] at g2;rw[z5];exact⟨⟨_,g6,rfl⟩,h _ g6 g4 g5 (eB.new _ b1 _ _ g1) (eB.new _ b2 _ _ g2) (eB.new _ b3 _ _ g3) λc o x =>
  UT _ (UT _ (UT _ (UT _ (UT _ (UT _ x)))))⟩
end
noncomputable def NW (K : UU)(b1 b2 b3 : Bool)(a1 a2 a3 : Addr) : It :=
  ⟨λi H => ∃xs ys zs x y v,kR K H b1 a1 xs /\ kR K H b2 a2 ys /\ kR K H b3 a3 zs /\ xs[i]? = some x /\ ys[i]? = some y /\ zs[i]? = some v,
   λi H r H' => ∃p x y v,H p=none /\ r=.ref p /\ H'=upd H p (.tup [x,y,v]) /\ (∀xs,kR K H b1 a1 xs -> xs[i]? = some x) /\ (∀ys,kR K H b2 a2 ys -> ys[i]? = some y) /\ (∀zs,kR K H b3 a3 zs -> zs[i]? = some v),
   λi H => ∃xs ys zs,kR K H b1 a1 xs /\ kR K H b2 a2 ys /\ kR K H b3 a3 zs /\ (xs.length <= i \/ ys.length <= i \/ zs.length <= i)⟩
def sH{z TI TO i1 i2 i3 a:Addr}{xs:List V}(I:Inv X Qg σ H s)(h:kR X.K H b a xs)(hf:∀b∈[z,TO,i1,i2,i3,TI],lp X Qg H b):L3 z TO i1 i2 i3 a :=
 ⟨cB I h (hf z ↑13),cB I h (hf TO ↑13),cB I h (hf i1 ↑13),cB I h (hf i2 ↑13),cB I h (hf i3 ↑13)⟩
theorem Ai{K:UU}{tp:Pos}(b1 b2 b3:Bool)(a1 a2 a3 z TI TO i1 i2 i3:Addr)(D:Z3 z TI TO i1 i2 i3):Turn P w K (.Tuple elts x1 tp) (NW K b1 b2 b3 a1 a2 a3) [z,TO,i1,i2,i3,TI] z (λi h=>IsZip h z TI TO .none/\bJ h TI (.ref i1) (.ref i2) (.ref i3)/\(∃a b c,bJ h TO a b c)/\eB h b1 i1 a1 i/\eB h b2 i2 a2 i/\eB h b3 i3 a3 i) where
 mem:=by simp
 obj:=λi h st b hb=>by
  obtain⟨hz,QV,⟨a,c,d,QY⟩,h1,h2,h3⟩:=st;simp only[U9,We,or_false] at hb;rcases hb with q|q|q|q|q|q<;>subst q
  .exact⟨_,hz,λv z=>by cases z⟩
  .exact⟨_,QY,λv z=>by cases z⟩
  .obtain⟨o,vs,e,d⟩:=h1.obj;exact⟨o,e,λv z=>by rw[d] at z;cases z⟩
  .obtain⟨o,vs,e,d⟩:=h2.obj;exact⟨o,e,λv z=>by rw[d] at z;cases z⟩
  .obtain⟨o,vs,e,d⟩:=h3.obj;exact⟨o,e,λv z=>by rw[d] at z;cases z⟩
  .exact⟨_,QV,λv z=>by cases z⟩
 keep:=λi h h' st k=>by
  obtain⟨hz,QV,⟨a,c,d,QY⟩,h1,h2,h3⟩:=st;exact⟨k z ↑13 _ hz,k TI ↑13 _ QV,⟨a,c,d,k TO ↑13 _ QY⟩,h1.at λo e=>k i1 ↑13 o e,h2.at λo e=>k i2 ↑13 o e,h3.at λo e=>k i3 ↑13 o e⟩
 item:=by
  intro X hP hw hK hc i Qg s σ H E I hf st hg;subst hP hw hK;obtain⟨xs,ys,zs,x,y,v,QX,QQ,Se,hx,hy,hv⟩:=hg;obtain⟨S7,Tr,p1,UH⟩:=I.row QX;obtain⟨Q_,Tt,p2,Sq⟩:=I.row QQ;obtain⟨UL,rv3,p3,hz3'⟩:=I.row Se;obtain⟨u1,hu1,ru1⟩:=Tr.get hx;obtain⟨u2,hu2,ru2⟩:=Tt.get hy;obtain⟨u3,hu3,ru3⟩:=rv3.get hv;obtain⟨hz,QV,⟨a,c,d,QY⟩,h1,h2,h3⟩:=st;obtain⟨oi1,vs1,Ud,di1⟩:=h1.obj;obtain⟨oi2,vs2,Ue,di2⟩:=h2.obj;obtain⟨oi3,vs3,ei3,di3⟩:=h3.obj;refine mQ D (sH I QX hf) (sH I QQ hf) (sH I Se hf) hz QV QY h1 h2 h3 p1 p2 p3 (x:=u1) (y:=u2) (v:=u3) (by simpa using hu1) (by simpa using hu2) (by simpa using hu3) λh' g1 g2 g3 g4 g4' g5 g6 g7=>⟨_,rfl,?_⟩
  refine aae (s:={ s with heap:=h' }) g1 λhN UI Sn=>?_;have RF:H s.heap.objs.size=none:=I.bq.fresh (UZ _);have lt:∀{c:Addr}{o:Obj},s.heap.get? c=some o->c≠s.heap.objs.size:=λe=>Vh (U3 e);have S9:∀b o,b ∉ [z,TO,i1,i2,i3,TI]->s.heap.get? b=some o->hN.get? b=some o:=λb o hb q=>by
   simp only[U9,We,or_false,not_or] at hb;exact(Sn.2 b hb.1).trans (g7 b o hb.1 hb.2.1 hb.2.2.1 hb.2.2.2.1 hb.2.2.2.2.1 q)
  have hT3:hN.get? s.heap.objs.size=some { cls:=.type "tuple",data:=.seq #[u1,u2,u3] }:=(Sn.2 _ (lt hz).symm).trans g5;have I3:Inv X Qg σ (upd H s.heap.objs.size (.tup [x,y,v])) { s with heap:=hN,toks:=s.toks } :=
   I.kz (ch:=[z,TO,i1,i2,i3,TI]) S9 hf (UZ _) (λb hb=>by
    simp only[U9,We,or_false] at hb;rcases hb with q|q|q|q|q|q<;>subst q
    .exact⟨_,hz⟩
    .exact⟨_,QY⟩
    .exact⟨_,Ud⟩
    .exact⟨_,Ue⟩
    .exact⟨_,ei3⟩
    .exact⟨_,QV⟩)
    ⟨by show 3<=sizeLine;decide,[u1,u2,u3],.cons ru1 (.cons ru2 (.cons ru3 .nil)),⟨_,hT3,rfl,_,rfl⟩⟩
  refine⟨.ref s.heap.objs.size,_,I3,rfl,⟨_,x,y,v,RF,rfl,rfl,λzs' Tq=>by rwa[I.mh Tq QX],λzs' Tq=>by rwa[I.mh Tq QQ],λzs' Tq=>by rwa[I.mh Tq Se]⟩,
   ⟨UI,(Sn.2 TI D.TIz).trans (g7 TI _ D.TIz D.TITO D.TIi1 D.TIi2 D.Oc QV),⟨_,_,_,(Sn.2 TO D.TOz).trans g2⟩,g3.at λo e=>(Sn.2 i1 D.i1z).trans e,g4.at λo e=>(Sn.2 i2 D.i2z).trans e,g4'.at λo e=>(Sn.2 i3 D.LC).trans e⟩,λb hb=>?_⟩
  have nb:b≠s.heap.objs.size:=by
   simp only[U9,We,or_false] at hb;rcases hb with q|q|q|q|q|q<;>subst q
   .exact lt hz
   .exact lt QY
   .exact lt Ud
   .exact lt Ue
   .exact lt ei3
   .exact lt QV
  rw[au nb];exact(hf b hb).1
 done:=by
  intro X hP hw hK hc i Qg s σ H E I hf st hg;subst hP hw hK;obtain⟨xs,ys,zs,QX,QQ,Se,Rw⟩:=hg;obtain⟨S7,Tr,p1,UH⟩:=I.row QX;obtain⟨Q_,Tt,p2,Sq⟩:=I.row QQ;obtain⟨UL,rv3,p3,hz3'⟩:=I.row Se;obtain⟨hz,QV,⟨a,c,d,QY⟩,h1,h2,h3⟩:=st;have l1:=Tr.length;have l2:=Tt.length;have l3:=rv3.length;refine oA (I.ok.hd hc) D (sH I QX hf) (sH I QQ hf) (sH I Se hf) hz QV QY h1 h2 h3 p1 p2 p3 ?_ λh' k=>⟨rfl,?_⟩
  .rcases Rw with q|q|q
   .exact .inl (by simp;lia)
   .exact .inr (.inl (by simp;lia))
   .exact .inr (.inr (by simp;lia))
  .exact I.yD (t':=s.toks) (ch:=[z,TO,i1,i2,i3,TI]) (λb u hb e=>by
    simp only[U9,We,or_false,not_or] at hb;exact k b u hb.1 hb.2.1 hb.2.2.1 hb.2.2.2.1 hb.2.2.2.2.1 e) hf
 self:=λ_ _ _ _ _ st h=>by
  obtain⟨hz,_⟩:=st;exact Ze hz h
theorem E7(n:Nat):Z3 (n+5) (n+3) (n+4) n (n+1) (n+2):=by
 refine⟨?_,?_,?_,?_,?_,?_,?_,?_,?_,?_,?_,?_,?_,?_,?_⟩<;>(show @Ne Nat _ _;lia)
def H_(K:UU)(tl:TA):TI:=fun σ H R=>tl σ H λvs H1=>∃b1 b2 b3 a1 a2 a3,vs=[.ref a1,.ref a2,.ref a3]/\(∃xs,kR K H1 b1 a1 xs)/\(∃ys,kR K H1 b2 a2 ys)/\(∃zs,kR K H1 b3 a3 zs)/\R (NW K b1 b2 b3 a1 a2 a3) H1
def yn{tp:Pos}{l1 l2 l3:Expr}{p pos:Pos}(hg:Gl X "zip")(hm:X.mg "zip"=none)(hl:PA X [l1,l2,l3] tl)(hs:autoParam (starEach [l1,l2,l3] X.env=[(false,eval l1 X.env),(false,eval l2 X.env),(false,eval l3 X.env)]) aR._auto_1)(Rx:autoParam (starEach [l2,l3] X.env=[(false,eval l2 X.env),(false,eval l3 X.env)]) aR._auto_1):PI X (.Tuple elts x1 tp) (.Call (.Name "zip" p) [l1,l2,l3] [] pos) (H_ X.K tl):=by
 intro Qg s σ H R I h;refine Call_ (jr I hg hm aa9 (V_ (ck (hl pos Qg s σ H _ I h) λus s1 ⟨vs,H1,I1,r1,q1⟩=>?_) (by rw[hs,Rx]) (by rw[Rx];rfl)));obtain⟨b1,b2,b3,a1,a2,a3,e,⟨xs,QX⟩,⟨ys,QQ⟩,⟨zs,Se⟩,q⟩:=q1;subst e;cases r1 with
 | cons r rr =>
  cases rr with
  | cons r' rr =>
   cases rr with
   | cons UR rr =>
    cases rr;cases (show _=U5 a1 from r);cases (show _=U5 a2 from r');cases (show _=U5 a3 from UR);obtain⟨S7,Tr,p1,UH⟩:=I1.row QX;obtain⟨Q_,Tt,p2,Sq⟩:=I1.row QQ;obtain⟨UL,rv3,p3,UI⟩:=I1.row Se;refine AE p1 p2 p3 λh' g1 g2 g3 g4 g5 g6 g7=>?_;have I2:Inv X Qg σ H1 { s1 with heap:=h' }:=I1.kept (t':=s1.toks) g7;refine Ze (s:={ s1 with heap:=h' }) g1 ?_;refine⟨s1.heap.objs.size+5,[s1.heap.objs.size+5,s1.heap.objs.size+4,s1.heap.objs.size,s1.heap.objs.size+1,s1.heap.objs.size+2,s1.heap.objs.size+3],_,_,H1,rfl,I2,
     Ai b1 b2 b3 a1 a2 a3 _ _ _ _ _ _ (E7 s1.heap.objs.size),⟨g1,g2,⟨_,_,_,g3⟩,g4,g5,g6⟩,λb hb=>?_,q⟩
    have hle:s1.heap.objs.size<=b:=by
     simp only[U9,We,or_false] at hb;rcases hb with q|q|q|q|q|q
     .rw[q];exact Wt _ 5
     .rw[q];exact Wt _ 4
     .rw[q];exact UZ _
     .rw[q];exact Wt _ 1
     .rw[q];exact Wt _ 2
     .rw[q];exact Wt _ 3
    exact I1.rn hle (I1.bq.fresh hle)
variable{oe:Obj}{outer:List Env}
variable{to:Option Addr}
section
variable{M:Model}{E:Value->Shared->Prop}
def sS{env:Env}{L e:Addr}{vs:Array Value}{head:Value}{Tj:Bool}{Q:Unit->Shared->Prop}
  (SX:A.frames=some (env::outer)) (hl:s.heap.FunFrames base (env::outer)) (hf:env.frame=some L)
  (he:s.heap.get? e=some oe) (hd:oe.data=.fields vs) (hsz:1<vs.size)
  (h:∀h' T oT ts,h'.get? e=some (WM (·.setIfInBounds 1 (.ref T)) oe)->s.heap.objs.size<=T->T≠e->h'.get? T=some oT->oT.data=.fields ts->ts[3]?=some (rawInt L) ->
   (∀b o,b≠e->b ∉ wU (env::outer)->s.heap.get? b=some o->h'.get? b=some o)->(∀b o,b≠e->s.heap.get? b=some o->∃sl,h'.get? b=some { o with slots:=sl })->Q () { s with heap:=h' }) :
  wpAny M A (do let a <- frameOf env;let pl <- entryPlaceOf L Tj;let b <- abw head a .none (rawInt L) .none pl;setField (.ref e) 1 b) Q E s:=by
 have hene:e ∉ (env::outer).filterMap (·.frame):=λhm=>by
  obtain⟨_,o,ho,Uz⟩:=hl.mem hm;rw[he] at ho;injection ho with ho;subst ho;exact Uz vs hd
 refine TR (wpAny_frameOf_fun SX hl hf λh₁ hs₁=>?_);refine TR (wpAny_entryPlaceOf λpl QG=>?_);unfold abw newFields;refine TR (Wi ?_ (QG.sizeOk5 _ _ _ _ _));have he₁:h₁.get? e=some oe:=(hs₁.2.1 e hene).trans he;have he2:=UT (h:=h₁) { cls:=.type "traceback",dict:=none,data:=.fields ([head,.ref L,.none,rawInt L,.none]++(if pl.isEmpty then UY 6 VC else pl)).toArray } he₁;have hTe:h₁.objs.size≠e:=WB (U3 he₁);have hd3:=WI hd (·.setIfInBounds 1 (U5 h₁.objs.size));have he3:=VS (WM (·.setIfInBounds 1 (U5 h₁.objs.size))) he2 (Xy hd3);have hT₃:=(Vy (h₁.push { cls:=.type "traceback",dict:=none,data:=.fields ([head,.ref L,.none,rawInt L,.none]++(if pl.isEmpty then UY 6 VC else pl)).toArray })
  (WM (·.setIfInBounds 1 (U5 h₁.objs.size))) (W5 hTe)).trans (U1 h₁ rfl)
 have keep:∀b o,b≠e->h₁.get? b=some o ->
   ((h₁.push { cls:=.type "traceback",dict:=none,data:=.fields ([head,.ref L,.none,rawInt L,.none]++(if pl.isEmpty then UY 6 VC else pl)).toArray }).update e (WM (·.setIfInBounds 1 (U5 h₁.objs.size)))).get? b=some o:=λb o Su hb=>by
  rw[Vy _ _ (W5 Su)];exact UT _ hb
 refine XU he2 hd hsz (h _ h₁.objs.size _ _ he3 ?_ hTe hT₃ rfl (by first|(simp;done)|(rcases QG with rfl|⟨_,_,_,_,_,_,_,rfl⟩<;>simp)) ?_ ?_)
 .exact aaD hs₁.1.symm
 .intro b o Su hbf hb;exact keep b o Su ((hs₁.2.1 b hbf).trans hb)
 .intro b o Su hb;obtain⟨sl,hs⟩:=hs₁.2.2 b o hb;exact⟨sl,keep b _ Su hs⟩
def Lies(h:Heap)(e:Addr)(vs:Array Value)(to:Option Addr):Prop:=match to with
 | none=>vs[1]?=some .none
 |some T=>vs[1]?=some (.ref T)/\T≠e/\∃oT ts,h.get? T=some oT/\oT.data=.fields ts/\ts[3]?=some .none
def zG{env:Env}{L e:Addr}{vs:Array Value}{Q:Unit->Shared->Prop}(SX:A.frames=some (env::outer))(hl:s.heap.FunFrames base (env::outer))(hf:env.frame=some L)(he:s.heap.get? e=some oe)(hd:oe.data=.fields vs)(hto:Lies s.heap e vs to)(h:∀h' T oT ts,h'.get? e=some (WM (·.setIfInBounds 1 (.ref T)) oe)->s.heap.objs.size<=T->T≠e->h'.get? T=some oT->oT.data=.fields ts->ts[3]?=some (rawInt L) ->(∀b o,b≠e->(∀T,to=some T->b≠T)->b ∉ wU (env::outer)->s.heap.get? b=some o->h'.get? b=some o) ->(∀b o,b≠e->(∀T,to=some T->b≠T)->s.heap.get? b=some o->∃sl,h'.get? b=some { o with slots:=sl })->(∀b o,s.heap.get? b=some o->∃o',h'.get? b=some o')->Q () { s with heap:=h' }):wpAny M A (noteFrame (.ref e) env) Q E s:=by
 unfold noteFrame;simp only[hf];cases to with
 | none =>
  have h1:vs[1]?=some .none:=hto;refine TR (Vq he hd h1 ?_);rw[if_neg ↑12];refine sS SX hl hf he hd (Wq.mp h1).1 λh' T oT ts a1 a2 a3 a4 a5 a6 a7 a8=>?_;refine h h' T oT ts a1 a2 a3 a4 a5 a6 (λb o n1 _ n2 q=>a7 b o n1 n2 q) (λb o n1 _ q=>a8 b o n1 q) λb o q=>?_
  by_cases z:b=e
  .subst z;exact⟨_,a1⟩
  .obtain⟨sl,r⟩:=a8 b o z q;exact⟨_,r⟩
 | some T0 =>
  obtain⟨h1,hTe,oT,ts,hT,hdT,h3⟩:=hto;refine TR (Vq he hd h1 ?_);rw[if_pos (show (U5 T0 != VC)=true from by simp)];refine TR (Vq hT hdT h3 ?_);rw[if_neg (show ¬ ((VC==rawInt L)=true) from by simp[rawInt])];refine TR (XU hT hdT (Wq.mp h3).1 ?_);have other:∀b,b≠T0->(s.heap.update T0 (WM (·.setIfInBounds 3 VC))).get? b=s.heap.get? b:=λb hb=>Vy _ _ (W5 hb);have Tc:∀b o,s.heap.get? b=some o->(∀vs,o.data≠.fields vs)->b≠T0:=λb o hb Uz q=>by
   rw[q,hT] at hb;injection hb with hb;subst hb;exact Uz ts hdT
  have Ti:=VS (WM (·.setIfInBounds 3 VC)) hT (Xy (WI hdT _));refine sS SX (hl.of_keeps λb o hb Uz=>⟨o,(other b (Tc b o hb Uz)).trans hb,rfl⟩) hf ((other e (W5 hTe)).trans he) hd (Wq.mp h1).1 λh' T oT' ts' a1 a2 a3 a4 a5 a6 a7 a8=>?_;refine h h' T oT' ts' a1 (by simpa [Heap.update] using a2) a3 a4 a5 a6 (λb o n1 n2 n3 q=>a7 b o n1 n3 ((other b (n2 T0 rfl)).trans q)) (λb o n1 n2 q=>a8 b o n1 ((other b (n2 T0 rfl)).trans q)) λb o q=>?_
  by_cases z:b=e
  .subst z;exact⟨_,a1⟩
  .by_cases z2:b=T0
   .subst z2;obtain⟨sl,r⟩:=a8 b _ z Ti;exact⟨_,r⟩
   .obtain⟨sl,r⟩:=a8 b o z ((other b z2).trans q);exact⟨_,r⟩
end
def kQ(C:Addr)(dd:Option Addr)(e:Addr):HO:=.ext λh=>∃t,h.get? e=some ⟨.ref C,dd,.fields #[.ref t,.none,.none,.none,.bool false,.none],#[]⟩
def Mn(C:Addr)(dd:Option Addr)(e T:Addr):HO:=.ext λh=>∃vs,h.get? e=some ⟨.ref C,dd,.fields vs,#[]⟩/\vs[1]?=some (.ref T)
def Pd(fl:Value)(T:Addr):HO:=.ext λh=>∃oT ts,h.get? T=some oT/\oT.data=.fields ts/\ts[3]?=some fl
noncomputable def mK(Hc:Hp)(e T C:Addr)(dd:Option Addr)(fl:Value):Hp:=upd (upd Hc T (Pd fl T)) e (Mn C dd e T)
variable{fl:Value}{Hc:Hp}
def pE{e:Addr}:mK Hc e T C dd fl e=some (Mn C dd e T):=av
def qy{e:Addr}(n:T≠e):mK Hc e T C dd fl T=some (Pd fl T):=by unfold mK;rw[au n,av]
def i9{e b:Addr}(n:b≠e)(n2:b≠T):mK Hc e T C dd fl b=Hc b:=by unfold mK;rw[au n,au n2]
def Inv.note{e:Addr}{vs:Array Value}{φ:Heap->Prop}{Q:Unit->Shared->Prop}{E:Value->Shared->Prop}(I:Inv X Qg σ H s)(QO:X.stack=X.env::X.outer)(hf:X.env.frame=some X.env.locals)(he:H e=some (.ext φ))(hx:s.heap.get? e=some ⟨.ref C,dd,.fields vs,#[]⟩)(lies:Lies s.heap e vs to)(hT:∀T,to=some T->(∃ψ,H T=some (.ext ψ))/\Hc T=none)(hc:∀b,b≠e->(∀T,to=some T->b≠T)->Hc b=H b)(h:∀h' T,Hc T=none->T≠e->Inv X Qg σ (mK Hc e T C dd (rawInt X.env.locals)) { s with heap:=h' }->Q () { s with heap:=h' }):wpAny ↑8 X.A (noteFrame (.ref e) X.env) Q E s:=by
 have hl:=I.stack;have SX:=I.ok.frames;have sf:=I.tW;rw[QO] at hl SX sf;refine zG (base:=X.base) SX hl hf hx rfl lies λh' T oT ts a1 a2 a3 a4 a5 a6 a7 a8 a9=>?_;have hTn:H T=none:=I.bq.fresh a2;have nT:∀b u,H b=some u->b≠T:=λb u q z=>by rw[z,hTn] at q;cases q
 have SJ:∀b u,H b=some u->(∀ψ,u≠.ext ψ)->b≠e/\∀T0,to=some T0->b≠T0:=by
  intro b u q hu;refine⟨λz=>?_,λT0 z w=>?_⟩
  .rw[z,he] at q;exact hu _ (Vf q).symm
  .obtain⟨⟨ψ,q2⟩,_⟩:=hT T0 z;rw[w,q2] at q;exact hu _ (Vf q).symm
 have old:∀b u,H b=some u->(∀ψ,u≠.ext ψ)->mK Hc e T C dd (rawInt X.env.locals) b=some u:=λb u q hu=>by
  obtain⟨n1,n2⟩:=SJ b u q hu;rwa[i9 n1 (nT b u q),hc b n1 n2]
 have hcT:Hc T=none:=by
  by_cases z:∃T0,to=some T0/\T=T0
  .obtain⟨T0,z1,z2⟩:=z;rw[z2];exact(hT T0 z1).2
  .rw[hc T a3 λT0 z1 z2=>z ⟨T0,z1,z2⟩];exact hTn
 have un:∀b o,s.heap.get? b=some o->H b=none->b≠e/\(∀T0,to=some T0->b≠T0)/\b≠T:=by
  intro b o q n;refine⟨λz=>?_,λT0 z w=>?_,Vh (U8 (U3 q) a2)⟩
  .rw[z,he] at n;cases n
  .obtain⟨⟨ψ,q2⟩,_⟩:=hT T0 z;rw[w,q2] at n;cases n
 refine h h' T hcT a3 ?_;have U:Un (wU X.stack) [] H (mK Hc e T C dd (rawInt X.env.locals)) s.heap h':=by
  rw[QO];refine⟨λb o q n nf _=>?_,λb o q n _ _=>?_,λb o q n _=>?_,λb o q _=>a9 b o q,λb xs q=>old b _ q (λ_ z=>nomatch z),λb ob u q=>old b _ q (λ_ z=>nomatch z),λb ps q=>⟨#[],?_⟩⟩
  .obtain⟨n1,n2,_⟩:=un b o q n;exact a7 b o n1 n2 nf q
  .obtain⟨n1,n2,_⟩:=un b o q n;exact a8 b o n1 n2 q
  .obtain⟨n1,n2,n3⟩:=un b o q n;rwa[i9 n1 n3,hc b n1 n2]
  .rw[old b _ q (λ_ z=>nomatch z)];simp
 have ok:kS X.prog X.w (mK Hc e T C dd (rawInt X.env.locals)) h':=λb u q=>by
  by_cases z:b=e
  .subst z;rw[pE] at q;cases q;refine⟨⟨_,a1,?_⟩,⟨_,a1⟩,λh1 h2 ⟨ws,q1,q2⟩ k=>⟨ws,k _ q1,q2⟩⟩;have hsz:1<vs.size:=by
    cases to with
    | none=>exact(Wq.mp (show vs[1]?=some .none from lies)).1
    | some T0=>exact(Wq.mp lies.1).1
   simp[hsz]
  .by_cases z2:b=T
   .subst z2;rw[qy a3] at q;cases q;exact⟨⟨oT,ts,a4,a5,a6⟩,⟨_,a4⟩,λh1 h2 ⟨o1,t1,q1,q2,q3⟩ k=>⟨o1,t1,k _ q1,q2,q3⟩⟩
   .rw[i9 z z2] at q;have z3:∀T0,to=some T0->b≠T0:=λT0 w w2=>by rw[w2,(hT T0 w).2] at q;cases q
    rw[hc b z z3] at q;have nf:∀c u',H c=some u'->c ∉ wU (X.env::X.outer):=λc u' q' hm=>by have:=sf c hm;rw[q'] at this;cases this
    refine(I.bq b u q).mB (λc v SN q'=>?_) (λc q'=>old c _ q' (λ_ z=>nomatch z)) λc xs q'=>old c _ q' (λ_ z=>nomatch z);rcases SN with rfl|SN
    .exact a7 c v z z3 (nf c u q) q'
    .obtain⟨n1,n2⟩:=SJ c _ SN (λ_ z=>nomatch z);exact a7 c v n1 n2 (nf c _ SN) q'
 exact I.call (ch:=[]) U ok I.bare (λb z=>absurd z ↑13)
def Inv.Ao{e:Addr}(I:Inv X Qg σ (mK Hc e T C dd fl) s)(n:T≠e):∃vs oT ts,s.heap.get? e=some ⟨.ref C,dd,.fields vs,#[]⟩/\vs[1]?=some (.ref T)/\s.heap.get? T=some oT/\oT.data=.fields ts/\ts[3]?=some fl:=by
 obtain⟨vs,h1,h2⟩:=(I.bq e _ pE).1;obtain⟨oT,ts,q⟩:=(I.bq T _ (qy n)).1;exact⟨vs,oT,ts,h1,h2,q⟩
def Inv.MH{e:Addr}{Q:Unit->Shared->Prop}{E:Value->Shared->Prop}(I:Inv X Qg σ (mK Hc e T C dd fl) s)(hfl:fl=.none\/fl=rawInt X.env.locals)(n:T≠e)(hcT:Hc T=none)(QO:X.stack=X.env::X.outer)(hf:X.env.frame=some X.env.locals)(h:∀h' T,Hc T=none->T≠e->Inv X Qg σ (mK Hc e T C dd (rawInt X.env.locals)) { s with heap:=h' }->Q () { s with heap:=h' }):wpAny ↑8 X.A (noteFrame (.ref e) X.env) Q E s:=by
 obtain⟨vs,oT,ts,hx,h1,hT,hd,h3⟩:=I.Ao n;rcases hfl with rfl|rfl
 .refine I.note (Hc:=Hc) (to:=some T) QO hf pE hx ⟨h1,n,oT,ts,hT,hd,h3⟩ (λT0 z=>?_) (λb n1 n2=>(i9 n1 (n2 T rfl)).symm) h;cases z;exact⟨⟨_,qy n⟩,hcT⟩
 .unfold noteFrame;simp only[hf];refine TR (Vq hx rfl h1 ?_);rw[if_pos (show (U5 T != VC)=true from by simp)];refine TR (Vq hT hd h3 ?_);rw[if_pos (show (rawInt X.env.locals==rawInt X.env.locals)=true from by simp)];exact UX (h s.heap T hcT n I)
def Inv.Mp{e:Addr}{Q:Unit->Shared->Prop}{E:Value->Shared->Prop}(I:Inv X Qg σ H s)(he:H e=some (kQ C dd e))(QO:X.stack=X.env::X.outer)(hf:X.env.frame=some X.env.locals)(h:∀h' T,upd H e (gW C dd e) T=none->T≠e->Inv X Qg σ (mK (upd H e (gW C dd e)) e T C dd (rawInt X.env.locals)) { s with heap:=h' }->Q () { s with heap:=h' }):wpAny ↑8 X.A (noteFrame (.ref e) X.env) Q E s:=by
 obtain⟨t,hx⟩:=(I.bq e _ he).1;exact I.note (Hc:=upd H e (gW C dd e)) (to:=none) QO hf he hx rfl (λ_ z=>by cases z) (λb n1 _=>au n1) h
def Inv.p8{e:Addr}{fr:Option Addr}{Q:Unit->Shared->Prop}{E:Value->Shared->Prop}(I:Inv X Qg σ (mK Hc e T C dd fl) s)(n:T≠e)(h:∀h',Inv X Qg σ (mK Hc e T C dd (fr.elim .none λf=>rawInt f)) { s with heap:=h' }->Q () { s with heap:=h' }):wpAny ↑8 X.A (setFlight (.ref e) fr) Q E s:=by
 obtain⟨vs,oT,ts,hx,h1,hT,hd,h3⟩:=I.Ao n;unfold setFlight;refine TR (Vq hx rfl h1 ?_);rw[if_pos (show (U5 T != VC)=true from by simp)];have hsz:3<ts.size:=(Wq.mp h3).1;refine XU hT hd hsz (h _ ?_);have other:∀b,b≠T->(s.heap.update T (WM (·.setIfInBounds 3 (fr.elim VC λf=>rawInt f)))).get? b=s.heap.get? b:=λb hb=>Vy _ _ (W5 hb);have Ti:=VS (WM (·.setIfInBounds 3 (fr.elim VC λf=>rawInt f))) hT (Xy (WI hd _));have nT:∀b,mK Hc e T C dd fl b=none->b≠T:=λb q z=>by rw[z,qy n] at q;cases q
 have same:∀b,b≠T->mK Hc e T C dd (fr.elim .none λf=>rawInt f) b=mK Hc e T C dd fl b:=λb z=>by
  by_cases w:b=e
  .subst w;rw[pE,pE]
  .rw[i9 w z,i9 w z]
 have ne:∀b u,mK Hc e T C dd fl b=some u->(∀ψ,u≠.ext ψ)->b≠T:=λb u q hu z=>by rw[z,qy n] at q;exact hu _ (Vf q).symm
 refine I.un (t':=s.toks) ⟨λb o q z _ _=>(other b (nT b z)).trans q,λb o q z _ _=>⟨o.slots,(other b (nT b z)).trans q⟩,λb o q z _=>by rwa[same b (nT b z)],λb o q _=>?_,λb xs q=>?_,λb ob u q=>?_,λb ps q=>⟨#[],?_⟩⟩ λb u q=>?_
 .by_cases z:b=T
  .subst z;exact⟨_,Ti⟩
  .exact⟨o,(other b z).trans q⟩
 .rw[same b (ne b _ q λ_ z=>nomatch z)];exact q
 .rw[same b (ne b _ q λ_ z=>nomatch z)];exact q
 .rw[same b (ne b _ q λ_ z=>nomatch z),q];simp
 .by_cases z:b=T
  .subst z;rw[qy n] at q;cases q;refine⟨⟨_,_,Ti,WI hd _,?_⟩,⟨_,Ti⟩,λh1 h2 ⟨o1,t1,q1,q2,q3⟩ k=>⟨o1,t1,k _ q1,q2,q3⟩⟩;simp[hsz]
  .rw[same b z] at q;refine(I.bq b u q).mB (λc v hc q'=>(other c ?_).trans q') (λc q'=>?_) λc xs q'=>?_
   .rcases hc with rfl|hc
    .exact z
    .exact ne c _ hc λ_ z=>nomatch z
   .rw[same c (ne c _ q' λ_ z=>nomatch z)];exact q'
   .rw[same c (ne c _ q' λ_ z=>nomatch z)];exact q'
def bQ(P:Program)(w:World):LB:=λouter H s E e s'=>∃(ea T C:Addr)(dd:Option Addr)(Hc:Hp),e=.ref ea/\s'.os=s.os/\AllBare s'.gens/\Un (wU outer) [] H (mK Hc ea T C dd .none) s.heap s'.heap/\kS P w (mK Hc ea T C dd .none) s'.heap ∧
 Hc ea=some (gW C dd ea)/\Hc T=none/\T≠ea/\E (.ref ea) none Hc
def Zx (X : Cx)(E : St -> XK)(e : Value)(s : Shared) : Prop := ∃(ea C : Addr)(dd : Option Addr)(Qg : List (Addr × Obj))(σ : St),e=.ref ea ∧
  ((∃H,Inv X Qg σ H s /\ H ea=some (kQ C dd ea) /\ E σ (.ref ea) none (upd H ea (gW C dd ea))) ∨
   (∃Hc T fl,Inv X Qg σ (mK Hc ea T C dd fl) s /\ (fl=.none \/ fl=rawInt X.env.locals) /\ Hc ea=some (gW C dd ea) /\ Hc T=none /\ T ≠ ea /\ E σ (.ref ea) none Hc))
variable{E:St->XK}
def Zx.note{e:Value}{Q:Unit->Shared->Prop}{F:Value->Shared->Prop}(z:Zx X E e s)(QO:X.stack=X.env::X.outer)(hf:X.env.frame=some X.env.locals)(h:∀s' ea C dd Qg σ Hc T,e=.ref ea->Inv X Qg σ (mK Hc ea T C dd (rawInt X.env.locals)) s'->Hc ea=some (gW C dd ea)->Hc T=none->T≠ea->E σ (.ref ea) none Hc->Q () s'):wpAny ↑8 X.A (noteFrame e X.env) Q F s:=by
 obtain⟨ea,C,dd,Qg,σ,rfl,⟨H,I,h1,h2⟩|⟨Hc,T,fl,I,h1,h2,h3,h4,h5⟩⟩:=z
 .exact I.Mp h1 QO hf λh' T q1 q2 I2=>h _ ea C dd Qg σ _ T rfl I2 av q1 q2 h2
 .exact I.MH h1 h4 h3 QO hf λh' T q1 q2 I2=>h _ ea C dd Qg σ _ T rfl I2 h2 q1 q2 h5
def Zx.JN{E:XK}{e:Value}{F:Value->Shared->Prop}(z:Zx X (λ_=>E) e s)(QO:X.stack=X.env::X.outer)(hf:X.env.frame=some X.env.locals)(hex:X.ex=[]):wpAny ↑8 X.A (leaving X.env e) (λ_ s'=>bQ X.prog X.w X.outer X.H₀ X.s₀ E e s') F s:=by
 unfold leaving;refine TR (z.note QO hf λs' ea C dd Qg σ Hc T he I h1 h2 h3 h4=>?_);subst he;refine I.p8 h3 λh' I2=>⟨ea,T,C,dd,Hc,rfl,I2.os,I2.bare,?_,I2.bq,h1,h2,h3,h4⟩
 have:=I2.base;rwa[hex] at this
def Zx.own(QO:X.stack=X.env::X.outer)(hf:X.env.frame=some X.env.locals):PassesOwn ↑8 X.A X.env (Zx X E):=by
 intro e s z;refine z.note QO hf λs' ea C dd Qg σ Hc T he I h1 h2 h3 h4=>?_;subst he;obtain⟨vs,oT,ts,hx,q1,_⟩:=I.Ao h3;show wpAny _ _ _ _ _ _;refine TR (Vq hx rfl q1 ?_);rw[if_neg (show ¬ ((U5 T==VC)=true) from by simp)];rw[hf];refine I.p8 h3 λh' I2=>⟨ea,C,dd,Qg,σ,rfl,.inr ⟨Hc,T,_,I2,.inr rfl,h1,h2,h3,h4⟩⟩
structure eg (X:Cx) (E:St->XK):Prop where
 pass:∀(Qg:List (Addr×Obj))(σ:St)(H:Hp)(s:Shared)(e:Value)(s':Shared),Inv X Qg σ H s->bQ X.prog X.w X.stack H s (E σ) e s'->X.xe e s'
 new:∀(Qg:List (Addr×Obj))(σ:St)(H:Hp)(s:Shared)(e C:Addr)(dd:Option Addr),Inv X Qg σ H s->H e=some (kQ C dd e)->E σ (.ref e) none (upd H e (gW C dd e))->X.xe (.ref e) s
 own:PassesOwn ↑8 X.A X.env X.xe
abbrev Cx.out(X:Cx)(E:St->XK):Cx:=X.qM (Zx X E)
def yV(QO:X.stack=X.env::X.outer)(hf:X.env.frame=some X.env.locals):eg (X.out E) E where
 pass:=by
  intro Qg σ H s e s' I h;obtain⟨ea,T,C,dd,Hc,rfl,os,bare,un,bq,h1,h2,h3,hE⟩:=h;have I':=I.eI.CG (ch:=[]) os un bq bare (λb z=>absurd z ↑13);exact⟨ea,C,dd,Qg,σ,rfl,.inr ⟨Hc,T,.none,I',.inl rfl,h1,h2,h3,hE⟩⟩
 new:=λQg σ H s e C dd I he hE=>⟨e,C,dd,Qg,σ,rfl,.inl ⟨H,I.eI,he,hE⟩⟩
 own:=Zx.own QO hf
variable{N:List Str}{Ss:Array (Option Value)}{an od:Option Addr}{body:List Stmt}{params:Arguments}
def uE{K:UU}{dV kV doc pm Qy ct oc:Value}(lk:K.lookup f=some ⟨oc,od,.func (Wb name qual params body scope dV kV doc pm an Qy ct),Ss⟩)(QP:WN K Qy qual=true)(S:bS N ps scope)(len:∀vs H Q E,sp vs H Q E->vs.length=ps.length)(SM:∀(A:Around)(outer:List Env)(s:Shared)(H:Hp)(vs:List V)(Q:VK)(E:XK),bO k (A.deeper (envOfC qual scope s.heap.objs.size f Qy))->sp vs H Q E ->∃t,jE ((jK (bQ P w) P w K mg base N qual scope f Qy A outer s H E).out λ_=>E) body t/\t { nx:=λ_ H'=>Q .c8 H',rt:=Q } (start N vs) H):aV P w K mg base (bQ P w) (k+1) f (Wb name qual params body scope dV kV doc pm an Qy ct) ps sp:=by
 refine Mo lk QP S len λA outer s H vs Q E hr hs=>?_;obtain⟨t,h1,h2⟩:=SM A outer s H vs Q E hr hs;refine⟨t,λQg s1 σ H1 D I q=>?_,h2⟩;refine Wu (h1 Qg s1 σ H1 D (I.qM _) q) (λf s' z=>z.eI) λe s' z=>?_;exact z.JN rfl rfl rfl
variable{pos':Pos}
section
open PySem.Builtin.ObjectAttr (storeInOwnDict storeTaker? setByDescriptor)
def u7{e t:Addr}(he:h.get? e=some ⟨.ref C,dd,.fields #[.ref t,.none,.none,.none,.bool false,.none],#[]⟩):bw P w H h e (kQ C dd e) :=
 ⟨⟨t,he⟩,⟨_,he⟩,λ_ _ ⟨t,q⟩ k=>⟨t,k _ q⟩⟩
section
variable{p pos:Pos}{t:TA}
def Mh(C:Addr)(t:TA):TE:=fun σ H Q=>t σ H λvs H1=>vs.length<=sizeLine/\∀a,H1 a=none->Q (.ref a) (upd H1 a (kQ C none a))
def GX(hc:Zo X.K C eY "ValueError.__new__"=true)(kp:V4 X.K (.ref C)=true)(hg:Gl X x)(hm:X.mg x=some (.ref C))(ha:PA X (e::es) t)(QZ:autoParam ↑7 aD._auto_1)(he:autoParam ↑0 aR._auto_1)(QG:autoParam ↑2 aR._auto_1):PE X (.Call (.Name x p) (e::es) [] pos) (Mh C t):=by
 intro Qg s σ H Q I h;refine Xr (i6 I hg hm ?_ QZ);refine X4 (h₀:=X.base) I.ok.mod.Hw kp (ck (ha pos Qg s σ H _ I h) λus s1 ⟨vs,H1,I1,r,hl,q⟩=>⟨I1.jG,?_⟩) he QG;obtain⟨bm,N,nm,qn,bs,Sb,sn,sub,ab,col,dd,k0,k1,k2,k3,k5,mN,hC,hN,Sv,T⟩:=E9 I1.jG hc;obtain⟨hp,g,d,tk,os⟩:=s1;refine wpAny_call_exc_subT Z_ T hC hN Sv (λh' a M=>?_) (by show us.length<=sizeLine;rwa[<- r.length]);obtain⟨t',e1,_,_⟩:=M.there;have I2:Inv X Qg σ (upd H1 a (kQ C none a)) ⟨h',g,d,tk,os⟩:=I1.Ia (t':=tk) M.keeps M.new (u7 e1);have hn:H1 a=none:=I1.ur M.new;exact⟨.ref a,_,I2,rfl,q a hn⟩
def Kj(C:Addr)(sp:Sp)(t:TA):TE:=fun σ H Q=>t σ H λvs H1=>vs.length<=sizeLine/\∀a,H1 a=none->sp (.ref a::vs) (upd H1 a (kQ C none a)) (λv H2=>v=.c8/\Q (.ref a) H2) E0
def CA(hc:qc X.K C "ValueError.__new__" f=true)(hf:Yn X.K (.ref f)=true)(kp:V4 X.K (.ref C)=true)(F:aV X.prog X.w X.K X.mg X.base (bQ X.prog X.w) k f fd ps sp)(hr:bO (k+1) X.A)(hb:Binds X.K fd ps [])(hg:Gl X x)(hm:X.mg x=some (.ref C))(ha:PA X (e::es) t)(QZ:autoParam ↑7 aD._auto_1)(he:autoParam ↑0 aR._auto_1)(QG:autoParam ↑2 aR._auto_1):PE X (.Call (.Name x p) (e::es) [] pos) (Kj C sp t):=by
 intro Qg s σ H Q I h;refine Xr (i6 I hg hm ?_ QZ);refine X4 (h₀:=X.base) I.ok.mod.Hw kp (ck (ha pos Qg s σ H _ I h) λus s1 ⟨vs,H1,I1,r,hl,q⟩=>⟨I1.jG,?_⟩) he QG;have X1:=I1.jG;obtain⟨bm,N,nm,qn,bs,Sb,sn,sub,ab,col,dd,k0,k1,k2,k3,k5,mN,hC,hN,Sv,T⟩:=CW X1 hc;obtain⟨hp,g,d,tk,os⟩:=s1;have f1:=tc_lookup;have f2:=tc_bind (.ref C);have hT:(⟨hp,g,d,tk,os⟩:Shared).TypeIs (.ref C) "type" := ⟨_,hC,rfl⟩
 refine Z7 (codeAny_of_tree ?_);show wpAny _ _ (callAny (.ref C) _) _ _ _
 repeat (any_goals (first|assumption|with_reducible refine aaj hC ?_|wp_step))
 refine⟨rfl,?_⟩;refine codeAny_call_builtin_at (abL _ (by decide +kernel)) entry_typeCall (wpAny_check_type_call_sub hC (pe Z_ T hC hN Sv
  (λh' kk self=>acO (λb o z=>kk b o (X1 b o z)) self (beq_iff_eq.mp hf)) (λh' kk ht hx hz=>?_) (by show us.length<=sizeLine;rwa[<- r.length])))
 have I2:Inv X Qg σ (upd H1 (hp.objs.size+1) (kQ C none (hp.objs.size+1))) ⟨h',g,d,tk,os⟩:=I1.Ia (t':=tk) kk (Yb (Yg _)) (u7 hx);have hq:=q (hp.objs.size+1) (I1.ur (Yb (Yg _)));have r2:Vals (V.ref (hp.objs.size+1)::vs) (U5 (hp.objs.size+1)::us):=.cons rfl r;have hlen:(U5 (hp.objs.size+1)::us++[]).length=ps.length:=by
  rw[VT,<- r2.length];exact F.len _ _ _ _ hq
 refine Z7 (ZR (F.run _ X.stack _ _ ⟨U5 (hp.objs.size+1)::us,[]⟩ (U5 (hp.objs.size+1)::us) _ _ E0 (hr.make C us []) (I2.gU.make C us []) (by have:=hb _ (U5 (hp.objs.size+1)::us) I2.jG hlen;rwa [VT] at this) r2 hq) λr s' S1=>?_);cases r with
 | error e =>
  obtain⟨_,_,_,_,_,_,_,_,_,_,_,_,_,z⟩:=S1;exact z.elim
 | ok fl =>
  cases fl with
  | ret u =>
   obtain⟨v,H',I3,rv,ev,q3⟩:=I2.after S1;subst ev;exact⟨rv,⟨V.ref (hp.objs.size+1),H',I3,rfl,q3⟩⟩
  | next=>exact WO S1
  | brk=>exact WO S1
  |cont=>exact WO S1
def IC(K:UU)(ta tv:TE)(f:Str):TS:=λD σ H=>tv σ H λy H1=>ta σ H1 λx H2=>∃a C,x=.ref a/\H2 a=some (kQ C none a)/\ja K C/\((XJ K C).any λcd=>gF cd.mro)=true/\bR K C f ∧
 ∀d,H2 d=none->d≠a->D.nx σ (upd (upd H2 d (.xd [(f,y)])) a (kQ C (some d) a))
def A4{o value:Expr}{tv:TE}{n:Str}(ha:PE X o ta)(hv:PE X value tv)(hs:swapsWith value (some (.Attribute o n pos')) pos.line X.env=pure false):PS X (.Assign [.Attribute o n pos'] value pos) (IC X.K ta tv n):=by
 intro Qg s σ H D I h;refine Y9 (ck (hv Qg s σ H _ I h) λu s1 ⟨y,H1,I1,ry,q⟩=>ck (ha Qg s1 σ H1 _ I1 q) λov s2 ⟨x,H2,I2,rx,a,C,ex,ea,c,po,na,q2⟩=>?_) hs;subst ex;obtain rfl:ov=U5 a:=rx;obtain⟨tt,hx⟩:=(I2.bq a _ ea).1;refine BO po c I2.jG hx na.Hz λh' tk d e1 e2 e3 e4=>?_;have hd:H2 d=none:=I2.ur e2;have nda:d≠a:=λz=>by rw[z,ea] at hd;cases hd
 refine⟨σ,_,?_,q2 d hd nda⟩;have up:∀b,b≠a->b≠d->upd (upd H2 d (.xd [(n,y)])) a (kQ C (some d) a) b=H2 b:=λb h1 h2=>by rw[au h1,au h2]
 have nd:∀b u,s2.heap.get? b=some u->b≠d:=λb u e z=>by rw[z,e2] at e;cases e
 have nH:∀b u,H2 b=some u->b≠d:=λb u e z=>by rw[z,hd] at e;cases e
 have nE:∀b u,H2 b=some u->(∀C dd,u≠kQ C dd a)->b≠a:=λb u e hu z=>by
  rw[z,ea] at e;exact hu C none (Vf e).symm
 refine I2.un (t':=tk) ⟨λb u e z _ _=>e4 b u (λw=>by rw[w,ea] at z;cases z) e,λb u e z _ _=>⟨u.slots,e4 b u (λw=>by rw[w,ea] at z;cases z) e⟩,λb u e z _=>?_,λb u e _=>?_,λb xs e=>?_,λb ob u e=>?_,λb ps e=>?_⟩ λb u e=>?_
 .rw[up b (λw=>by rw[w,ea] at z;cases z) (nd b u e)];exact z
 .by_cases w:b=a
  .rw[w];exact⟨_,e1⟩
  .exact⟨u,e4 b u w e⟩
 .rw[up b (nE b _ e λ_ _ z=>by cases z) (nH b _ e)];exact e
 .rw[up b (nE b _ e λ_ _ z=>by cases z) (nH b _ e)];exact e
 .exact⟨#[],by rw[up b (nE b _ e λ_ _ z=>by cases z) (nH b _ e),e];simp⟩
 .by_cases w:b=a
  .subst w;rw[av] at e;cases e;exact u7 e1
  .rw[au w] at e
   by_cases w2:b=d
   .subst w2;rw[av] at e;cases e;refine⟨_,e3,λg=>?_⟩;show j9 (XF g [(n,y)]) (if g=n then some _ else none);rw[Ws]
    by_cases z:g=n
    .rw[if_pos z,show (g==n)=true from by simp[z]];exact ry
    .rw[if_neg z,show (g==n)=false from by simp[z]];exact Wn
   .rw[au w2] at e;refine(I2.bq b u e).mB (λc v hc z=>e4 c v ?_ z) (λc z=>?_) λc ys z=>?_
    .rcases hc with z'|z'
     .rw[z'];exact w
     .exact nE c _ z' λ_ _ z=>by cases z
    .rw[up c (nE c _ z λ_ _ z=>by cases z) (nH c _ z)];exact z
    .rw[up c (nE c _ z λ_ _ z=>by cases z) (nH c _ z)];exact z
end
end
section
variable{M:Model}{E:Value->Shared->Prop}
def C6{e:Addr}{o:Obj}(hx:s.heap.get? e=some o)(h:Q o.cls s):wpAny M A (typeOf (.ref e)) Q E s:=by
 unfold typeOf;exact TR (YR hx (UX h))
def yl{e:Addr}{o:Obj}{vs:Array Value}{Q:Bool->Shared->Prop}(hx:s.heap.get? e=some o)(hd:o.data=.fields vs)(h:Q false s):wpAny M A (isType (.ref e)) Q E s:=by
 unfold isType loadHead;refine TR (YR hx (UX ?_));rwa[hd]
end
def Je(K:UU)(E:St->XK)(te:TE):TS:=λD σ H=>te σ H λv H1=>∃e C dd,v=.ref e/\H1 e=some (kQ C dd e)/\ja K C/\Yc K (.ref C)=some (.type "type")/\E σ (.ref e) none (upd H1 e (gW C dd e))
def vP{exc:Expr}{pos:Pos}(O:eg X E)(Qt:X.calm=true)(he:PE X exc te):PS X (.Raise (some exc) none pos) (Je X.K E te):=by
 intro Qg s σ H D I h;rw[arm_exec_Raise];refine TR (Zl ?_);unfold raiseStmt;dsimp only [evalOpt,Option.map];refine TR (TR (ck (he Qg s σ H _ I h) λu s1 hq=>TR (Zl (UX ?_))));obtain⟨v,H1,I1,rv,e,C,dd,ev,hN,c,ht,hE⟩:=hq;subst ev;obtain rfl:u=U5 e:=rv;obtain⟨t,hx⟩:=(I1.bq e _ hN).1;have X1:=I1.jG;refine TR (UX ?_);refine TR (Wx ?_);unfold excFromValue isExcClass;refine TR (TR (yl hx rfl ?_));refine UX ?_;refine TR ?_;unfold isInstance;refine TR (C6 hx ((ZK X1 c.mb).here ?_));refine UX ?_;dsimp only;refine TR (yl hx rfl ?_);unfold raisedInstance;refine TR (TR (C6 hx (TR ((PySem.W.looks_typeIn X1 ht).here ?_))));refine UX ?_;unfold setFlight;refine TR (TR (Vq hx rfl (x:=.none) rfl ?_));refine UX ?_;exact wpAny_raiseNew_none (I1.ok.hd Qt) (O.new Qg σ H1 s1 e C dd I1 hN hE)
inductive PV where
 | c8|bl (b:Bool)|int (i:Int)|str (x:Str)
 | tup (xs:List PV)|lst (xs:List PV)
 | jN (xs:List PV)
 | obj (C:Addr) (fs:List (Str×PV))
 | exc (C:Addr) (fo:Option (List (Str×PV)))
 | emp
 | rf (Qk:List (List Int×PV))
 deriving Inhabited
mutual
inductive Rep (H:Hp):PV->V->Prop where
 | c8:Rep H .c8 .c8
 | bl (b:Bool):Rep H (.bl b) (.bl b)
 | int (i:Int):Rep H (.int i) (.int i)
 | str (x:Str):Rep H (.str x) (.str x)
 | tup {a:Addr} {xs:List PV} {vs:List V}:H a=some (.tup vs)->aL H xs vs->Rep H (.tup xs) (.ref a)
 | lst {a:Addr} {xs:List PV} {vs:List V}:H a=some (.lst vs)->aL H xs vs->Rep H (.lst xs) (.ref a)
 | jN {a:Addr} {o:Obj} {xs:List PV} {vs:List V}:H a=some (.kX o (.lst vs))->aL H xs vs->Rep H (.jN xs) (.ref a)
 | obj {a C dx:Addr} {fs:List (Str×PV)} {vs:List (Str×V)}:H a=some (.ins C dx vs)->iw H fs vs->Rep H (.obj C fs) (.ref a)
 | xM {a C:Addr}:H a=some (gW C none a)->Rep H (.exc C none) (.ref a)
 | wZ {a C d:Addr} {fs:List (Str×PV)} {vs:List (Str×V)}:H a=some (gW C (some d) a)->H d=some (.xd vs)->iw H fs vs->Rep H (.exc C (some fs)) (.ref a)
 | emp {a:Addr}:H a=some (.dK [])->Rep H .emp (.ref a)
 |rf {a:Addr} {o:Obj} {Qk:List (List Int×PV)} {us:List (List Key×V)}:H a=some (.kX o (.dT us))->dP H Qk us->Rep H (.rf Qk) (.ref a)
inductive aL (H:Hp):List PV->List V->Prop where
 | nil:aL H [] []
 |cons {p:PV} {v:V} {ps:List PV} {vs:List V}:Rep H p v->aL H ps vs->aL H (p::ps) (v::vs)
inductive iw (H:Hp):List (Str×PV)->List (Str×V)->Prop where
 | nil:iw H [] []
 |cons {n:Str} {p:PV} {v:V} {ps:List (Str×PV)} {vs:List (Str×V)}:Rep H p v->iw H ps vs->iw H ((n,p)::ps) ((n,v)::vs)
inductive dP (H:Hp):List (List Int×PV)->List (List Key×V)->Prop where
 | nil:dP H [] []
 |cons {k:List Int} {p:PV} {v:V} {ps:List (List Int×PV)} {vs:List (List Key×V)}:Rep H p v->dP H ps vs->dP H ((k,p)::ps) ((k.map YN,v)::vs)
end
mutual
theorem Rep.mono{H H':Hp}(s:bf H H'):∀{p:PV}{v:V},Rep H p v->Rep H' p v
 | _,_,.c8=>.c8
 | _,_,.bl b=>.bl b
 | _,_,.int i=>.int i
 | _,_,.str x=>.str x
 | _,_,.tup h r=>.tup (s _ _ h) (r.mono s)
 | _,_,.lst h r=>.lst (s _ _ h) (r.mono s)
 | _,_,.jN h r=>.jN (s _ _ h) (r.mono s)
 | _,_,.obj h r=>.obj (s _ _ h) (r.mono s)
 | _,_,.xM h=>.xM (s _ _ h)
 | _,_,.wZ h h2 r=>.wZ (s _ _ h) (s _ _ h2) (r.mono s)
 | _,_,.emp h=>.emp (s _ _ h)
 |_,_,.rf h r=>.rf (s _ _ h) (r.mono s)
theorem aL.mono{H H':Hp}(s:bf H H'):∀{p:List PV}{v:List V},aL H p v->aL H' p v
 | _,_,.nil=>.nil
 |_,_,.cons h r=>.cons (h.mono s) (r.mono s)
theorem iw.mono{H H':Hp}(s:bf H H'):∀{p:List (Str×PV)}{v:List (Str×V)},iw H p v->iw H' p v
 | _,_,.nil=>.nil
 |_,_,.cons h r=>.cons (h.mono s) (r.mono s)
theorem dP.mono{H H':Hp}(s:bf H H'):∀{p:List (List Int×PV)}{v:List (List Key×V)},dP H p v->dP H' p v
 | _,_,.nil=>.nil
 |_,_,.cons h r=>.cons (h.mono s) (r.mono s)
end
theorem aL.length{H:Hp}:∀{p:List PV}{v:List V},aL H p v->p.length=v.length
 | _,_,.nil=>rfl
 |_,_,.cons _ r=>by simp[r.length]
theorem aL.get{H:Hp}:∀{p:List PV}{v:List V}{i:Nat}{x:PV},aL H p v->p[i]?=some x->∃u,v[i]?=some u/\Rep H x u
 | _,_,_,_,.nil,e=>by simp at e
 | _,_,0,_,.cons h _,e=>by simp at e;subst e;exact⟨_,rfl,h⟩
 | _,_,i+1,x,.cons _ r,e=>by
  obtain⟨u,h1,h2⟩:=aL.get (i:=i) (x:=x) r (by simpa using e);exact⟨u,by simpa using h1,h2⟩
theorem aL.append{H:Hp}:∀{p q:List PV}{v u:List V},aL H p v->aL H q u->aL H (p++q) (v++u)
 | _,_,_,_,.nil,s=>s
 |_,_,_,_,.cons h r,s=>.cons h (r.append s)
theorem aL.take{H:Hp}:∀{p:List PV}{v:List V}(n:Nat),aL H p v->aL H (p.take n) (v.take n)
 | _,_,0,_=>.nil
 | _,_,_+1,.nil=>.nil
 |_,_,n+1,.cons h r=>.cons h (r.take n)
theorem aL.drop{H:Hp}:∀{p:List PV}{v:List V}(n:Nat),aL H p v->aL H (p.drop n) (v.drop n)
 | _,_,0,r=>r
 | _,_,_+1,.nil=>.nil
 |_,_,n+1,.cons _ r=>r.drop n
theorem aL.set{H:Hp}{x:PV}{u:V}(h:Rep H x u):∀{p:List PV}{v:List V}(i:Nat),aL H p v->aL H (p.set i x) (v.set i u)
 | _,_,_,.nil=>.nil
 | _,_,0,.cons _ r=>.cons h r
 |_,_,i+1,.cons q r=>.cons q (r.set h i)
def aL.snoc{p:List PV}{v:List V}{x:PV}{u:V}(r:aL H p v)(h:Rep H x u):aL H (p++[x]) (v++[u]):=r.append (.cons h .nil)
theorem iw.look{H:Hp}{f:Str}:∀{p:List (Str×PV)}{v:List (Str×V)}{x:PV},iw H p v->p.lookup f=some x->∃u,v.lookup f=some u/\Rep H x u
 | _,_,_,.nil,e=>by simp at e
 | (n,_)::_,_,x,.cons h r,e=>by
  rw[Ws] at e ⊢;cases q:f==n with
  | true=>rw[q] at e;cases e;exact⟨_,rfl,h⟩
  |false=>rw[q] at e;exact r.look e
theorem iw.none{H:Hp}{f:Str}:∀{p:List (Str×PV)}{v:List (Str×V)},iw H p v->p.lookup f=none->v.lookup f=none
 | _,_,.nil,_=>rfl
 | (n,_)::_,_,.cons h r,e=>by
  rw[Ws] at e ⊢;cases q:f==n with
  | true=>rw[q] at e;cases e
  |false=>rw[q] at e;exact r.none e
theorem aL.ints{H:Hp}:∀{ns:List Int}{v:List V},aL H (ns.map PV.int) v->v=ns.map V.int
 | [],_,.nil=>rfl
 |_::_,_,.cons (.int i) r=>by rw[r.ints];rfl
theorem aL.Pu{H:Hp}:∀{ns:List Bool}{v:List V},aL H (ns.map PV.bl) v->v=ns.map V.bl
 | [],_,.nil=>rfl
 |_::_,_,.cons (.bl i) r=>by rw[r.Pu];rfl
structure bg (Hs H Ql H':Hp):Prop where
 st:bf Hs Ql
 al:bf H H'
 sub:bf Ql H'
 nw:∀a o,Hs a=none->H a=some o->(∀ws,o≠.tup ws)->Ql a=none
variable{Hs:Hp}
def bg.refl(s:bf Hs H):bg Hs H Hs H:=⟨λ_ _ e=>e,λ_ _ e=>e,s,λ_ _ e _ _=>e⟩
variable{Qw:Hp}
def bg.trans{H1 Qx H2:Hp}(a:bg Hs H Qw H1)(b:bg Qw H1 Qx H2):bg Hs H Qx H2 :=
 ⟨λc o e=>b.st c o (a.st c o e),λc o e=>b.al c o (a.al c o e),b.sub,λc o e q t=>b.nw c o (a.nw c o e q t) (a.al c o q) t⟩
def bg.new{p:Addr}(s:bf Hs H)(n:H p=none):bg Hs H (upd Hs p o) (upd H p o):=by
 have ne:∀c u,H c=some u->c≠p:=λc u e z=>by rw[z,n] at e;cases e
 refine⟨λc u e=>?_,λc u e=>?_,λc u e=>?_,λc u e q _=>?_⟩
 .rw[au (ne c u (s c u e))];exact e
 .rw[au (ne c u e)];exact e
 .by_cases z:c=p
  .subst z;rw[av] at e ⊢;exact e
  .rw[au z] at e ⊢;exact s c u e
 .rw[au (ne c u q)];exact e
inductive SV where
 | sh (p:PV)
 | ow (xs:List PV)
 | bd (a C:Addr) (fs:List (Str×PV))
 |dw (Qk:List (List Int×PV))
abbrev af:=List (Option SV)
def gI:SV->Bool
 | .sh _=>false
 |_=>true
def Ho(H₀ Hs H:Hp):SV->V->Prop
 | .sh p,v=>Rep Hs p v
 | .ow xs,v=>∃a vs,v=.ref a/\H a=some (.lst vs)/\Hs a=none/\H₀ a=none/\aL Hs xs vs
 | .bd a C fs,v=>∃dx vs,v=.ref a/\H a=some (.ins C dx vs)/\Hs a=none/\H₀ a=none/\iw Hs fs vs
 |.dw Qk,v=>∃a us,v=.ref a/\H a=some (.dT us)/\Hs a=none/\H₀ a=none/\dP Hs Qk us
structure SR (B H₀ Hs H:Hp) (σ:St) (env:af):Prop where
 gr:bg B H₀ Hs H
 len:σ.length=env.length
 at_:∀(i:Nat)(x:SV),env[i]?=some (some x)->∃v,σ[i]?=some (some v)/\Ho H₀ Hs H x v
 ap:∀(i j:Nat)(x y:SV)(a:Addr),i≠j->env[i]?=some (some x)->env[j]?=some (some y)->gI x=true->gI y=true->σ[i]?=some (some (.ref a))->σ[j]?≠some (some (.ref a))
variable{H₀:Hp}
variable{j:Nat}
section
variable{B B' H₀' Ql H':Hp}{σ':St}{env Qj:af}{x:Option SV}{v:Option V}
theorem SR.sh(r:SR B H₀ Hs H σ env)(i:Nat)(p:PV)(e:env[i]?=some (some (.sh p))):∃v,σ[i]?=some (some v)/\Rep Hs p v:=r.at_ i _ e
theorem SR.ow(r:SR B H₀ Hs H σ env)(i:Nat)(xs:List PV)(e:env[i]?=some (some (.ow xs))):∃a vs,σ[i]?=some (some (.ref a))/\H a=some (.lst vs)/\Hs a=none/\H₀ a=none/\aL Hs xs vs :=
 let ⟨_,h1,a,vs,z,h⟩:=r.at_ i _ e;⟨a,vs,z▸h1,h⟩
theorem SR.bd(r:SR B H₀ Hs H σ env)(i:Nat)(a C:Addr)(fs:List (Str×PV))(e:env[i]?=some (some (.bd a C fs))):∃dx vs,σ[i]?=some (some (.ref a))/\H a=some (.ins C dx vs)/\Hs a=none/\H₀ a=none/\iw Hs fs vs :=
 let ⟨_,h1,dx,vs,z,h⟩:=r.at_ i _ e;⟨dx,vs,z▸h1,h⟩
theorem SR.dw(r:SR B H₀ Hs H σ env)(i:Nat)(Qk:List (List Int×PV))(e:env[i]?=some (some (.dw Qk))):∃a us,σ[i]?=some (some (.ref a))/\H a=some (.dT us)/\Hs a=none/\H₀ a=none/\dP Hs Qk us :=
 let ⟨_,h1,a,vs,z,h⟩:=r.at_ i _ e;⟨a,vs,z▸h1,h⟩
def Ho.jP{x:SV}{v:V}(h:Ho H₀ Hs H x v)(o:gI x=true):∃a u,v=.ref a/\H a=some u/\Hs a=none/\H₀ a=none/\∀ws,u≠.tup ws:=by
 cases x with
 | sh p=>cases o
 | ow xs=>obtain⟨a,vs,z,h1,h2,h3,_⟩:=h;exact⟨a,_,z,h1,h2,h3,λ_=>nofun⟩
 | bd a C fs=>obtain⟨dx,vs,z,h1,h2,h3,_⟩:=h;exact⟨a,_,z,h1,h2,h3,λ_=>nofun⟩
 |dw Qk=>obtain⟨a,vs,z,h1,h2,h3,_⟩:=h;exact⟨a,_,z,h1,h2,h3,λ_=>nofun⟩
theorem Ho.mono{x:SV}{v:V}(h:Ho H₀ Hs H x v)(s:bf Hs Ql)(k:∀a u,gI x=true->v=.ref a->H a=some u->Hs a=none->H₀ a=none->(∀ws,u≠.tup ws)->H' a=some u/\Ql a=none/\H₀' a=none):Ho H₀' Ql H' x v:=by
 cases x with
 | sh p=>exact Rep.mono s h
 | ow xs=>obtain⟨a,vs,z,h1,h2,h3,h4⟩:=h;obtain⟨q1,q2,q3⟩:=k a _ rfl z h1 h2 h3 (λ_=>nofun);exact⟨a,vs,z,q1,q2,q3,h4.mono s⟩
 | bd a C fs=>obtain⟨dx,vs,z,h1,h2,h3,h4⟩:=h;obtain⟨q1,q2,q3⟩:=k a _ rfl z h1 h2 h3 (λ_=>nofun);exact⟨dx,vs,z,q1,q2,q3,h4.mono s⟩
 |dw Qk=>obtain⟨a,vs,z,h1,h2,h3,h4⟩:=h;obtain⟨q1,q2,q3⟩:=k a _ rfl z h1 h2 h3 (λ_=>nofun);exact⟨a,vs,z,q1,q2,q3,h4.mono s⟩
def SR.mv(r:SR B H₀ Hs H σ env)(gr:bg B' H₀' Ql H')(hl:σ'.length=Qj.length)(s:bf Hs Ql)(c:∀(j:Nat)(x:SV),Qj[j]?=some (some x)->env[j]?=some (some x)/\σ'[j]?=σ[j]?/\∀a u,gI x=true->σ[j]?=some (some (.ref a))->H a=some u->Hs a=none->H₀ a=none->(∀ws,u≠.tup ws)->H' a=some u/\Ql a=none/\H₀' a=none):SR B' H₀' Ql H' σ' Qj where
 gr:=gr
 len:=hl
 at_:=λj x e=>by
  obtain⟨e1,e2,k⟩:=c j x e;obtain⟨v,h1,h2⟩:=r.at_ j x e1;exact⟨v,e2.trans h1,h2.mono s λa u o z=>k a u o (z▸h1)⟩
 ap:=λj k x y a n e1 e2 o1 o2=>by
  rw[(c j x e1).2.1,(c k y e2).2.1];exact r.ap j k x y a n (c j x e1).1 (c k y e2).1 o1 o2
def va{y:SV}(e:(env.set i x)[j]?=some (some y)):(i≠j/\env[j]?=some (some y))\/(i=j/\x=some y/\i<env.length):=by
 rw[Xd] at e
 by_cases z:i=j
 .rw[if_pos z] at e
  split at e
  .exact .inr ⟨z,Vf e,by assumption⟩
  .cases e
 .rw[if_neg z] at e;exact .inl ⟨z,e⟩
def SR.chg(r:SR B H₀ Hs H σ env)(gr:bg B H₀ Ql H')(s:bf Hs Ql)(new:∀y,x=some y->∃w,v=some w/\Ho H₀ Ql H' y w)(kp:∀(j:Nat)(y:SV)(a:Addr)(u:HO),i≠j->env[j]?=some (some y)->gI y=true->σ[j]?=some (some (.ref a))->H a=some u->Hs a=none->(∀ws,u≠.tup ws)->H' a=some u/\Ql a=none)(sp:∀y,x=some y->gI y=true->∀(k:Nat)(z:SV),i≠k->env[k]?=some (some z)->gI z=true->σ[k]?≠some v):SR B H₀ Ql H' (σ.set i v) (env.set i x) where
 gr:=gr
 len:=by rw[aa0,aa0];exact r.len
 at_:=λj y e=>by
  rcases va e with ⟨n,e⟩|⟨rfl,e,l⟩
  .obtain⟨w,h1,h2⟩:=r.at_ j y e;refine⟨w,by rwa[Xd,if_neg n],h2.mono s λa u o z q1 q2 q3 t=>?_⟩;obtain⟨p1,p2⟩:=kp j y a u n e o (z▸h1) q1 q2 t;exact⟨p1,p2,q3⟩
  .obtain⟨w,rfl,h⟩:=new y e;exact⟨w,by rw[Xd,if_pos rfl,if_pos (by rwa[r.len])],h⟩
 ap:=λj k y z a n e1 e2 o1 o2 q1 q2=>by
  rw[Xd] at q1 q2;rcases va e1 with ⟨n1,e1⟩|⟨rfl,e1,l⟩
  .rw[if_neg n1] at q1;rcases va e2 with ⟨n2,e2⟩|⟨rfl,e2,l⟩
   .rw[if_neg n2] at q2;exact r.ap j k y z a n e1 e2 o1 o2 q1 q2
   .rw[if_pos rfl,if_pos (by rwa[r.len])] at q2;exact sp z e2 o2 j y n1 e1 o1 (q1.trans q2.symm)
  .rw[if_pos rfl,if_pos (by rwa[r.len])] at q1;rcases va e2 with ⟨n2,e2⟩|⟨z2,_,_⟩
   .rw[if_neg n2] at q2;exact sp y e1 o1 k z n2 e2 o2 (q2.trans q1.symm)
   .exact n z2
def SR.BD(r:SR B H₀ Hs H σ env)(hv:σ[i]?=some v)(gr:bg B H₀ Ql H')(s:bf Hs Ql)(new:∀y,x=some y->∃w,v=some w/\Ho H₀ Ql H' y w)(kp:∀(j:Nat)(y:SV)(a:Addr)(u:HO),i≠j->env[j]?=some (some y)->gI y=true->σ[j]?=some (some (.ref a))->H a=some u->Hs a=none->(∀ws,u≠.tup ws)->H' a=some u/\Ql a=none)(sp:∀y,x=some y->gI y=true->∀(k:Nat)(z:SV),i≠k->env[k]?=some (some z)->gI z=true->σ[k]?≠some v):SR B H₀ Ql H' σ (env.set i x):=by
 have e:σ.set i v=σ:=aak λj=>by
  rw[Xd]
  by_cases z:i=j
  .subst z;rw[if_pos rfl,if_pos (VW.mp hv).1,hv]
  .rw[if_neg z]
 have:=r.chg gr s new kp sp
 rwa [e] at this
def SR.held{p:Addr}(r:SR B H₀ Hs H σ env)(n:H p=none):∀(j:Nat)(y:SV),env[j]?=some (some y)->gI y=true->σ[j]?≠some (some (.ref p)):=λj y e o z=>by
 obtain⟨v,h1,h2⟩:=r.at_ j y e;obtain⟨a,u,rfl,q,_⟩:=h2.jP o;rw[h1] at z;cases z;rw[n] at q;cases q
def SR.free{p:Addr}(r:SR B H₀ Hs H σ env)(n:H p=none):Hs p=none/\H₀ p=none:=by
 refine⟨?_,?_⟩
 .cases q:Hs p with
  | none=>rfl
  | some o=>have:=r.gr.sub _ _ q;rw[n] at this;cases this
 .cases q:H₀ p with
  | none=>rfl
  |some o=>have:=r.gr.al _ _ q;rw[n] at this;cases this
def bg.jP{p:Addr}(g:bg B H₀ Hs H)(h1:Hs p=none)(h2:H₀ p=none):bg B H₀ Hs (upd H p o) :=
 ⟨g.st,λc u q=>by rw[au (λz=>by rw[z,h2] at q;cases q)];exact g.al c u q,λc u q=>by rw[au (λz=>by rw[z,h1] at q;cases q)];exact g.sub c u q,g.nw⟩
def bg.into{p:Addr}(g:bg B H₀ Hs H)(h:H p=some o)(h1:Hs p=none)(h2:H₀ p=none):bg B H₀ (upd Hs p o) H/\bf Hs (upd Hs p o):=by
 have st:bf Hs (upd Hs p o):=λc u q=>by rwa[au (λz=>by rw[z,h1] at q;cases q)]
 refine⟨⟨λc u q=>st c u (g.st c u q),g.al,λc u q=>?_,λc u q1 q2 q3=>?_⟩,st⟩
 .by_cases z:c=p
  .subst z;rw[av] at q;rw[h,q]
  .rw[au z] at q;exact g.sub c u q
 .rw[au (λz=>by rw[z,h2] at q2;cases q2)];exact g.nw c u q1 q2 q3
def SR.grow(r:SR B H₀ Hs H σ env)(g:bg Hs H Ql H'):SR B H₀ Ql H' σ env :=
 r.mv (r.gr.trans g) r.len g.st λ_ _ e=>⟨e,rfl,λa u _ _ h1 h2 h3 t=>⟨g.al _ _ h1,g.nw _ _ h2 h1 t,h3⟩⟩
end
abbrev EX:=Addr×Option (List (Str×PV))
abbrev M(α:Type):=Option (Except EX α)
def M.ok{α:Type}(a:α):M α:=some (.ok a)
variable{α:Type}
noncomputable def M.bind{β:Type}(x:M α)(f:α->M β):M β:=match x with
 | some (.ok a)=>f a
 | some (.error e)=>some (.error e)
 |none=>none
instance:Monad M where
 pure:=M.ok
 bind:=M.bind
def ao(r:M α)(Q:α->Prop)(E:EX->Prop):Prop:=match r with
 | some (.ok a)=>Q a
 | some (.error e)=>E e
 |none=>False
variable{E':EX->Prop}
def ao.imp{r:M α}{Q Q':α->Prop}{E:EX->Prop}(h:ao r Q E)(hq:∀a,Q a->Q' a)(he:∀e,E e->E' e):ao r Q' E':=by
 cases r with
 | none=>exact h
 | some x=>cases x with
  | ok a=>exact hq a h
  |error e=>exact he e h
theorem ao.bind{α β:Type}{x:M α}{f:α->M β}{Q:β->Prop}{E:EX->Prop}(h:ao (x.bind f) Q E):ao x (λa=>ao (f a) Q E) E:=by
 cases x with
 | none=>exact h
 | some x=>cases x with
  | ok a=>exact h
  |error e=>exact h
def XW(E:XK)(Hs H:Hp)(x:EX):Prop:=∀ea Ql H',bg Hs H Ql H'->Rep Ql (.exc x.1 x.2) (.ref ea)->E (.ref ea) none H'
def XW.grow{E:XK}{Ql H':Hp}{x:EX}(h:XW E Hs H x)(g:bg Hs H Ql H'):XW E Ql H' x:=λea Qx H2 g2 r=>h ea Qx H2 (g.trans g2) r
def tE(E:St->XK)(f:af->M PV):TE:=fun σ H Q=>∃B H₀ Hs env,SR B H₀ Hs H σ env/\ao (f env) (λp=>∀v Ql H',bg Hs H Ql H'->Rep Ql p v->Q v H') (XW (E σ) Hs H)
def PE.imp{t t':TE}(h:PE X e t)(i:∀σ H Q,t' σ H Q->t σ H Q):PE X e t':=λQg s σ H Q I q=>h Qg s σ H Q I (i σ H Q q)
def um{f:af->M PV}{g:af->PV->M PV}{Q R:VK}(h:tE E (λenv=>(f env).bind (g env)) σ H Q)(k:∀B H₀ Hs H1 env p v,SR B H₀ Hs H1 σ env->Rep Hs p v->ao (g env p) (λq=>∀u Ql H',bg Hs H1 Ql H'->Rep Ql q u->Q u H') (XW (E σ) Hs H1)->R v H1):tE E f σ H R:=by
 obtain⟨B,H₀,Hs,env,sr,h⟩:=h;refine⟨B,H₀,Hs,env,sr,(ao.bind h).imp (λp hp v Ql H' g r=>?_) λe he=>he⟩;exact k B H₀ Ql H' env p v (sr.grow g) r (hp.imp (λq hq u Qx H2 g2 r2=>hq u Qx H2 (g.trans g2) r2) λe he=>he.grow g)
def yT{f g:af->M PV}{op:PV->PV->M PV}{r:R2}{Q:VK}(h:tE E (λenv=>(f env).bind λp=>(g env).bind λq=>op p q) σ H Q)(k:∀Hs H1 p q v u,bf Hs H1->Rep Hs p v->Rep Hs q u->ao (op p q) (λz=>∀w Ql H',bg Hs H1 Ql H'->Rep Ql z w->Q w H') (XW (E σ) Hs H1)->r v u H1 Q):Ly r (tE E f) (tE E g) σ H Q:=by
 refine um h λB H₀ Hs H1 env p v sr rp hp=>?_;refine⟨B,H₀,Hs,env,sr,(ao.bind hp).imp (λq hq u Ql H' g ru=>?_) λe he=>he⟩;exact k Ql H' p q v u (sr.grow g).gr.sub (rp.mono g.st) ru (hq.imp (λz hz w Qx H2 g2 r2=>hz w Qx H2 (g.trans g2) r2) λe he=>he.grow g)
def ML{f:af->M PV}{op:PV->M PV}{r:V->Hp->VK->Prop}{Q:VK}(h:tE E (λenv=>(f env).bind op) σ H Q)(k:∀Hs H1 p v,bf Hs H1->Rep Hs p v->ao (op p) (λz=>∀w Ql H',bg Hs H1 Ql H'->Rep Ql z w->Q w H') (XW (E σ) Hs H1)->r v H1 Q):Pj r (tE E f) σ H Q :=
 um h λB H₀ Hs H1 env p v sr rp hp=>k Hs H1 p v sr.gr.sub rp hp
def Kx(sp:Sp)(Q0:List V)(E:St->XK)(t:TA):TE:=fun σ H Q=>t σ H λvs H1=>sp (vs++Q0) H1 Q (E σ)
def BG(C:Addr)(m:Str)(sp:Sp)(Q0:List V)(E:St->XK)(ta:TE)(t:TA):TE:=fun σ H Q=>ta σ H λx H1=>∃a dx fs,x=.ref a/\H1 a=some (.ins C dx fs)/\fs.lookup m=none ∧
 t σ H1 λvs H2=>sp (x::(vs++Q0)) H2 Q (E σ)
def IH(C:Addr)(sp:Sp)(Q0:List V)(E:St->XK)(t:TA):TE:=fun σ H Q=>t σ H λvs H1=>∀x dx,H1 x=none->H1 dx=none->dx≠x ->
 sp (.ref x::(vs++Q0)) (upd (upd H1 dx (.own x)) x (.ins C dx [])) (λv H2=>v=.c8/\Q (.ref x) H2) (E σ)
variable{Q0:List V}
variable{vs:List V}{us:List Value}
variable{pl:Sem Bool}
section
variable{p pos:Pos}{o:Expr}{t:TA}
def uK{Q:VK}(F:aV X.prog X.w X.K X.mg X.base (bQ X.prog X.w) k f fd ps sp)(hr:bO k X.A)(hb:Binds X.K fd ps ds)(hd:Vals Q0 ds)(hx:eg X E)(I:Inv X Qg σ H s)(r:Vals vs us)(h:sp (vs++Q0) H Q (E σ)):wpAny ↑8 X.A (call (.ref f) us) (EP X Qg σ Q) X.xe s:=by
 have r2:Vals (vs++Q0) (us++ds):=r.append hd;have hl:(us++ds).length=ps.length:=by rw[<- r2.length];exact F.len _ _ _ _ h
 refine Z7 (ZR (F.run X.A X.stack s H ⟨us,[]⟩ (us++ds) (vs++Q0) Q (E σ) hr I.gU (hb s us I.jG hl) r2 h) λr s' hq=>?_);cases r with
 | error e=>exact hx.pass Qg σ H s e s' I hq
 | ok fl =>
  cases fl with
  | ret u=>exact I.after hq
  | next=>exact WO hq
  | brk=>exact WO hq
  |cont=>exact WO hq
def wx(F:aV X.prog X.w X.K X.mg X.base (bQ X.prog X.w) k f fd ps sp)(hr:bO k X.A)(hg:Gl X x)(hm:X.mg x=some (.ref f))(hk:V4 X.K (.ref f)=true)(hb:Binds X.K fd ps ds)(hd:Vals Q0 ds)(hx:eg X E)(ha:PA X (e::es) t)(QZ:autoParam ↑7 aD._auto_1)(he:autoParam ↑0 aR._auto_1)(QG:autoParam ↑2 aR._auto_1):PE X (.Call (.Name x p) (e::es) [] pos) (Kx sp Q0 E t):=by
 intro Qg s σ H Q I h;refine Xr (i6 I hg hm ?_ QZ);refine X4 (h₀:=X.base) I.ok.mod.Hw hk (ck (ha pos Qg s σ H _ I h) λus s1 ⟨vs,H1,I1,r,q⟩=>⟨I1.jG,?_⟩) he QG;exact uK F hr hb hd hx I1 r q
def DX(he:PE X o ta)(c:mF X.K C)(hm:Meth X.K C m f)(F:aV X.prog X.w X.K X.mg X.base (bQ X.prog X.w) k f fd ps sp)(hr:bO k X.A)(hb:Binds X.K fd ps ds)(hd:Vals Q0 ds)(hx:eg X E)(ha:PA X (e::es) t)
  (QO:autoParam ↑0 aR._auto_1) (QG:autoParam ↑2 aR._auto_1)
  (ht:autoParam (eval (.Call (.Attribute o m apos) (e::es) [] pos) X.env=(do
   let ov <- eval o X.env
   standAt apos.atName
   let (f,first) <- holding [ov] (getMethod ov m pl)
   callWith pos f first (backTo pos (starEach (e::es) X.env)) (backToKw pos (keywordEach [] X.env)))) aR._auto_1) :
  PE X (.Call (.Attribute o m apos) (e::es) [] pos) (BG C m sp Q0 E ta t):=by
 intro Qg s σ H Q I h;refine aa_ (pl:=pl) (ck (he Qg s σ H _ I h) λu s1 ⟨x,H1,I1,rx,a,dx,fs,ex,ea,l,q⟩=>?_) ht;subst ex;obtain rfl:u=U5 a:=rx;refine pj I1 ea c hm l ?_;refine X4 (first:=[.ref a]) (h₀:=X.base) I.ok.mod.Hw hm.kp (ck (ha pos Qg s1 σ H1 _ I1 q) λus s2 ⟨vs,H2,I2,r,q2⟩=>⟨I2.jG,?_⟩) QO QG;exact uK (us:=.ref a::us) (vs:=.ref a::vs) F hr hb hd hx I2 (.cons rfl r) q2
def Ax(he:PE X o ta)(c:mF X.K C)(hm:Meth X.K C m f)(F:aV X.prog X.w X.K X.mg X.base (bQ X.prog X.w) k f fd ps sp)(hr:bO k X.A)(hb:Binds X.K fd ps ds)(hd:Vals Q0 ds)(hx:eg X E)
  (ht:autoParam (eval (.Call (.Attribute o m apos) [] [] pos) X.env=(do
   let ov <- eval o X.env
   standAt apos.atName
   let (f,first) <- holding [ov] (getMethod ov m pl)
   callWith pos f first (backTo pos (starEach [] X.env)) (backToKw pos (keywordEach [] X.env)))) aR._auto_1) :
  PE X (.Call (.Attribute o m apos) [] [] pos) (BG C m sp Q0 E ta Na):=by
 intro Qg s σ H Q I h;refine aa_ (pl:=pl) (ck (he Qg s σ H _ I h) λu s1 ⟨x,H1,I1,rx,a,dx,fs,ex,ea,l,q⟩=>?_) ht;subst ex;obtain rfl:u=U5 a:=rx;refine pj I1 ea c hm l ?_;exact PySem.W.callWith_K0 (first:=[.ref a]) I1.jG hm.kp (uK (us:=[.ref a]) (vs:=[.ref a]) F hr hb hd hx I1 (.cons rfl .nil) q)
def Al{Q:VK}(M:Mk X.K C f)(F:aV X.prog X.w X.K X.mg X.base (bQ X.prog X.w) k f fd ps sp)(hr:bO (k+1) X.A)(hb:Binds X.K fd ps ds)(hd:Vals Q0 ds)(hx:eg X E)(I:Inv X Qg σ H s)(r:Vals vs us)(h:∀x dx,H x=none->H dx=none->dx≠x->sp (.ref x::(vs++Q0)) (upd (upd H dx (.own x)) x (.ins C dx [])) (λv H2=>v=.c8/\Q (.ref x) H2) (E σ)):wpAny ↑8 X.A (call (.ref C) us) (EP X Qg σ Q) X.xe s:=by
 have hq:=h (s.heap.objs.size+1) s.heap.objs.size (I.bq.fresh (Yg _)) (I.bq.fresh (UZ _)) (Vh (WZ _));have I2:=Inv.made (C:=C) I;have r2:Vals (V.ref (s.heap.objs.size+1)::(vs++Q0)) (U5 (s.heap.objs.size+1)::(us++ds)):=.cons rfl (r.append hd);have hl:(U5 (s.heap.objs.size+1)::us++ds).length=ps.length:=by
  have e:=r2.length;rw[F.len _ _ _ _ hq] at e;exact e.symm
 refine Z7 (Eh (f:=f) I.jG M.makes M.init (beq_iff_eq.mp M.fn) (ZR (F.run _ X.stack _ _ ⟨U5 (s.heap.objs.size+1)::us,[]⟩ (U5 (s.heap.objs.size+1)::(us++ds)) _ _ (E σ) (hr.make C us [])
  (I2.gU.make C us []) (hb _ (U5 (s.heap.objs.size+1)::us) I2.jG hl) r2 hq) λr s' S1=>?_))
 cases r with
 | error e=>exact hx.pass Qg σ _ _ e s' I2 S1
 | ok fl =>
  cases fl with
  | ret u =>
   obtain⟨v,H',I3,rv,ev,q3⟩:=I2.after S1;subst ev;exact⟨rv,⟨V.ref (s.heap.objs.size+1),H',I3,rfl,q3⟩⟩
  | next=>exact WO S1
  | brk=>exact WO S1
  |cont=>exact WO S1
def DI(M:Mk X.K C f)(F:aV X.prog X.w X.K X.mg X.base (bQ X.prog X.w) k f fd ps sp)(hr:bO (k+1) X.A)(hg:Gl X x)(hm:X.mg x=some (.ref C))(hb:Binds X.K fd ps ds)(hd:Vals Q0 ds)(hx:eg X E)(ha:PA X (e::es) t)(QZ:autoParam ↑7 aD._auto_1)(he:autoParam ↑0 aR._auto_1)(QG:autoParam ↑2 aR._auto_1):PE X (.Call (.Name x p) (e::es) [] pos) (IH C sp Q0 E t):=by
 intro Qg s σ H Q I h;refine Xr (i6 I hg hm ?_ QZ);refine X4 (h₀:=X.base) I.ok.mod.Hw M.kp (ck (ha pos Qg s σ H _ I h) λus s1 ⟨vs,H1,I1,r,q⟩=>⟨I1.jG,?_⟩) he QG;exact Al M F hr hb hd hx I1 r q
end
abbrev eU(Hs H:Hp)(Q:VK):PV->Prop:=λz=>∀w Ql H',bg Hs H Ql H'->Rep Ql z w->Q w H'
variable{p:PV}
def eU.flat{Q:VK}(h:eU Hs H Q p)(s:bf Hs H)(r:Rep Hs p v):Q v H:=h v Hs H (.refl s) r
theorem eU.tup{Hs H:Hp}{Q:VK}{xs:List PV}{vs:List V}(h:eU Hs H Q (.tup xs))(s:bf Hs H)(r:aL Hs xs vs):∀p,H p=none->Q (.ref p) (upd H p (.tup vs)) :=
 λp n=>h _ (upd Hs p (.tup vs)) _ (bg.new s n) (.tup av (r.mono (bg.new s n).st))
theorem eU.lst{Hs H:Hp}{Q:VK}{xs:List PV}{vs:List V}(h:eU Hs H Q (.lst xs))(s:bf Hs H)(r:aL Hs xs vs):∀p,H p=none->Q (.ref p) (upd H p (.lst vs)) :=
 λp n=>h _ (upd Hs p (.lst vs)) _ (bg.new s n) (.lst av (r.mono (bg.new s n).st))
namespace HT
def EK{prog:Program}{w:World}{A:Around}{E:Value->Shared->Prop}{s:Shared}{t b:Addr}{ws:List Value}{Q:Value->Shared->Prop}(ht:IsTup s.heap t #[])(hb:IsTup s.heap b ws.toArray)(h1:Q (.ref b) s):wpAny ↑11 A (binaryOp .Add (.ref t) (.ref b)) Q E s:=by
 obtain⟨⟨cls,dd,data,sl⟩,ho,hc,n,hd⟩:=id ht;obtain⟨⟨cls2,Ub,data2,sl2⟩,Sw,SO,n2,hd2⟩:=id hb;simp only at hc hd SO hd2;subst hc hd SO hd2;exact ab4 ⟨_,ho,rfl⟩ ⟨_,Sw,rfl⟩ aat abA YV YK (Yx _ _)
   (tuple_addW0 t b #[] ws.toArray n n2 dd Ub sl sl2 rfl) ⟨ho,Sw,h1⟩
end HT
def BF(K:UU):R2:=λx y H Q=>∃a b ys,x=.ref a/\y=.ref b/\gR K H a []/\gR K H b ys/\Q (.ref b) H
def B5:gQ X (binaryOp .Add) (BF X.K):=by
 intro Qg s σ H x y v u Q I rx ry h;obtain⟨a,b,ys,rfl,rfl,ha,hb,q1⟩:=h;cases rx;cases ry;obtain⟨Qo,r1,p1,_⟩:=I.tuple ha;obtain⟨Q_,r2,p2,_⟩:=I.tuple hb;have e:Qo=[]:=r1.my.mpr rfl;subst e;exact HT.EK p1 p2 ⟨.ref b,H,I,rfl,q1⟩
noncomputable def cQ(c:Prop)[Decidable c](x:M α):M α:=if c then x else none
theorem ao.cQ{α:Type}{c:Prop}[Decidable c]{x:M α}{Q:α->Prop}{E:EX->Prop}(h:ao (L2.cQ c x) Q E):c/\ao x Q E:=by
 unfold L2.cQ at h
 by_cases hc:c
 .rw[if_pos hc] at h;exact⟨hc,h⟩
 .rw[if_neg hc] at h;exact h.elim
def fW(o:Option PV):M PV:=match o with
 | some x=>M.ok x
 |none=>none
def ao.opt{o:Option PV}{Q:PV->Prop}{E:EX->Prop}(h:ao (fW o) Q E):∃x,o=some x/\Q x:=by
 cases o with
 | none=>exact h.elim
 |some x=>exact⟨x,rfl,h⟩
variable{op:CmpOp}
section
variable{a b:Expr}{pos:Pos}{f g h:af->M PV}
noncomputable def ae(i:Nat)(env:af):M PV:=match env[i]? with
 | some (some (.sh p))=>M.ok p
 |_=>none
def J2(hN:X.N[i]?=some x)(hv:xh X.env.scope x)(hd:autoParam ↑7 aD._auto_1)(QP:autoParam ↑6 aD._auto_1):PE X (.Name x pos) (tE E (ae i)):=by
 refine(gN hN hv hd QP).imp fun σ H Q q=>?_;obtain⟨B,H₀,Hs,env,sr,q⟩:=q;unfold ae at q
 split at q
 .rename_i p e;obtain⟨v,h1,h2⟩:=sr.sh i p e;exact⟨v,h1,eU.flat q sr.gr.sub h2⟩
 .exact q.elim
def lP(he:PE X e (tC v))(r:∀H,Rep H p v):PE X e (tE E λ_=>M.ok p):=by
 refine he.imp fun σ H Q q=>?_;obtain⟨B,H₀,Hs,env,sr,q⟩:=q;exact eU.flat q sr.gr.sub (r Hs)
def Eg{i:Int}:PE X (.Constant (.int i) j pos) (tE E λ_=>M.ok (.int i)):=lP BE λ_=>.int i
def Mb{i:Bool}:PE X (.Constant (.bool i) j pos) (tE E λ_=>M.ok (.bl i)):=lP Nf λ_=>.bl i
def Kt:PE X (.Constant .none j pos) (tE E λ_=>M.ok .c8):=lP Js λ_=>.c8
def Kl{i:Str}:PE X (.Constant (.str i) j pos) (tE E λ_=>M.ok (.str i)):=lP Kn λ_=>.str i
def ai(op:PV->PV->M PV)(f g:af->M PV):af->M PV:=λenv=>(f env).bind λp=>(g env).bind λq=>op p q
def mU(E:St->XK)(r:R2)(op:PV->PV->M PV):Prop:=∀(σ:St)(Hs H:Hp)(p q:PV)(v u:V)(Q:VK),bf Hs H->Rep Hs p v->Rep Hs q u->ao (op p q) (eU Hs H Q) (XW (E σ) Hs H)->r v u H Q
def nr{op:Operator}{r:R2}{o:PV->PV->M PV}(ho:gQ X (binaryOp op) r)(hv:mU E r o)(ha:PE X a (tE E f))(hb:PE X b (tE E g)):PE X (.BinOp a op b pos) (tE E (ai o f g)) :=
 (LX ho ha hb).imp fun σ H Q q=>yT q λHs H1 p q v u s rp rq h=>hv σ Hs H1 p q v u Q s rp rq h
def k_{r:R2}{o:PV->PV->M PV}(ho:gQ X (compareOp op) r)(hv:mU E r o)(ha:PE X a (tE E f))(hb:PE X b (tE E g))(hm:behindInMarks op b=false):PE X (.Compare a [op] [b] pos) (tE E (ai o f g)) :=
 (Gx ho ha hb hm).imp fun σ H Q q=>yT q λHs H1 p q v u s rp rq h=>hv σ Hs H1 p q v u Q s rp rq h
noncomputable def bU:PV->PV->M PV
 | .int i,.int j=>M.ok (.int (i+j))
 | .str x,.str y=>cQ (x.length+y.length<=sizeLine) (M.ok (.str (x++y)))
 | .tup xs,.tup ys=>cQ (xs.length+ys.length<=sizeLine) (M.ok (.tup (xs++ys)))
 | .lst xs,.lst ys=>cQ (xs.length+ys.length<=sizeLine) (M.ok (.lst (xs++ys)))
 |_,_=>none
def HZ(K:UU):R2:=λx y H Q=>(∃i j,x=.int i/\y=.int j/\Q (.int (i+j)) H)\/(∃i j,x=.str i/\y=.str j/\i.length+j.length<=sizeLine/\Q (.str (i++j)) H)\/HN K x y H Q\/L6 x y H Q\/BF K x y H Q
def Fw:gQ X (binaryOp .Add) (HZ X.K):=gQ.or IB (gQ.or xK (gQ.or GA (gQ.or K4 B5)))
def Jp{K:UU}:mU E (HZ K) bU:=by
 intro σ Hs H p q v u Q s rp rq h;cases rp with
 | int i=>cases rq with
  | int j=>exact .inl ⟨i,j,rfl,rfl,eU.flat h s (.int _)⟩
  | _=>exact h.elim
 | str i=>cases rq with
  | str j =>
   obtain⟨hz,h⟩:=ao.cQ h;exact .inr (.inl ⟨i,j,rfl,rfl,hz,eU.flat h s (.str _)⟩)
  | _=>exact h.elim
 | @tup a xs vs ha hx=>cases rq with
  | @tup b ys us hb hy =>
   obtain⟨hz,h⟩:=ao.cQ h;cases hx with
   | nil=>exact .inr (.inr (.inr (.inr ⟨a,b,us,rfl,rfl,gR.of (s _ _ ha),gR.of (s _ _ hb),eU.flat h s (.tup hb hy)⟩)))
   | cons TH Rz =>
    have hx:=aL.cons TH Rz;refine .inr (.inr (.inl ⟨a,b,_,us,rfl,rfl,gR.of (s _ _ ha),gR.of (s _ _ hb),(λz=>nomatch z),by rwa[<- hx.length,<- hy.length],λz=>?_,λz=>eU.tup h s (hx.append hy)⟩));have e:ys=[]:=by cases hy with|nil=>rfl|cons _ _=>cases z
    subst e;rw[VT] at h;exact eU.flat h s (.tup ha hx)
  | _=>exact h.elim
 | @lst a xs vs ha hx=>cases rq with
  | @lst b ys us hb hy =>
   obtain⟨hz,h⟩:=ao.cQ h;exact .inr (.inr (.inr (.inl ⟨a,b,vs,us,rfl,rfl,s _ _ ha,s _ _ hb,by rwa[<- hx.length,<- hy.length],eU.lst h s (hx.append hy)⟩)))
  | _=>exact h.elim
 |_=>exact h.elim
noncomputable def xE(c:Int->Int->Bool)(o:Int->Int->Int):PV->PV->M PV
 | .int i,.int j=>cQ (c i j=true) (M.ok (.int (o i j)))
 |_,_=>none
def xJ{C:Int->Int->Prop}{c:Int->Int->Bool}{o:Int->Int->Int}(hc:∀i j,c i j=true->C i j):mU E (rI C λi j=>.int (o i j)) (xE c o):=by
 intro σ Hs H p q v u Q s rp rq h;cases rp with
 | int i=>cases rq with
  | int j =>
   obtain⟨hz,h⟩:=ao.cQ h;exact⟨i,j,rfl,rfl,hc i j hz,eU.flat h s (.int _)⟩
  | _=>exact h.elim
 |_=>exact h.elim
noncomputable def i8:PV->PV->M PV
 | .int i,.int j=>M.ok (.int (i-j))
 |_,_=>none
def Iz:mU E (yj λi j=>.int (i-j)) i8:=by
 intro σ Hs H p q v u Q s rp rq h;cases rp with
 | int i=>cases rq with
  | int j=>exact⟨i,j,rfl,rfl,eU.flat h s (.int _)⟩
  | _=>exact h.elim
 |_=>exact h.elim
noncomputable def DA(o:Int->Int->Bool):PV->PV->M PV
 | .int i,.int j=>M.ok (.bl (o i j))
 |_,_=>none
def uq{o:Int->Int->Bool}:mU E (yj λi j=>.bl (o i j)) (DA o):=by
 intro σ Hs H p q v u Q s rp rq h;cases rp with
 | int i=>cases rq with
  | int j=>exact⟨i,j,rfl,rfl,eU.flat h s (.bl _)⟩
  | _=>exact h.elim
 |_=>exact h.elim
noncomputable def aJ:PV->PV->M PV
 | .tup xs,.int i=>fW (nW xs i)
 | .lst xs,.int i=>fW (nW xs i)
 | .jN xs,.int i=>fW (nW xs i)
 | .str z,.int i=>cQ (z.length<=sizeLine) (fW ((nW z.cps.toList i).map λc=>.str ⟨#[c]⟩))
 |_,_=>none
theorem aL.nW{H:Hp}{xs:List PV}{vs:List V}{i:Int}{x:PV}(r:aL H xs vs)(e:L2.nW xs i=some x):∃v,L2.nW vs i=some v/\Rep H x v:=by
 unfold L2.nW at e ⊢;rw[<- r.length];obtain⟨j,h1,h2⟩:=YL.mp e;obtain⟨v,h3,h4⟩:=r.get h2;exact⟨v,by rwa[h1],h4⟩
def J5{K:UU}:mU E (Pm K) aJ:=by
 intro σ Hs H p q v u Q s rp rq h;cases rp with
 | @tup a xs vs ha hx=>cases rq with
  | int i =>
   obtain⟨x,ex,h⟩:=ao.opt h;obtain⟨v,h1,h2⟩:=hx.nW ex;exact .inr (.inl ⟨a,vs,i,v,rfl,rfl,gR.of (s _ _ ha),h1,eU.flat h s h2⟩)
  | _=>exact h.elim
 | @lst a xs vs ha hx=>cases rq with
  | int i =>
   obtain⟨x,ex,h⟩:=ao.opt h;obtain⟨v,h1,h2⟩:=hx.nW ex;exact .inl ⟨a,vs,i,v,rfl,rfl,g9.of (s _ _ ha),h1,eU.flat h s h2⟩
  | _=>exact h.elim
 | @jN a o xs vs ha hx=>cases rq with
  | int i =>
   obtain⟨x,ex,h⟩:=ao.opt h;obtain⟨v,h1,h2⟩:=hx.nW ex;exact .inl ⟨a,vs,i,v,rfl,rfl,.inl (.inr ⟨o,s _ _ ha⟩),h1,eU.flat h s h2⟩
  | _=>exact h.elim
 | str z=>cases rq with
  | int i =>
   obtain⟨hz,h⟩:=ao.cQ h;obtain⟨x,ex,h⟩:=ao.opt h;obtain⟨c,ec,rfl⟩:=Vo.mp ex;exact .inr (.inr ⟨z,i,c,rfl,rfl,hz,ec,eU.flat h s (.str _)⟩)
  | _=>exact h.elim
 |_=>exact h.elim
def K5(ha:PE X a (tE E f))(hb:PE X b (tE E g))(hs:uO b):PE X (.Subscript a b pos) (tE E (ai aJ f g)) :=
 (ME IF ha hb hs).imp fun σ H Q q=>yT q λHs H1 p q v u s rp rq h=>J5 σ Hs H1 p q v u Q s rp rq h
end
def tG(E:St->XK)(f:af->M α)(K:Hp->Hp->α->Prop):St->Hp->Prop:=fun σ H=>∃B H₀ Hs env,SR B H₀ Hs H σ env/\ao (f env) (K Hs H) (XW (E σ) Hs H)
def KG(K:Hp->Hp->α->Prop):Prop:=∀Hs H Ql H' b,K Hs H b->bg Hs H Ql H'->K Ql H' b
abbrev KB(Q:Bool->Hp->Prop):Hp->Hp->Bool->Prop:=λHs H k=>∀Ql H',bg Hs H Ql H'->Q k H'
abbrev kP(Q:VK):Hp->Hp->PV->Prop:=λHs H p=>eU Hs H Q p
abbrev KL(Q:List V->Hp->Prop):Hp->Hp->List PV->Prop:=λHs H ps=>∀vs Ql H',bg Hs H Ql H'->aL Ql ps vs->Q vs H'
theorem KB.g{Q:Bool->Hp->Prop}:KG (KB Q):=λHs H Ql H' b k g Qx H2 g2=>k Qx H2 (g.trans g2)
theorem kP.g{Q:VK}:KG (kP Q):=λHs H Ql H' b k g w Qx H2 g2 r=>k w Qx H2 (g.trans g2) r
theorem KL.g{Q:List V->Hp->Prop}:KG (KL Q):=λHs H Ql H' b k g w Qx H2 g2 r=>k w Qx H2 (g.trans g2) r
def tT(E:St->XK)(f:af->M Bool):TT:=fun σ H Q=>tG E f (KB Q) σ H
def tL(E:St->XK)(f:af->M (List PV)):TA:=fun σ H Q=>tG E f (KL Q) σ H
def PT.imp{t t':TT}(h:PT X e t)(i:∀σ H Q,t' σ H Q->t σ H Q):PT X e t':=λQg s σ H Q I q=>h Qg s σ H Q I (i σ H Q q)
def PW.imp{t t':TT}(h:PW X e t)(i:∀σ H Q,t' σ H Q->t σ H Q):PW X e t':=λw Qg s σ H Q I q=>h w Qg s σ H Q I (i σ H Q q)
def PA.imp{e:List Expr}{t t':TA}(h:PA X e t)(i:∀σ H Q,t' σ H Q->t σ H Q):PA X e t':=λw Qg s σ H Q I q=>h w Qg s σ H Q I (i σ H Q q)
section
variable{β:Type}{K:Hp->Hp->β->Prop}
def cw{f:af->M PV}{g:af->PV->M β}{R:VK}(kg:KG K)(h:tG E (λenv=>(f env).bind (g env)) K σ H)(k:∀B H₀ Hs H1 env p v,SR B H₀ Hs H1 σ env->Rep Hs p v->ao (g env p) (K Hs H1) (XW (E σ) Hs H1)->R v H1):tE E f σ H R:=by
 obtain⟨B,H₀,Hs,env,sr,h⟩:=h;refine⟨B,H₀,Hs,env,sr,(ao.bind h).imp (λp hp v Ql H' g r=>?_) λe he=>he⟩;exact k B H₀ Ql H' env p v (sr.grow g) r (hp.imp (λq hq=>kg _ _ _ _ q hq g) λe he=>he.grow g)
def ma{f:af->M Bool}{g:af->Bool->M β}{R:Bool->Hp->Prop}(kg:KG K)(h:tG E (λenv=>(f env).bind (g env)) K σ H)(k:∀B H₀ Hs H1 env p,SR B H₀ Hs H1 σ env->ao (g env p) (K Hs H1) (XW (E σ) Hs H1)->R p H1):tT E f σ H R:=by
 obtain⟨B,H₀,Hs,env,sr,h⟩:=h;refine⟨B,H₀,Hs,env,sr,(ao.bind h).imp (λp hp Ql H' g=>?_) λe he=>he⟩;exact k B H₀ Ql H' env p (sr.grow g) (hp.imp (λq hq=>kg _ _ _ _ q hq g) λe he=>he.grow g)
def cP{f:af->M (List PV)}{g:af->List PV->M β}{R:List V->Hp->Prop}(kg:KG K)(h:tG E (λenv=>(f env).bind (g env)) K σ H)(k:∀B H₀ Hs H1 env p v,SR B H₀ Hs H1 σ env->aL Hs p v->ao (g env p) (K Hs H1) (XW (E σ) Hs H1)->R v H1):tL E f σ H R:=by
 obtain⟨B,H₀,Hs,env,sr,h⟩:=h;refine⟨B,H₀,Hs,env,sr,(ao.bind h).imp (λp hp v Ql H' g r=>?_) λe he=>he⟩;exact k B H₀ Ql H' env p v (sr.grow g) r (hp.imp (λq hq=>kg _ _ _ _ q hq g) λe he=>he.grow g)
end
def xn:PV->M Bool
 | .bl b=>M.ok b
 |_=>none
def fL(f:af->M PV):af->M Bool:=λenv=>(f env).bind xn
def ao.NF{Q:Bool->Prop}{E:EX->Prop}(h:ao (xn p) Q E):∃b,p=.bl b/\Q b:=by
 cases p with
 | bl b=>exact⟨b,rfl,h⟩
 |_=>exact h.elim
variable{r:List V->Hp->VK->Prop}
section
variable{a b:Expr}{pos:Pos}{f g h:af->M PV}{u v:af->M Bool}{rest:List Expr}
def pC{Q:Bool->Hp->Prop}(q:tT E (fL f) σ H Q):tB (tE E f) σ H Q:=by
 refine cw KB.g q λB H₀ Hs H1 env p v sr rp hp=>?_;obtain⟨k,rfl,hp⟩:=ao.NF hp;cases rp;exact⟨k,rfl,hp Hs H1 (.refl sr.gr.sub)⟩
def tY(he:PE X e (tE E f))(hw:autoParam (∀whole,isTrue e X.env whole=(do let v <- whole;standAt e.pos;holding [v] (truthy v))) aI._auto_1):PT X e (tT E (fL f)) :=
 (IJ he hw).imp fun σ H Q q=>pC q
def ly{r:R2}{o:PV->PV->M PV}(ho:gQ X (compareOp op) r)(hv:mU E r o)(ha:PE X a (tE E f))(hb:PE X b (tE E g))(hm:behindInMarks op b=false):PT X (.Compare a [op] [b] pos) (tT E (fL (ai o f g))):=by
 refine(yF ho ha hb hm).imp fun σ H Q q=>?_;have q':=pC q;exact yT q' λHs H1 p q v u s rp rq h=>hv σ Hs H1 p q v u _ s rp rq h
def om(u:af->M Bool):af->M Bool:=λenv=>(u env).bind λb=>M.ok (!b)
def IL(u v:af->M Bool):af->M Bool:=λenv=>(u env).bind λb=>if b=true then v env else M.ok false
def LH(u v:af->M Bool):af->M Bool:=λenv=>(u env).bind λb=>if b=true then M.ok true else v env
def J_(ha:PT X a (tT E u)):PT X (.UnaryOp .Not a pos) (tT E (om u)) :=
 (ID ha).imp fun σ H Q q=>ma KB.g q λB H₀ Hs H1 env p sr hp=>hp Hs H1 (.refl sr.gr.sub)
def Ft(ha:PT X a (tT E u)):PW X (.BoolOp .And [a] pos) (tT E u):=pw_and1 ha
def tU(ha:PT X a (tT E u)):PW X (.BoolOp .Or [a] pos) (tT E u):=pw_or1 ha
def J7(ha:PT X a (tT E u))(hb:PW X (.BoolOp .And (b::rest) pos) (tT E v)):PW X (.BoolOp .And (a::b::rest) pos) (tT E (IL u v)):=by
 refine(pw_and ha hb).imp fun σ H Q q=>ma KB.g q λB H₀ Hs H1 env p sr hp=>?_;cases p with
 | true=>exact⟨B,H₀,Hs,env,sr,hp⟩
 |false=>exact hp Hs H1 (.refl sr.gr.sub)
def yH(ha:PT X a (tT E u))(hb:PW X (.BoolOp .Or (b::rest) pos) (tT E v)):PW X (.BoolOp .Or (a::b::rest) pos) (tT E (LH u v)):=by
 refine(pw_or ha hb).imp fun σ H Q q=>ma KB.g q λB H₀ Hs H1 env p sr hp=>?_;cases p with
 | true=>exact hp Hs H1 (.refl sr.gr.sub)
 |false=>exact⟨B,H₀,Hs,env,sr,hp⟩
def Lr(f:af->M PV):af->M PV:=λenv=>(f env).bind λp=>(xn p).bind λb=>M.ok (.bl (!b))
def G4(f g:af->M PV):af->M PV:=λenv=>(f env).bind λp=>(xn p).bind λb=>if b=true then g env else M.ok (.bl false)
def PD(f g:af->M PV):af->M PV:=λenv=>(f env).bind λp=>(xn p).bind λb=>if b=true then M.ok (.bl true) else g env
def Ip(ha:PE X a (tE E f)):PE X (.UnaryOp .Not a pos) (tE E (Lr f)):=by
 refine(Iq ha).imp fun σ H Q q=>cw (K:=kP Q) kP.g q λB H₀ Hs H1 env p v sr rp hp=>?_;obtain⟨k,rfl,hp⟩:=ao.NF (ao.bind hp);cases rp;exact⟨k,rfl,eU.flat hp sr.gr.sub (.bl _)⟩
def Bs(ha:PE X a (tE E f))(hb:PE X (.BoolOp .And (b::rest) pos) (tE E g)):PE X (.BoolOp .And (a::b::rest) pos) (tE E (G4 f g)):=by
 refine(Ky ha hb).imp fun σ H Q q=>cw (K:=kP Q) kP.g q λB H₀ Hs H1 env p v sr rp hp=>?_;obtain⟨k,rfl,hp⟩:=ao.NF (ao.bind hp);cases rp;refine⟨k,rfl,?_⟩;cases k with
 | true=>exact⟨B,H₀,Hs,env,sr,hp⟩
 |false=>exact eU.flat hp sr.gr.sub (.bl _)
def AN(u:af->M Bool)(f g:af->M PV):af->M PV:=λenv=>(u env).bind λb=>if b=true then f env else g env
def IX(hc:PT X c (tT E u))(ha:PE X a (tE E f))(hb:PE X b (tE E g)):PE X (.IfExp c a b pos) (tE E (AN u f g)):=by
 refine(Cs hc ha hb).imp fun σ H Q q=>ma (K:=kP Q) kP.g q λB H₀ Hs H1 env p sr hp=>?_;cases p with
 | true=>exact⟨B,H₀,Hs,env,sr,hp⟩
 |false=>exact⟨B,H₀,Hs,env,sr,hp⟩
def aj:af->M (List PV):=λ_=>M.ok []
def aa(f:af->M PV)(fs:af->M (List PV)):af->M (List PV):=λenv=>(f env).bind λp=>(fs env).bind λps=>M.ok (p::ps)
variable{fs:af->M (List PV)}
def Ed:PA X [] (tL E aj):=by
 refine lE.imp fun σ H Q q=>?_;obtain⟨B,H₀,Hs,env,sr,q⟩:=q;exact q [] Hs H (.refl sr.gr.sub) .nil
def yY(ha:PE X e (tE E f))(hr:PA X es (tL E fs))(hs:autoParam ↑0 aR._auto_1):PA X (e::es) (tL E (aa f fs)):=by
 refine(fq ha hr hs).imp fun σ H Q q=>cw (K:=KL Q) KL.g q λB H₀ Hs H1 env p v sr rp hp=>?_;refine⟨B,H₀,Hs,env,sr,(ao.bind hp).imp (λps UB vs Ql H' g r=>?_) λe he=>he⟩;exact UB (v::vs) Ql H' g (.cons (rp.mono g.st) r)
def kN(fs:af->M (List PV)):af->M PV:=λenv=>(fs env).bind λps=>cQ (ps.length<=sizeLine) (M.ok (.tup ps))
def e_(fs:af->M (List PV)):af->M PV:=λenv=>(fs env).bind λps=>cQ (ps.length<=sizeLine) (M.ok (.lst ps))
def JD(hr:PA X es (tL E fs)):PE X (.Tuple es x1 pos) (tE E (kN fs)):=by
 refine(DV hr).imp fun σ H Q q=>cP (K:=kP Q) kP.g q λB H₀ Hs H1 env p v sr rp hp=>?_;obtain⟨hz,hp⟩:=ao.cQ hp;exact⟨by rwa[<- rp.length],eU.tup hp sr.gr.sub rp⟩
def Ey(hr:PA X es (tL E fs)):PE X (.List es pos) (tE E (e_ fs)):=by
 refine(Cc hr).imp fun σ H Q q=>cP (K:=kP Q) kP.g q λB H₀ Hs H1 env p v sr rp hp=>?_;obtain⟨hz,hp⟩:=ao.cQ hp;exact⟨by rwa[<- rp.length],eU.lst hp sr.gr.sub rp⟩
def ah(o:List PV->M PV)(fs:af->M (List PV)):af->M PV:=λenv=>(fs env).bind o
def nU(E:St->XK)(r:List V->Hp->VK->Prop)(o:List PV->M PV):Prop:=∀(σ:St)(Hs H:Hp)(ps:List PV)(vs:List V)(Q:VK),bf Hs H->aL Hs ps vs->ao (o ps) (eU Hs H Q) (XW (E σ) Hs H)->r vs H Q
def BA{o:List PV->M PV}{Q:VK}(hv:nU E r o)(q:tE E (ah o fs) σ H Q):NS r (tL E fs) σ H Q :=
 cP (K:=kP Q) kP.g q λB H₀ Hs H1 env p v sr rp hp=>hv σ Hs H1 p v Q sr.gr.sub rp hp
variable{p:Pos}{id T:String}
def iD{o:List PV->M PV}(hc:du X (.builtin id) r)(hv:nU E r o)(hg:Gl X x)(hm:X.mg x=none)(hx:bootBuiltins x=some (.builtin id))(ha:PA X (e::es) (tL E fs))(hn:autoParam (x ≠ "__name__") aD._auto_1)(QZ:autoParam ↑7 aD._auto_1)(he:autoParam ↑0 aR._auto_1)(QG:autoParam ↑2 aR._auto_1):PE X (.Call (.Name x p) (e::es) [] pos) (tE E (ah o fs)) :=
 (me hc hg hm hx ha hn QZ he QG).imp fun σ H Q q=>BA hv q
def An{o:List PV->M PV}(hc:du X (.type T) r)(hv:nU E r o)(hg:Gl X x)(hm:X.mg x=none)(hx:bootBuiltins x=some (.type T))(ha:PA X (e::es) (tL E fs))(hn:autoParam (x ≠ "__name__") aD._auto_1)(QZ:autoParam ↑7 aD._auto_1)(he:autoParam ↑0 aR._auto_1)(QG:autoParam ↑2 aR._auto_1):PE X (.Call (.Name x p) (e::es) [] pos) (tE E (ah o fs)) :=
 (sP hc hg hm hx ha hn QZ he QG).imp fun σ H Q q=>BA hv q
end
variable{xs:List PV}
noncomputable def bY:PV->Option (List PV)
 | .tup xs=>some xs
 | .lst xs=>some xs
 | .jN xs=>some xs
 |_=>none
def Lg{K:UU}(s:bf Hs H)(r:Rep Hs p v)(e:bY p=some xs):∃a vs,v=.ref a/\(g9 K H a vs\/gR K H a vs)/\aL Hs xs vs:=by
 cases r with
 | tup h r=>cases e;exact⟨_,_,rfl,.inr (gR.of (s _ _ h)),r⟩
 | lst h r=>cases e;exact⟨_,_,rfl,.inl (g9.of (s _ _ h)),r⟩
 | jN h r=>cases e;exact⟨_,_,rfl,.inl (.inl (.inr ⟨_,s _ _ h⟩)),r⟩
 |_=>cases e
noncomputable def tZ:PV->M PV
 | .str z=>cQ (z.length<=sizeLine) (M.ok (.int z.length))
 |p=>fW ((bY p).map λxs=>.int xs.length)
def f_:List PV->M PV
 | [p]=>tZ p
 |_=>none
def aL.one(r:aL H [p] vs):∃v,vs=[v]/\Rep H p v:=by
 cases r with
 |cons h r=>cases r;exact⟨_,rfl,h⟩
def aL.two{q:PV}(r:aL H [p,q] vs):∃v u,vs=[v,u]/\Rep H p v/\Rep H q u:=by
 cases r with
 |cons h r=>obtain⟨u,rfl,h2⟩:=r.one;exact⟨_,_,rfl,h,h2⟩
def Hf(K:UU):List V->Hp->VK->Prop:=λxs H Q=>(∃p ys,xs=[.ref p]/\(g9 K H p ys\/gR K H p ys)/\Q (.int ys.length) H)\/∃z,xs=[.str z]/\z.length<=sizeLine/\Q (.int z.length) H
def zU:du X (.builtin "len") (Hf X.K):=du.or t7 uB
def JP{K:UU}:nU E (Hf K) f_:=by
 intro σ Hs H ps vs Q s r h
 match ps,r with
 | [],_=>exact h.elim
 | _::_::_,_=>exact h.elim
 | [p],r =>
  obtain⟨v,rfl,rp⟩:=r.one;cases hp:bY p with
  | none =>
   cases p with
   | str z =>
    cases rp;obtain⟨hz,h⟩:=ao.cQ h;exact .inr ⟨z,rfl,hz,eU.flat h s (.int _)⟩
   | tup _=>cases hp
   | lst _=>cases hp
   | jN _=>cases hp
   | _=>exact h.elim
  | some xs =>
   obtain⟨a,us,rfl,hq,hx⟩:=Lg (K:=K) s rp hp;have h':ao (fW ((bY p).map λxs=>PV.int xs.length)) (eU Hs H Q) (XW (E σ) Hs H):=by
    cases p with
    | str z=>cases hp
    | _=>exact h
   rw[hp] at h';refine .inl ⟨a,us,rfl,hq,?_⟩;rw[<- hx.length];exact eU.flat h' s (.int _)
noncomputable def M3:List PV->M PV
 | [p]=>fW ((bY p).map .lst)
 |_=>none
def cC:List PV->M PV
 | [p]=>fW ((bY p).map .tup)
 |_=>none
def Er{K:UU}:nU E (λxs H Q=>∃p ys,xs=[.ref p]/\((g9 K H p ys/\∀l,H l=none->Q (.ref l) (upd H l (.tup ys)))\/(gR K H p ys/\Q (.ref p) H))) cC:=by
 intro σ Hs H ps vs Q s r h
 match ps,r with
 | [],_=>exact h.elim
 | _::_::_,_=>exact h.elim
 | [p],r =>
  obtain⟨v,rfl,rp⟩:=r.one;obtain⟨x,ex,h⟩:=ao.opt h;obtain⟨xs,hp,rfl⟩:=Vo.mp ex;cases rp with
  | tup ha hx=>cases hp;exact⟨_,_,rfl,.inr ⟨gR.of (s _ _ ha),eU.flat h s (.tup ha hx)⟩⟩
  | lst ha hx=>cases hp;exact⟨_,_,rfl,.inl ⟨g9.of (s _ _ ha),eU.tup h s hx⟩⟩
  | jN ha hx=>cases hp;exact⟨_,_,rfl,.inl ⟨.inl (.inr ⟨_,s _ _ ha⟩),eU.tup h s hx⟩⟩
  |_=>cases hp
noncomputable def qj:List PV->Option (List Int)
 | []=>some []
 | .int i::r=>(qj r).map (i::·)
 |_=>none
noncomputable def BW:List PV->Option (List Bool)
 | []=>some []
 | .bl i::r=>(BW r).map (i::·)
 |_=>none
theorem Bp:∀{ps:List PV}{ns:List Bool},BW ps=some ns->ps=ns.map PV.bl
 | [],_,e=>by cases e;rfl
 | .bl i::r,_,e=>by
  obtain⟨ms,h1,rfl⟩:=Vo.mp e;rw[Bp h1];rfl
theorem tw:∀(ns:List Int),qj (ns.map PV.int)=some ns
 | []=>rfl
 |n::r=>by show (qj (r.map PV.int)).map (n::·)=_;rw[tw r];rfl
theorem vJ:∀(ns:List Bool),BW (ns.map PV.bl)=some ns
 | []=>rfl
 |n::r=>by show (BW (r.map PV.bl)).map (n::·)=_;rw[vJ r];rfl
noncomputable def all1:PV->M PV
 | .lst xs=>fW ((BW xs).map λns=>.bl (ns.all id))
 |_=>none
def vq:List PV->M PV
 | [p]=>all1 p
 |_=>none
def K1{K:UU}:nU E (λxs H Q=>∃(a:Addr)(bs:List Bool),xs=[.ref a]/\g9 K H a (bs.map V.bl)/\Q (.bl (bs.all id)) H) vq:=by
 intro σ Hs H ps vs Q s r h
 match ps,r with
 | [],_=>exact h.elim
 | _::_::_,_=>exact h.elim
 | [p],r =>
  obtain⟨v,rfl,rp⟩:=r.one;cases rp with
  | lst ha hx =>
   obtain⟨x,ex,h⟩:=ao.opt h;obtain⟨ns,hn,rfl⟩:=Vo.mp ex;rw[Bp hn] at hx;exact⟨_,ns,rfl,hx.Pu▸g9.of (s _ _ ha),eU.flat h s (.bl _)⟩
  |_=>exact h.elim
noncomputable def Oq(o:Int->Int->Int):PV->PV->M PV
 | .int i,.int j=>M.ok (.int (o i j))
 |_,_=>none
noncomputable def tq(o:Int->Int->Int):List PV->M PV
 | [p,q]=>Oq o p q
 |_=>none
def uM{o:Int->Int->Int}:nU E (λxs H Q=>∃i j,xs=[.int i,.int j]/\Q (.int (o i j)) H) (tq o):=by
 intro σ Hs H ps vs Q s r h
 match ps,r with
 | [],_=>exact h.elim
 | [_],_=>exact h.elim
 | _::_::_::_,_=>exact h.elim
 | [p,q],r =>
  obtain⟨v,u,rfl,rp,rq⟩:=r.two;cases rp with
  | int i=>cases rq with
   | int j=>exact⟨i,j,rfl,eU.flat h s (.int _)⟩
   | _=>exact h.elim
  |_=>exact h.elim
def eh(n:Nat)(sem:List PV->M PV):Sp:=λvs H Q E=>vs.length=n/\∃Hs ps,bf Hs H/\aL Hs ps vs/\ao (sem ps) (eU Hs H Q) (XW E Hs H)
variable{RQ:List PV}
section
variable{sem:List PV->M PV}{p pos:Pos}{o:Expr}{fs:af->M (List PV)}{g:af->M PV}
def GD(F:aV X.prog X.w X.K X.mg X.base (bQ X.prog X.w) k f fd ps (eh n sem))(hr:bO k X.A)(hg:Gl X x)(hm:X.mg x=some (.ref f))(hk:V4 X.K (.ref f)=true)(hb:Binds X.K fd ps ds)(hd:Vals Q0 ds)(hdp:∀H,aL H RQ Q0)(O:eg X E)(hl:∀ps,sem (ps++RQ)≠none->ps.length+RQ.length=n)(ha:PA X (e::es) (tL E fs))(QZ:autoParam ↑7 aD._auto_1)(he:autoParam ↑0 aR._auto_1)(QG:autoParam ↑2 aR._auto_1):PE X (.Call (.Name x p) (e::es) [] pos) (tE E (ah (λps=>sem (ps++RQ)) fs)):=by
 refine(wx F hr hg hm hk hb hd O ha QZ he QG).imp fun σ H Q q=>cP (K:=kP Q) kP.g q λB H₀ Hs H1 env RH v sr rp hp=>?_;have r2:aL Hs (RH++RQ) (v++Q0):=rp.append (hdp Hs);have hn:sem (RH++RQ)≠none:=λz=>by rwa[z] at hp
 refine⟨?_,Hs,RH++RQ,sr.gr.sub,r2,hp⟩;rw[<- r2.length,Vb];exact hl RH hn
def iA(ok:Addr->Bool)(f:Str)(g:af->M PV):af->M PV:=λenv=>(g env).bind λp=>match p with
 | .obj C fs=>cQ (ok C=true) (fW (fs.lookup f))
 |_=>none
def Ig{ok:Addr->Bool}{fl:Str}(he:PE X e (tE E g))(bq:∀C,ok C=true->mF X.K C/\bR X.K C fl)(hb:attributeBase e fl X.env (eval e X.env)=eval e X.env):PE X (.Attribute e fl pos) (tE E (iA ok fl g)):=by
 refine(Ji he hb).imp fun σ H Q q=>cw (K:=kP Q) kP.g q λB H₀ Hs H1 env p v sr rp hp=>?_;cases rp with
 | obj ha hx =>
  obtain⟨hc,hp⟩:=ao.cQ hp;obtain⟨x,ex,hp⟩:=ao.opt hp;obtain⟨u,h1,h2⟩:=hx.look ex;exact⟨_,_,_,_,u,rfl,sr.gr.sub _ _ ha,(bq _ hc).1,(bq _ hc).2,h1,eU.flat hp sr.gr.sub h2⟩
 |_=>exact hp.elim
def cM(C:Addr)(m:Str)(sem:List PV->M PV)(g:af->M PV)(fs:af->M (List PV)):af->M PV:=λenv=>(g env).bind λp=>match p with
 | .obj C' fl=>cQ (C'=C/\fl.lookup m=none) ((fs env).bind λps=>sem (.obj C' fl::ps))
 |_=>none
def E_(he:PE X o (tE E g))(c:mF X.K C)(hm:Meth X.K C m f)(F:aV X.prog X.w X.K X.mg X.base (bQ X.prog X.w) k f fd ps (eh n sem))(hr:bO k X.A)(hb:Binds X.K fd ps [])(O:eg X E)(hl:∀ps,sem ps≠none->ps.length=n)(ha:PA X (e::es) (tL E fs))
  (QO:autoParam ↑0 aR._auto_1) (QG:autoParam ↑2 aR._auto_1)
  (ht:autoParam (eval (.Call (.Attribute o m apos) (e::es) [] pos) X.env=(do
   let ov <- eval o X.env
   standAt apos.atName
   let (f,first) <- holding [ov] (getMethod ov m pl)
   callWith pos f first (backTo pos (starEach (e::es) X.env)) (backToKw pos (keywordEach [] X.env)))) aR._auto_1) :
  PE X (.Call (.Attribute o m apos) (e::es) [] pos) (tE E (cM C m sem g fs)):=by
 refine(DX he c hm F hr hb .nil O ha QO QG ht).imp fun σ H Q q=>cw (K:=kP Q) kP.g q λB H₀ Hs H1 env p v sr rp hp=>?_;cases rp with
 | @obj a C' dx fl fvs ho hx =>
  obtain⟨⟨e1,hn⟩,A7⟩:=ao.cQ hp;subst e1;refine⟨a,dx,fvs,rfl,sr.gr.sub _ _ ho,hx.none hn,B,H₀,Hs,env,sr,(ao.bind A7).imp (λRH UB vs Ql H' g' r=>?_) λe he=>he⟩;have r2:aL Ql (.obj C' fl::RH) (V.ref a::(vs++[])):=by rw[VT];exact .cons ((Rep.obj ho hx).mono g'.st) r
  have hn:sem (.obj C' fl::RH)≠none:=λz=>by rwa[z] at UB
  refine⟨by rw[<- r2.length];exact hl _ hn,Ql,_,g'.sub,r2,UB.imp (λz hz w Qx H2 g2 r2=>hz w Qx H2 (g'.trans g2) r2) λe he=>he.grow g'⟩
 |_=>exact hp.elim
def EM(he:PE X o (tE E g))(c:mF X.K C)(hm:Meth X.K C m f)(F:aV X.prog X.w X.K X.mg X.base (bQ X.prog X.w) k f fd ps (eh n sem))(hr:bO k X.A)(hb:Binds X.K fd ps [])(O:eg X E)(hl:∀ps,sem ps≠none->ps.length=n)
  (ht:autoParam (eval (.Call (.Attribute o m apos) [] [] pos) X.env=(do
   let ov <- eval o X.env
   standAt apos.atName
   let (f,first) <- holding [ov] (getMethod ov m pl)
   callWith pos f first (backTo pos (starEach [] X.env)) (backToKw pos (keywordEach [] X.env)))) aR._auto_1) :
  PE X (.Call (.Attribute o m apos) [] [] pos) (tE E (cM C m sem g aj)):=by
 refine(Ax he c hm F hr hb .nil O ht).imp fun σ H Q q=>cw (K:=kP Q) kP.g q λB H₀ Hs H1 env p v sr rp hp=>?_;cases rp with
 | @obj a C' dx fl fvs ho hx =>
  obtain⟨⟨e1,hn⟩,A7⟩:=ao.cQ hp;subst e1;have r2:aL Hs [.obj C' fl] [V.ref a]:=.cons (Rep.obj ho hx) .nil;have Uy:sem [.obj C' fl]≠none:=λz=>by
   have Tg:ao (sem [.obj C' fl]) (eU Hs H1 Q) (XW (E σ) Hs H1):=A7;rwa[z] at Tg
  exact⟨a,dx,fvs,rfl,sr.gr.sub _ _ ho,hx.none hn,by rw[show ([]:List V)++[]=[] from rfl];exact r2.length▸hl _ Uy,Hs,_,sr.gr.sub,r2,A7⟩
 |_=>exact hp.elim
end
inductive Out where
 |nx (env:af)|rt (p:PV)|bk (env:af)|ct (env:af)
def KS(D:Ends)(B H₀:Hp):Out->Prop
 | .nx env=>∀σ Hs H,SR B H₀ Hs H σ env->D.nx σ H
 | .rt p=>∀v Hs H,bg B H₀ Hs H->Rep Hs p v->D.rt v H
 | .bk env=>∀σ Hs H,SR B H₀ Hs H σ env->D.bk σ H
 |.ct env=>∀σ Hs H,SR B H₀ Hs H σ env->D.ct σ H
def tS(E:XK)(f:af->M Out):TS:=λD σ H=>∃B H₀ Hs env,SR B H₀ Hs H σ env/\ao (f env) (KS D B H₀) (XW E B H₀)
def PS.imp{st:Stmt}{t t':TS}(h:PS X st t)(i:∀D σ H,t' D σ H->t D σ H):PS X st t':=λQg s σ H D I q=>h Qg s σ H D I (i D σ H q)
def jE.imp{st:List Stmt}{t t':TS}(h:jE X st t)(i:∀D σ H,t' D σ H->t D σ H):jE X st t':=λQg s σ H D I q=>h Qg s σ H D I (i D σ H q)
def ar:af->M Out:=λenv=>M.ok (.nx env)
def De(g:af->M Out):Out->M Out
 | .nx env=>g env
 |o=>M.ok o
noncomputable def ak(f g:af->M Out):af->M Out:=λenv=>(f env).bind (De g)
def iH{E:XK}{f:af->M PV}{g:af->PV->M Out}{D:Ends}{R:VK}(h:tS E (λenv=>(f env).bind (g env)) D σ H)(k:∀B H₀ Hs H1 env p v,SR B H₀ Hs H1 σ env->Rep Hs p v->ao (g env p) (KS D B H₀) (XW E B H₀)->R v H1):tE (λ_=>E) f σ H R:=by
 obtain⟨B,H₀,Hs,env,sr,h⟩:=h;refine⟨B,H₀,Hs,env,sr,(ao.bind h).imp (λp hp v Ql H' g r=>?_) λe he=>he.grow sr.gr⟩;exact k B H₀ Ql H' env p v (sr.grow g) r hp
def Ec{E:XK}{f:af->M Bool}{g:af->Bool->M Out}{D:Ends}{R:Bool->Hp->Prop}(h:tS E (λenv=>(f env).bind (g env)) D σ H)(k:∀B H₀ Hs H1 env p,SR B H₀ Hs H1 σ env->ao (g env p) (KS D B H₀) (XW E B H₀)->R p H1):tT (λ_=>E) f σ H R:=by
 obtain⟨B,H₀,Hs,env,sr,h⟩:=h;refine⟨B,H₀,Hs,env,sr,(ao.bind h).imp (λp hp Ql H' g=>?_) λe he=>he.grow sr.gr⟩;exact k B H₀ Ql H' env p (sr.grow g) hp
def wm{E:XK}{f:af->M (List PV)}{g:af->List PV->M Out}{D:Ends}{R:List V->Hp->Prop}(h:tS E (λenv=>(f env).bind (g env)) D σ H)(k:∀B H₀ Hs H1 env p v,SR B H₀ Hs H1 σ env->aL Hs p v->ao (g env p) (KS D B H₀) (XW E B H₀)->R v H1):tL (λ_=>E) f σ H R:=by
 obtain⟨B,H₀,Hs,env,sr,h⟩:=h;refine⟨B,H₀,Hs,env,sr,(ao.bind h).imp (λp hp v Ql H' g r=>?_) λe he=>he.grow sr.gr⟩;exact k B H₀ Ql H' env p v (sr.grow g) r hp
theorem SR.set{B H₀ Hs H:Hp}{σ:St}{env:af}{p:PV}{v:V}{i:Nat}(r:SR B H₀ Hs H σ env)(h:Rep Hs p v):SR B H₀ Hs H (σ.set i (some v)) (env.set i (some (.sh p))) :=
 r.chg r.gr (λ_ _ q=>q) (λ_ e=>by cases e;exact⟨v,rfl,h⟩) (λ_ _ _ _ _ _ _ _ h1 h2 _=>⟨h1,h2⟩) λ_ e o=>by cases e;cases o
def SR.own{B:Hp}{env:af}{p:Addr}(r:SR B H₀ Hs H σ env)(h:aL Hs xs vs)(n:H p=none):SR B H₀ Hs (upd H p (.lst vs)) (σ.set i (some (.ref p))) (env.set i (some (.ow xs))) :=
 r.chg (r.gr.jP (r.free n).1 (r.free n).2) (λ_ _ q=>q) (λ_ e=>by cases e;exact⟨_,rfl,p,vs,rfl,av,(r.free n).1,(r.free n).2,h⟩) (λ_ _ a u _ _ _ _ h1 h2 _=>⟨by rwa[au (λz=>by rw[z,n] at h1;cases h1)],h2⟩) λ_ _ _ k z _=>r.held n k z
noncomputable def nX(i:Nat)(env:af):af:=match env[i]? with
 | some (some (.ow xs))=>env.set i (some (.sh (.lst xs)))
 |_=>env
def SR.Ni{B:Hp}{env:af}(r:SR B H₀ Hs H σ env)(e:env[i]?=some (some (.ow xs))):∃a vs,Hs a=none/\H a=some (.lst vs)/\SR B H₀ (upd Hs a (.lst vs)) H σ (env.set i (some (.sh (.lst xs))))/\bf Hs (upd Hs a (.lst vs)):=by
 obtain⟨a,vs,h1,h2,h3,h4,h5⟩:=r.ow i xs e;obtain⟨g,st⟩:=r.gr.into h2 h3 h4;refine⟨a,vs,h3,h2,r.BD h1 g st (λ_ q=>by cases q;exact⟨_,rfl,.lst av (h5.mono st)⟩) (λj y b u n ej o z q1 q2 _=>⟨q1,by rwa[au (λw=>by subst w;exact r.ap i j _ y b n e ej rfl o h1 z)]⟩) λ_ q o=>(by cases q;cases o),st⟩
def SR.kX{B:Hp}{env:af}(i:Nat)(r:SR B H₀ Hs H σ env):∃Ql,SR B H₀ Ql H σ (nX i env)/\bf Hs Ql:=by
 unfold nX
 split
 .obtain⟨a,vs,_,_,h⟩:=r.Ni (by assumption);exact⟨_,h⟩
 .exact⟨Hs,r,λ_ _ q=>q⟩
def m_(is:List Nat)(f:af->M Out):af->M Out:=λenv=>f (is.foldl (λe i=>nX i e) env)
theorem SR.lJ{B H₀ H:Hp}{σ:St}:∀{is:List Nat}{Hs:Hp}{env:af},SR B H₀ Hs H σ env->∃Ql,SR B H₀ Ql H σ (is.foldl (λe i=>nX i e) env)/\bf Hs Ql
 | [],Hs,_,r=>⟨Hs,r,λ_ _ q=>q⟩
 | i::is,_,_,r=>by
  obtain⟨Qw,r1,s1⟩:=r.kX i;obtain⟨Qx,r2,s2⟩:=SR.lJ (is:=is) r1;exact⟨Qx,r2,λc u q=>s2 c u (s1 c u q)⟩
section
variable{E:XK}{pos:Pos}{f:af->M PV}{st:Stmt}{sts rest:List Stmt}{u:af->M Bool}{g h:af->M Out}
def Kv(is:List Nat)(hs:PS X st (tS E g)):PS X st (tS E (m_ is g)):=hs.imp λD σ H q=>by
 obtain⟨B,H₀,Hs,env,sr,q⟩:=q;obtain⟨Ql,r,_⟩:=sr.lJ (is:=is);exact⟨B,H₀,Ql,_,r,q⟩
def FH:jE X [] (tS E ar):=zc.imp λD σ H q=>by
 obtain⟨B,H₀,Hs,env,sr,q⟩:=q;exact q σ Hs H sr
def Cb(h1:PS X st (tS E g))(h2:jE X rest (tS E h)):jE X (st::rest) (tS E (ak g h)):=by
 refine(pK h1 h2).imp λD σ H q=>?_;obtain⟨B,H₀,Hs,env,sr,q⟩:=q;refine⟨B,H₀,Hs,env,sr,(ao.bind q).imp (λo ho=>?_) λe he=>he⟩;cases o with
 | nx Qj=>exact fun σ' Ql H' Ru=>⟨B,H₀,Ql,Qj,Ru,ho⟩
 | rt p=>exact ho
 | bk Qj=>exact ho
 |ct Qj=>exact ho
def ba(i:Nat)(f:af->M PV):af->M Out:=λenv=>(f env).bind λp=>M.ok (.nx (env.set i (some (.sh p))))
def Jn(hN:X.N.Nodup)(hi:X.N[i]?=some x)(hx:Loc X.env.scope x)(he:PE X e (tE (λ_=>E) f))(hs:autoParam (swapsWith e (some (.Name x pos')) pos.line X.env=pure false) aR._auto_1)(hf:autoParam ↑1 aF._auto_1):PS X (.Assign [.Name x pos'] e pos) (tS E (ba i f)) :=
 (xB hN hi hx he hs hf).imp λD σ H q=>iH q λB H₀ Hs H1 env p v sr rp hp=>hp _ Hs H1 (sr.set rp)
def retS(f:af->M PV):af->M Out:=λenv=>(f env).bind λp=>M.ok (.rt p)
def Ic(he:PE X e (tE (λ_=>E) f)):PS X (.Return (some e) pos) (tS E (retS f)) :=
 (Dr he).imp λD σ H q=>iH q λB H₀ Hs H1 env p v sr rp hp=>hp v Hs H1 sr.gr rp
def l4(f:af->M PV):af->M Out:=λenv=>(f env).bind λ_=>M.ok (.nx env)
def Ge(he:PE X e (tE (λ_=>E) f))(hs:autoParam (swapsWith e none pos.line X.env=pure false) aR._auto_1):PS X (.Expr e pos) (tS E (l4 f)) :=
 (lO he hs).imp λD σ H q=>iH q λB H₀ Hs H1 env p v sr rp hp=>hp σ Hs H1 sr
def mM(u:af->M Bool)(g h:af->M Out):af->M Out:=λenv=>(u env).bind λb=>if b=true then g env else h env
def M9{a b:List Stmt}(hc:PT X c (tT (λ_=>E) u))(ha:jE X a (tS E g))(hb:jE X b (tS E h)):PS X (.If c a b pos) (tS E (mM u g h)):=by
 refine(Nl hc ha hb).imp λD σ H q=>Ec q λB H₀ Hs H1 env p sr hp=>?_;cases p with
 | true=>exact⟨B,H₀,Hs,env,sr,hp⟩
 |false=>exact⟨B,H₀,Hs,env,sr,hp⟩
end
def ov(Hs H₀:Hp):Hp:=λa=>match Hs a with
 | some o=>some o
 |none=>H₀ a
def uA{a:Addr}(h:Hs a=some o):ov Hs H₀ a=some o:=by unfold ov;rw[h]
def lY{a:Addr}(h:Hs a=none):ov Hs H₀ a=H₀ a:=by unfold ov;rw[h]
def G3(s:bf Hs H)(t:bf H₀ H):bf (ov Hs H₀) H:=λa o e=>by
 cases q:Hs a with
 | some o'=>rw[uA q] at e;cases e;exact s _ _ q
 |none=>rw[lY q] at e;exact t _ _ e
def SR.rebase{B:Hp}{env:af}(r:SR B H₀ Hs H σ env):SR Hs (ov Hs H₀) Hs H σ env :=
 r.mv ⟨λ_ _ e=>e,G3 r.gr.sub r.gr.al,r.gr.sub,λ_ _ e _ _=>e⟩ r.len (λ_ _ q=>q) λ_ _ e=>⟨e,rfl,λa u _ _ h1 h2 h3 _=>⟨h1,h2,by rwa[lY h2]⟩⟩
def bg.lx{B Qx H2:Hp}(g:bg B H₀ Hs H)(g2:bg Hs (ov Hs H₀) Qx H2):bg B H₀ Qx H2 where
 st:=λa o e=>g2.st a o (g.st a o e)
 al:=λa o e=>by
  cases q:Hs a with
  | some o' =>
   have h1:=g.sub a o' q;have h2:=g.al a o e;rw[h1] at h2;cases h2;exact g2.al a _ (uA q)
  | none=>exact g2.al a o (by rwa[lY q])
 sub:=g2.sub
 nw:=λa o e q t=>by
  have h1:=g.nw a o e q t;exact g2.nw a o h1 (by rwa[lY h1]) t
theorem SR.lx{B H₀ Hs H Qx H2:Hp}{σ:St}{env:af}(g:bg B H₀ Hs H)(r:SR Hs (ov Hs H₀) Qx H2 σ env):SR B H₀ Qx H2 σ env :=
 r.mv (g.lx r.gr) r.len (λ_ _ q=>q) λ_ _ e=>⟨e,rfl,λa u _ _ h1 h2 h4 _=>⟨h1,h2,by
  cases q:Hs a with
  | some o=>rw[uA q] at h4;cases h4
  |none=>rwa[lY q] at h4⟩⟩
def XW.rebase{E:XK}{B:Hp}(g:bg B H₀ Hs H){x:EX}(h:XW E B H₀ x):XW E Hs (ov Hs H₀) x:=λea Qx H2 r q=>h ea Qx H2 (g.lx r) q
noncomputable def Ml(k:af->M Out):Out->M Out
 | .nx env=>k env
 | .ct env=>k env
 | .bk env=>M.ok (.nx env)
 |.rt p=>M.ok (.rt p)
def jW(set:PV->af->M af)(body:af->M Out):List PV->af->M Out
 | [],env=>M.ok (.nx env)
 |x::xs,env=>(set x env).bind λQj=>(body Qj).bind (Ml (jW set body xs))
def AY(E:XK)(g:TG)(set:PV->af->M af):Prop:=∀(B H₀ Hs H:Hp)(σ:St)(env:af)(p:PV)(v:V)(Q:St->Hp->Prop)(Z:EX->Prop),SR B H₀ Hs H σ env->Rep Hs p v->ao (set p env) (λQj=>∀σ',SR B H₀ Hs H σ' Qj->Q σ' H) Z->g v σ H Q
noncomputable def bA(i:Nat)(p:PV)(env:af):M af:=M.ok (env.set i (some (.sh p)))
def a_{E:XK}:AY E (aM i) (bA i):=λB H₀ Hs H σ env p v Q Z sr r h=>h _ (sr.set r)
noncomputable def dj(i j:Nat):PV->af->M af
 | .tup [p,q],env=>M.ok ((env.set i (some (.sh p))).set j (some (.sh q)))
 |_,_=>none
def eQ{E:XK}{K:UU}:AY E (kM K 2 (bK (aM i) (bK (aM j) jY))) (dj i j):=by
 intro B H₀ Hs H σ env p v Q Z sr r h;cases r with
 | @tup a xs vs ha hx =>
  match xs,hx with
  | [p,q],hx =>
   obtain⟨v,u,rfl,rp,rq⟩:=hx.two;exact⟨a,[v,u],rfl,gR.of (sr.gr.sub _ _ ha),rfl,v,[u],rfl,u,[],rfl,rfl,h _ ((sr.set rp).set rq)⟩
  | [],_=>exact h.elim
  | [_],_=>exact h.elim
  | _::_::_::_,_=>exact h.elim
 |_=>exact h.elim
section
variable{E:XK}{g:TG}{set:PV->af->M af}{body:af->M Out}{D:Ends}{B:Hp}
def Jv(E:XK)(set:PV->af->M af)(body:af->M Out)(D:Ends)(B H₀ Qw:Hp)(xs:List PV)(i:Nat)(σ:St)(H:Hp):Prop:=∃Hs env,SR B H₀ Hs H σ env/\bf Qw Hs/\ao (jW set body (xs.drop i) env) (KS D B H₀) (XW E B H₀)
def Jv.done(j:Jv E set body D B H₀ Qw xs n σ H)(hn:xs.length<=n):D.nx σ H:=by
 obtain⟨Hs,env,sr,_,h⟩:=j;rw[X5 hn] at h;exact h σ Hs H sr
def Jv.turn{H1 Hx:Hp}{x:PV}(tg:AY E g set)(hx:xs[i]?=some x){env:af}(sr:SR B H₀ Hs H σ env)(s1:bf Qw Hs)(h:ao (jW set body (xs.drop i) env) (KS D B H₀) (XW E B H₀)){Qx H2:Hp}(gr:bg Hs H Qx H2)(rv:Rep Qx x v):g v σ H2 fun σ2 H3=>tS E body { D with nx:=Jv E set body D B H₀ Qw xs (i+1),ct:=Jv E set body D B H₀ Qw xs (i+1),bk:=D.nx } σ2 H3:=by
 have QW:i<xs.length:=(VW.mp hx).1;have hd:xs.drop i=x::xs.drop (i+1):=by
  rw[WX QW];rw[UW QW] at hx;rw[Vf hx]
 rw[hd] at h;have QN:=sr.grow gr;refine tg B H₀ Qx H2 σ env x v _ _ QN rv ((ao.bind h).imp (λQj h' σ' Ru=>?_) λ_ z=>z);refine⟨Qx,ov Qx H₀,Qx,Qj,Ru.rebase,(ao.bind h').imp (λo ho=>?_) λe he=>he.rebase Ru.gr⟩;cases o with
 | nx e2=>exact fun σ3 RU H3 r=>⟨RU,e2,r.lx Ru.gr,λa o z=>r.gr.st a o (gr.st a o (s1 a o z)),ho⟩
 | ct e2=>exact fun σ3 RU H3 r=>⟨RU,e2,r.lx Ru.gr,λa o z=>r.gr.st a o (gr.st a o (s1 a o z)),ho⟩
 | bk e2=>exact fun σ3 RU H3 r=>ho σ3 RU H3 (r.lx Ru.gr)
 |rt p=>exact λv3 RU H3 r q=>ho v3 RU H3 (Ru.gr.lx r) q
end
def gT(it:af->M (List PV))(set:PV->af->M af)(body:af->M Out):af->M Out:=λenv=>(it env).bind λxs=>jW set body xs env
def itemsOf(f:af->M PV):af->M (List PV):=λenv=>(f env).bind λp=>match bY p with|some xs=>M.ok xs|none=>none
def kj{K:UU}(s:bf Hs H)(r:Rep Hs p v)(e:bY p=some xs):∃b a vs,v=.ref a/\(∀Ql H',bf Hs Ql->bf Ql H'->kR K H' b a vs)/\aL Hs xs vs:=by
 cases r with
 | tup h r=>cases e;exact⟨false,_,_,rfl,λQl H' s1 s2=>gR.of (s2 _ _ (s1 _ _ h)),r⟩
 | lst h r=>cases e;exact⟨true,_,_,rfl,λQl H' s1 s2=>g9.of (s2 _ _ (s1 _ _ h)),r⟩
 | jN h r=>cases e;exact⟨true,_,_,rfl,λQl H' s1 s2=>.inl (.inr ⟨_,s2 _ _ (s1 _ _ h)⟩),r⟩
 |_=>cases e
section
variable{E:XK}{pos p:Pos}{f f2:af->M PV}{g:TG}{set:PV->af->M af}{body:af->M Out}{bd:List Stmt}
end
noncomputable def OH:PV->M (List PV)
 | .int n=>cQ (-(2^62)<=n/\n<2^62) (M.ok ((Vc n.toNat).map λ(i:Nat)=>.int (0+(i:Int))))
 |_=>none
noncomputable def Oa:PV->PV->M (List PV)
 | .int a,.int b=>cQ (-(2^62)<=a/\a<2^62/\-(2^62)<=b/\b<2^62) (M.ok ((Vc (b-a).toNat).map λ(i:Nat)=>.int (a+(i:Int))))
 |_,_=>none
def jq:List PV->M (List PV)
 | [p]=>OH p
 |_=>none
noncomputable def wo:List PV->M (List PV)
 | [p,q]=>Oa p q
 |_=>none
variable{Z:EX->Prop}
def Aq{ps:List PV}{k:List PV->M α}{Q:α->Prop}(h:ao ((jq ps).bind k) Q Z):∃n:Int,ps=[.int n]/\-(2^62)<=n/\n<2^62/\ao (k ((Vc n.toNat).map λ(i:Nat)=>.int (0+(i:Int)))) Q Z:=by
 match ps with
 | []=>exact h.elim
 | _::_::_=>exact h.elim
 | [p] =>
  cases p with
  | int n =>
   obtain⟨hc,h⟩:=ao.cQ (ao.bind h);exact⟨n,rfl,hc.1,hc.2,h⟩
  |_=>exact h.elim
def As{ps:List PV}{k:List PV->M α}{Q:α->Prop}(h:ao ((wo ps).bind k) Q Z):∃a b:Int,ps=[.int a,.int b]/\(-(2^62)<=a/\a<2^62/\-(2^62)<=b/\b<2^62)/\ao (k ((Vc (b-a).toNat).map λ(i:Nat)=>.int (a+(i:Int)))) Q Z:=by
 match ps with
 | []=>exact h.elim
 | [_]=>exact h.elim
 | _::_::_::_=>exact h.elim
 | [p,q] =>
  cases p with
  | int a=>cases q with
   | int b =>
    obtain⟨hc,h⟩:=ao.cQ (ao.bind h);exact⟨a,b,rfl,hc,h⟩
   | _=>exact h.elim
  |_=>exact h.elim
noncomputable def zip2:List PV->M (List PV)
 | [p,q]=>match bY p,bY q with
  | some xs,some ys=>M.ok (aaM (λa b=>.tup [a,b]) xs ys)
  | _,_=>none
 |_=>none
def Aj{ps:List PV}{k:List PV->M α}{Q:α->Prop}(h:ao ((zip2 ps).bind k) Q Z):∃p q xs ys,ps=[p,q]/\bY p=some xs/\bY q=some ys/\ao (k (aaM (λa b=>.tup [a,b]) xs ys)) Q Z:=by
 match ps with
 | []=>exact h.elim
 | [_]=>exact h.elim
 | _::_::_::_=>exact h.elim
 | [p,q] =>
  unfold zip2 at h;dsimp only at h;cases e1:bY p with
  | none=>rw[e1] at h;exact h.elim
  | some xs =>
   cases e2:bY q with
   | none=>rw[e1,e2] at h;exact h.elim
   |some ys=>rw[e1,e2] at h;exact⟨p,q,xs,ys,rfl,e1,e2,h⟩
def Ag{f:Nat->PV}(h:i<n):((Vc n).map f)[i]?=some (f i):=by
 rw[Vu,WT h];rfl
section
variable{E:XK}{a b l l1 l2:Expr}{pos p tp:Pos}{fs:af->M (List PV)}{g:TG}{set:PV->af->M af}{body:af->M Out}{bd:List Stmt}
end
def KO(Q:VK):Hp->Hp->List PV->Prop:=λHs H ps=>∀vs p Ql H',bg Hs H Ql H'->aL Ql ps vs->H' p=none->Q (.ref p) (upd H' p (.lst vs))
def tO(E:St->XK)(f:af->M (List PV)):TE:=fun σ H Q=>tG E f (KO Q) σ H
section
variable{E:XK}{pos:Pos}{fs:af->M (List PV)}{f:af->M PV}
def lW(i:Nat)(f:af->M (List PV)):af->M Out:=λenv=>(f env).bind λps=>M.ok (.nx (env.set i (some (.ow ps))))
def Gr(hN:X.N.Nodup)(hi:X.N[i]?=some x)(hx:Loc X.env.scope x)(he:PE X e (tO (λ_=>E) fs))(hs:autoParam (swapsWith e (some (.Name x pos')) pos.line X.env=pure false) aR._auto_1)(hf:autoParam ↑1 aF._auto_1):PS X (.Assign [.Name x pos'] e pos) (tS E (lW i fs)):=by
 refine(xB hN hi hx he hs hf).imp λD σ H q=>?_;obtain⟨B,H₀,Hs,env,sr,q⟩:=q;refine⟨B,H₀,Hs,env,sr,(ao.bind q).imp (λps hp vs p Ql H' g r n=>?_) λe he=>he.grow sr.gr⟩;exact hp _ Ql _ ((sr.grow g).own r n)
def fU(fs:af->M (List PV)):af->M (List PV):=λenv=>(fs env).bind λps=>if ps.length<=sizeLine then M.ok ps else none
def Ki{E:St->XK}(hr:PA X es (tL E fs)):PE X (.List es pos) (tO E (fU fs)):=by
 refine(Cc hr).imp fun σ H Q q=>?_;obtain⟨B,H₀,Hs,env,sr,q⟩:=q;refine⟨B,H₀,Hs,env,sr,(ao.bind q).imp (λps hp vs Ql H' g r=>?_) λe he=>he⟩
 by_cases hz:ps.length<=sizeLine
 .rw[if_pos hz] at hp;exact⟨by rwa[<- r.length],λp n=>hp vs p Ql H' g r n⟩
 .rw[if_neg hz] at hp;exact hp.elim
def j6(i:Nat)(f:af->M PV):af->M Out:=λenv=>match env[i]? with
 | some (some (.ow xs))=>(f env).bind λp=>if xs.length<sizeLine then M.ok (.nx (env.set i (some (.ow (xs++[p]))))) else none
 |_=>none
def SR.put{B:Hp}{env:af}{a:Addr}{ys:List PV}{us:List V}(r:SR B H₀ Hs H σ env)(e:env[i]?=some (some (.ow xs)))(hi:σ[i]?=some (some (.ref a)))(h:aL Hs ys us):SR B H₀ Hs (upd H a (.lst us)) σ (env.set i (some (.ow ys))):=by
 obtain⟨a',vs,h1,h2,h3,h4,h5⟩:=r.ow i xs e;rw[hi] at h1;cases h1;exact r.BD hi (r.gr.jP h3 h4) (λ_ _ q=>q) (λ_ q=>by cases q;exact⟨_,rfl,a,us,rfl,av,h3,h4,h⟩) (λj y b u n ej o z q1 q2 _=>⟨by rwa[au (λw=>by subst w;exact r.ap i j _ y b n e ej rfl o hi z)],q2⟩) λ_ _ _ k z n ek o=>r.ap i k _ z a n e ek rfl o hi
def AJ{px:Pos}(hi:X.N[i]?=some x)(hv:xh X.env.scope x)(he:PE X e (tE (λ_=>E) f))(hd:autoParam ↑7 aD._auto_1)(QP:autoParam ↑6 aD._auto_1)(Rb:autoParam (attributeBase (.Name x px) "append" X.env (eval (.Name x px) X.env)=eval (.Name x px) X.env) aR._auto_1)(SW:autoParam (((backTo Qu (starEach [e] X.env)).all (λx=>!x.1)&&(backToKw Qu (keywordEach [] X.env)).all (λx=>x.1.isSome) && decide (([e]:List Expr).length+([]:List Keyword).length+(if ([]:List Keyword).isEmpty then 0 else 1)<30))=true) aR._auto_1)(Rf:autoParam ((apos.endLine==Qu.line)=true) aR._auto_1)(QO:autoParam (starEach [e] X.env=(false,eval e X.env)::starEach [] X.env) aR._auto_1)(RI:autoParam ((backTo Qu (starEach [] X.env)).any (·.1)=false) aR._auto_1)(hs:autoParam (swapsWith (.Call (.Attribute (.Name x px) "append" apos) [e] [] Qu) none pos.line X.env=pure false) aR._auto_1):PS X (.Expr (.Call (.Attribute (.Name x px) "append" apos) [e] [] Qu) pos) (tS E (j6 i f)):=by
 refine(lO (HE YM PySem.F.slot_list_append PySem.F.type_list_append sq (gN hi hv hd QP) (fq he lE QO) Rb SW Rf QO RI) hs).imp λD σ H q=>?_;obtain⟨B,H₀,Hs,env,sr,q⟩:=q;unfold j6 at q
 split at q
 .rename_i xs ex;obtain⟨a,vs,h1,h2,h3,h4,h5⟩:=sr.ow i xs ex;refine⟨.ref a,h1,.inl ⟨rfl,vs,g9.of h2⟩,B,H₀,Hs,env,sr,(ao.bind q).imp (λp hp v Ql H' g r=>?_) λe he=>he.grow sr.gr⟩
  by_cases hz:xs.length<sizeLine
  .rw[if_pos hz] at hp;have Ru:=sr.grow g;have r5:aL Ql (xs++[p]) (vs++[v]):=(h5.mono g.st).snoc r;exact⟨a,vs,v,rfl,rfl,g.al _ _ h2,by rwa[<- h5.length],hp σ Ql _ (Ru.put ex h1 r5)⟩
  .rw[if_neg hz] at hp;exact hp.elim
 .exact q.elim
end
noncomputable def Kr:Out->M PV
 | .rt p=>M.ok p
 | .nx _=>M.ok .c8
 |_=>none
noncomputable def gU(m:Nat)(ps:List PV):af:=ps.map (λp=>some (.sh p))++UY (m-ps.length) none
def aH(m:Nat)(g:af->M Out)(ps:List PV):M PV:=(g (gU m ps)).bind Kr
theorem SR.start{Hs H:Hp}{N:List Str}{ps:List PV}{vs:List V}(s:bf Hs H)(r:aL Hs ps vs):SR Hs H Hs H (start N vs) (gU N.length ps):=by
 have key:∀(i:Nat)(x:SV),(gU N.length ps)[i]?=some (some x)->∃p v,x=.sh p/\(L2.start N vs)[i]?=some (some v)/\Rep Hs p v:=λi x e=>by
  unfold gU at e;unfold L2.start
  by_cases hi:i<ps.length
  .rw[VX (by simpa using hi),Vu,UW hi] at e;cases e;obtain⟨v,h1,h2⟩:=r.get (UW hi);exact⟨_,v,rfl,by rw[VX (by simpa using (r.length▸hi)),Vu,h1];rfl,h2⟩
  .rw[Vp (by simpa using hi),YJ] at e
   split at e<;>cases e
 exact⟨.refl s,by unfold L2.start gU;simp[r.length],λi x e=>by obtain⟨p,v,rfl,h⟩:=key i x e;exact⟨v,h⟩,λi j x y a _ e _ o=>by obtain⟨p,v,rfl,h⟩:=key i x e;cases o⟩
def Le{K:UU}{dV kV doc pm Qy ct oc:Value}{g:af->M Out}(lk:K.lookup f=some ⟨oc,od,.func (Wb name qual params body scope dV kV doc pm an Qy ct),Ss⟩)(QP:WN K Qy qual=true)(S:bS N ps scope)(hb:∀(A:Around)(outer:List Env)(s:Shared)(H:Hp)(E:XK),bO k (A.deeper (envOfC qual scope s.heap.objs.size f Qy))->jE ((jK (bQ P w) P w K mg base N qual scope f Qy A outer s H E).out λ_=>E) body (tS E g)):aV P w K mg base (bQ P w) (k+1) f (Wb name qual params body scope dV kV doc pm an Qy ct) ps (eh ps.length (aH N.length g)):=by
 refine uE lk QP S (λvs H Q E h=>h.1) λA outer s H vs Q E hr hs=>⟨_,hb A outer s H E hr,?_⟩
 obtain⟨_,Hs,RH,sm,r,h⟩:=hs;refine⟨Hs,H,Hs,_,SR.start sm r,(ao.bind h).imp (λo ho=>?_) λe he=>he⟩;cases o with
 | rt p=>exact λv Ql H' gr rv=>ho v Ql H' gr rv
 | nx env=>exact fun σ Ql H' sr=>ho .c8 Ql H' sr.gr .c8
 | bk env=>exact ho.elim
 |ct env=>exact ho.elim
section
variable{E:XK}{pos p:Pos}{fs:af->M (List PV)}
def iR(C:Addr)(fs:af->M (List PV)):af->M Out:=λenv=>(fs env).bind λps=>cQ (ps.length<=sizeLine) (some (.error (C,none)))
def AR(O:eg X λ_=>E)(Qt:X.calm=true)(hc:Zo X.K C eY "ValueError.__new__"=true)(c:ja X.K C)(ht:Yc X.K (.ref C)=some (.type "type"))(kp:V4 X.K (.ref C)=true)(hg:Gl X x)(hm:X.mg x=some (.ref C))(ha:PA X (e::es) (tL (λ_=>E) fs))(QZ:autoParam ↑7 aD._auto_1)(he:autoParam ↑0 aR._auto_1)(QG:autoParam ((backTo Qu (starEach es X.env)).any (·.1)=false) aR._auto_1):PS X (.Raise (some (.Call (.Name x p) (e::es) [] Qu)) none pos) (tS E (iR C fs)):=by
 refine(vP O Qt (GX hc kp hg hm ha QZ he QG)).imp λD σ H q=>wm q λB H₀ Hs H1 env RH v sr rp hp=>?_;obtain⟨hz,hp⟩:=ao.cQ hp;refine⟨by rwa[<- rp.length],λa n=>⟨a,C,none,rfl,av,c,ht,?_⟩⟩;rw[yv];exact hp a (upd Hs a (gW C none a)) _ (sr.gr.trans (bg.new sr.gr.sub n)) (.xM av)
def Av(K:UU)(C:Addr)(fl:Str):Sp:=λvs H Q _=>∃a y,vs=[.ref a,y]/\H a=some (kQ C none a)/\∀d,H d=none->d≠a->Q .c8 (upd (upd H d (.xd [(fl,y)])) a (kQ C (some d) a))
def jV(C:Addr)(fl:Str)(fs:af->M (List PV)):af->M Out:=λenv=>(fs env).bind λps=>match ps with
 | [p]=>some (.error (C,some [(fl,p)]))
 |_=>none
def Am{fl:Str}(O:eg X λ_=>E)(Qt:X.calm=true)(hc:qc X.K C "ValueError.__new__" f=true)(hf:Yn X.K (.ref f)=true)(c:ja X.K C)(ht:Yc X.K (.ref C)=some (.type "type"))(kp:V4 X.K (.ref C)=true)(F:aV X.prog X.w X.K X.mg X.base (bQ X.prog X.w) k f fd ps (Av X.K C fl))(hr:bO (k+1) X.A)(hb:Binds X.K fd ps [])(hg:Gl X x)(hm:X.mg x=some (.ref C))(ha:PA X [e] (tL (λ_=>E) fs))(QZ:autoParam ↑7 aD._auto_1)(he:autoParam (starEach [e] X.env=(false,eval e X.env)::starEach [] X.env) aR._auto_1)(QG:autoParam ((backTo Qu (starEach [] X.env)).any (·.1)=false) aR._auto_1):PS X (.Raise (some (.Call (.Name x p) [e] [] Qu)) none pos) (tS E (jV C fl fs)):=by
 refine(vP O Qt (CA hc hf kp F hr hb hg hm ha QZ he QG)).imp λD σ H q=>wm q λB H₀ Hs H1 env RH v sr rp hp=>?_
 match RH,rp,hp with
 | [],_,hp=>exact hp.elim
 | _::_::_,_,hp=>exact hp.elim
 | [y],rp,hp =>
  obtain⟨v,rfl,ry⟩:=rp.one;refine⟨by show 1<=sizeLine;decide,λa n=>⟨a,v,rfl,av,λd hd hda=>⟨rfl,a,C,some d,rfl,av,c,ht,?_⟩⟩⟩;rw[yv];have hd1:H1 d=none:=by rwa[au hda] at hd
  have g1:=bg.new (o:=.xd [(fl,v)]) sr.gr.sub hd1;have SE:upd H1 d (.xd [(fl,v)]) a=none:=by rwa[au (W5 hda)]
  have g2:=bg.new (o:=gW C (some d) a) g1.sub SE;have hH:upd (upd (upd H1 a (kQ C none a)) d (.xd [(fl,v)])) a (gW C (some d) a)=upd (upd H1 d (.xd [(fl,v)])) a (gW C (some d) a):=by
   funext b
   by_cases z:b=a
   .subst z;rw[av,av]
   .rw[au z,au z]
    by_cases z2:b=d
    .subst z2;rw[av,av]
    .rw[au z2,au z2,au z]
  rw[hH];refine hp a (upd (upd Hs d (.xd [(fl,v)])) a (gW C (some d) a)) _ ((sr.gr.trans g1).trans g2) ?_;exact .wZ av (by rw[au hda];exact av) (.cons ((ry.mono g1.st).mono g2.st) .nil)
def pF{K:UU}{dV kV doc pm Qy ct oc:Value}{n0 n1 fl:Str}{p0 p1 p2 p3:Pos}(lk:K.lookup f=some ⟨oc,od,.func (Wb name qual params [.Assign [.Attribute (.Name n0 p0) fl p1] (.Name n1 p2) p3] scope dV kV doc pm an Qy ct),Ss⟩)(QP:WN K Qy qual=true)(S:bS [n0,n1] [n0,n1] scope)(c:ja K C)(ho:((XJ K C).any λcd=>gF cd.mro)=true)(na:bR K C fl)(v0:xh scope n0)(v1:xh scope n1)(d0:(n0==("__debug__" : Str))=false)(d1:(n1==("__debug__" : Str))=false)(c0:(n0==("__classdict__" : Str))=false)(c1:(n1==("__classdict__" : Str))=false)(hs:∀env,swapsWith (.Name n1 p2) (some (.Attribute (.Name n0 p0) fl p1)) p3.line env=pure false):aV P w K mg base (bQ P w) 1 f (Wb name qual params [.Assign [.Attribute (.Name n0 p0) fl p1] (.Name n1 p2) p3] scope dV kV doc pm an Qy ct) [n0,n1] (Av K C fl):=by
 refine uE (k:=0) lk QP S (λvs H Q E h=>by obtain⟨a,y,rfl,_⟩:=h;rfl) λA outer s H vs Q E hr h=>?_;obtain⟨a,y,rfl,ha,hq⟩:=h;refine⟨_,yL (A4 (gN (i:=0) rfl v0 d0 c0) (gN (i:=1) rfl v1 d1 c1) (hs _)),?_⟩;exact⟨y,rfl,.ref a,rfl,a,C,rfl,ha,c,ho,na,hq⟩
end
structure i_ (J:It) (Qw:Hp) (xs:List PV):Prop where
 stop:∀(i:Nat)(Hs H:Hp),bf Qw Hs->bf Hs H->xs.length<=i->J.stop i H
 go:∀(i:Nat)(Hs H:Hp),bf Qw Hs->bf Hs H->i<xs.length->J.go i H
 vd:∀(i:Nat)(Hs H:Hp)(x:V)(H2:Hp),bf Qw Hs->bf Hs H->i<xs.length->J.vd i H x H2->∃p Qx,xs[i]?=some p/\bg Hs H Qx H2/\Rep Qx p x
def KI(R:It->Hp->Prop):Hp->Hp->List PV->Prop:=λHs H xs=>∀J Ql H',bg Hs H Ql H'->i_ J Ql xs->R J H'
def yU(E:St->XK)(wi:TI)(it:af->M (List PV)):Prop:=∀(σ:St)(H:Hp)(R:It->Hp->Prop),tG E it (KI R) σ H->wi σ H R
theorem KI.g{R:It->Hp->Prop}:KG (KI R):=λHs H Ql H' b k g J Qx H2 g2 o=>k J Qx H2 (g.trans g2) o
section
variable{K:UU}{f:af->M PV}{fs:af->M (List PV)}
def D7{a:Addr}(hq:∀Ql H',bf Qw Ql->bf Ql H'->kR K H' b a vs)(hr:aL Qw xs vs):i_ (O7 K b a) Qw xs where
 stop:=λi Hs H s1 s2 hi=>by
  have q:=hq Hs H s1 s2;cases b with
  | true=>exact⟨vs,q,by rwa[<- hr.length]⟩
  | false=>exact⟨vs,q,by rwa[<- hr.length]⟩
 go:=λi Hs H s1 s2 hi=>by
  have q:=hq Hs H s1 s2;obtain⟨v,e,_⟩:=hr.get (UW hi);cases b with
  | true=>exact⟨vs,v,q,e⟩
  | false=>exact⟨vs,v,q,e⟩
 vd:=λi Hs H x H2 s1 s2 hi y=>by
  have q:=hq Hs H s1 s2;obtain⟨v,e,r⟩:=hr.get (UW hi);have z:H2=H/\vs[i]?=some x:=by
   cases b with
   | true=>exact⟨y.1,y.2 vs q⟩
   | false=>exact⟨y.1,y.2 vs q⟩
  obtain⟨rfl,z⟩:=z;rw[e] at z;cases z;exact⟨xs[i],Hs,UW hi,.refl s2,r.mono s1⟩
def cU:yU E (Ms K (tE E f)) (itemsOf f):=by
 intro σ H R q;refine cw (K:=KI R) KI.g q λB H₀ Hs H1 env p v sr rp hp=>?_;cases e:bY p with
 | none=>rw[e] at hp;exact hp.elim
 | some xs =>
  rw[e] at hp;obtain⟨b,a,vs,rfl,hq,hr⟩:=kj (K:=K) sr.gr.sub rp e;exact⟨b,a,rfl,⟨vs,hq Hs H1 (λ_ _ z=>z) sr.gr.sub⟩,hp (O7 K b a) Hs H1 (.refl sr.gr.sub) (D7 hq hr)⟩
def jR(o:List PV->M (List PV))(fs:af->M (List PV)):af->M (List PV):=λenv=>(fs env).bind o
def wc{lo:Int}:i_ (Nd lo n) Qw ((Vc n).map λ(i:Nat)=>PV.int (lo+(i:Int))) where
 stop:=λi Hs H s1 s2 hi=>show n<=i by simpa using hi
 go:=λi Hs H s1 s2 hi=>show i<n by simpa using hi
 vd:=λi Hs H x H2 s1 s2 hi y=>by
  obtain⟨rfl,rfl⟩:=y;exact⟨_,Hs,Ag (by simpa using hi),.refl s2,.int _⟩
def aO(x:M α):x.bind M.ok=x:=by
 cases x with
 | none=>rfl
 |some x=>cases x<;>rfl
def cL:yU E (HK (tL E fs)) (jR jq fs):=by
 intro σ H R q;refine cP (K:=KI R) KI.g q λB H₀ Hs H1 env ps v sr rp hp=>?_;rw[<- aO (jq ps)] at hp;obtain⟨n,rfl,h1,h2,hp⟩:=Aq hp;obtain⟨w,rfl,RS⟩:=rp.one;cases RS;exact⟨n,rfl,h1,h2,hp _ Hs H1 (.refl sr.gr.sub) wc⟩
def Df:yU E (Hv (tL E fs)) (jR wo fs):=by
 intro σ H R q;refine cP (K:=KI R) KI.g q λB H₀ Hs H1 env ps v sr rp hp=>?_;rw[<- aO (wo ps)] at hp;obtain⟨n,m,rfl,h1,hp⟩:=As hp;obtain⟨w,u,rfl,RS,ru⟩:=rp.two;cases RS;cases ru;exact⟨n,m,rfl,h1,hp _ Hs H1 (.refl sr.gr.sub) wc⟩
def D4{ys:List PV}(h1:i<xs.length)(h2:i<ys.length):(aaM (λa b=>PV.tup [a,b]) xs ys)[i]?=some (.tup [xs[i],ys[i]]):=by
 rw[List.getElem?_zipWith,UW h1,UW h2]
theorem C7{b1 b2:Bool}{a1 a2:Addr}{ys:List PV}{us:List V}(QX:∀Ql H',bf Qw Ql->bf Ql H'->kR K H' b1 a1 vs)(S2:aL Qw xs vs)(QQ:∀Ql H',bf Qw Ql->bf Ql H'->kR K H' b2 a2 us)(S5:aL Qw ys us):i_ (N8 K b1 b2 a1 a2) Qw (aaM (λa b=>PV.tup [a,b]) xs ys) where
 stop:=λi Hs H s1 s2 hi=>by
  rw[ZL,S2.length,S5.length] at hi;exact⟨vs,us,QX Hs H s1 s2,QQ Hs H s1 s2,by lia⟩
 go:=λi Hs H s1 s2 hi=>by
  rw[ZL] at hi;obtain⟨v,e,_⟩:=S2.get (UW (show i<xs.length by lia));obtain⟨u,e',_⟩:=S5.get (UW (show i<ys.length by lia));exact⟨vs,us,v,u,QX Hs H s1 s2,QQ Hs H s1 s2,e,e'⟩
 vd:=λi Hs H x H2 s1 s2 hi y=>by
  rw[ZL] at hi;have l1:i<xs.length:=by lia
  have l2:i<ys.length:=by lia
  obtain⟨v,e,r⟩:=S2.get (UW l1);obtain⟨u,e',r'⟩:=S5.get (UW l2);obtain⟨pa,v',u',hn,rfl,rfl,y1,y2⟩:=y;have z1:=y1 vs (QX Hs H s1 s2);have z2:=y2 us (QQ Hs H s1 s2);rw[e] at z1;cases z1;rw[e'] at z2;cases z2;have gr:=bg.new (o:=.tup [v,u]) s2 hn;exact⟨_,_,D4 l1 l2,gr,.tup av (.cons ((r.mono s1).mono gr.st) (.cons ((r'.mono s1).mono gr.st) .nil))⟩
def mz:yU E (MJ K (tL E fs)) (jR zip2 fs):=by
 intro σ H R q;refine cP (K:=KI R) KI.g q λB H₀ Hs H1 env ps v sr rp hp=>?_;rw[<- aO (zip2 ps)] at hp;obtain⟨p,q,xs,ys,rfl,e1,e2,hp⟩:=Aj hp;obtain⟨w,u,rfl,RS,ru⟩:=rp.two;obtain⟨b1,a1,vs,rfl,QX,S2⟩:=kj (K:=K) sr.gr.sub RS e1;obtain⟨b2,a2,us,rfl,QQ,S5⟩:=kj (K:=K) sr.gr.sub ru e2;exact⟨b1,b2,a1,a2,rfl,⟨vs,QX Hs H1 (λ_ _ z=>z) sr.gr.sub⟩,⟨us,QQ Hs H1 (λ_ _ z=>z) sr.gr.sub⟩,hp _ Hs H1 (.refl sr.gr.sub) (C7 QX S2 QQ S5)⟩
end
theorem bM{E:XK}{pos:Pos}{g:TG}{set:PV->af->M af}{body:af->M Out}{bd:List Stmt}{wi:TI}{it:af->M (List PV)}(O:eg X λ_=>E)(hc:X.calm=true)(hi:PI X tg iter wi)(hv:yU (λ_=>E) wi it)(hg:PG X tg g)(Sx:AY E g set)(hb:jE X bd (tS E body))(hs:autoParam ↑5 aI._auto_1):PS X (.For tg iter bd [] pos) (tS E (gT it set body)):=by
 refine(IW O.own hc hi hg hb hs).imp λD σ H q=>hv σ H _ ?_;obtain⟨B,H₀,Hs,env,sr,q⟩:=q;refine⟨B,H₀,Hs,env,sr,(ao.bind q).imp (λxs hp J Ql H' gr ok=>?_) λe he=>he.grow sr.gr⟩;have Ru:=sr.grow gr;refine⟨λi m σ H=>m=xs.length-i/\i<=xs.length/\Jv E set body D B H₀ Ql xs i σ H,⟨xs.length,by simp,Va _,Ql,env,Ru,λ_ _ z=>z,hp⟩,?_⟩;rintro i m σ' H2 ⟨rfl,hi,Qx,env2,QN,s2,h2⟩
 by_cases QW:i<xs.length
 .refine .inr ⟨ok.go i Qx H2 s2 QN.gr.sub QW,Jv E set body D B H₀ Ql xs (i+1),fun σ3 H3 j=>⟨xs.length-(i+1),by lia,rfl,QW,j⟩,λx H3 y=>?_⟩;obtain⟨p,RU,ep,g3,r3⟩:=ok.vd i Qx H2 x H3 s2 QN.gr.sub QW y;exact Jv.turn (Hx:=H2) (H1:=H2) Sx ep QN s2 h2 g3 r3
 .have e:i=xs.length:=by lia
  refine .inl ⟨ok.stop i Qx H2 s2 QN.gr.sub ⋯,?_⟩;exact Jv.done (E:=E) (set:=set) (body:=body) (xs:=xs) (B:=B) (H₀:=H₀) (Qw:=Ql) (n:=i) ⟨Qx,env2,QN,s2,h2⟩ ⋯
abbrev EF:St->XK:=λ_ _ _ _=>False
def qo(env:af):Prop:=∀(i:Nat)(x:SV),env[i]?=some (some x)->∃p,x=.sh p
def qo.no{env:af}(n:qo env){x:SV}(e:env[i]?=some (some x))(o:gI x=true):False:=by obtain⟨p,rfl⟩:=n i _ e;cases o
noncomputable def BB:M α->M α
 | some (.ok a)=>some (.ok a)
 |_=>none
theorem ao.BB{α:Type}{x:M α}{Q:α->Prop}{E:EX->Prop}(h:ao (L2.BB x) Q E):ao x Q (λ_=>False):=by
 cases x with
 | none=>exact h
 | some x=>cases x with
  | ok a=>exact h
  |error e=>exact h
noncomputable def lB(n:Nat)(js:List Nat)(env:af):af:=UY n none++js.map λj=>match env[j]? with
 | some (some (.sh p))=>some (.sh p)
 |_=>none
theorem sD{env:af}{x:SV}(h:(lB n js env)[i]?=some (some x)):∃j p,n<=i/\js[i-n]?=some j/\env[j]?=some (some (.sh p))/\x=.sh p:=by
 unfold lB at h
 by_cases hi:i<n
 .rw[VX (by simpa using hi),YJ] at h
  split at h<;>cases h
 .rw[Vp (by simpa using hi),Vu,aa7] at h;cases hj:js[i-n]? with
  | none=>rw[hj] at h;cases h
  | some j =>
   rw[hj] at h;have h':(match env[j]? with|some (some (.sh p))=>some (SV.sh p)|_=>none)=some x:=Vf h
   split at h'
   .rename_i p e;cases h';exact⟨j,p,by lia,rfl,e,rfl⟩
   .cases h'
def lq{env:af}:qo (lB n js env):=λi xs e=>by
 obtain⟨_,p,_,_,_,z⟩:=sD e;exact⟨p,z⟩
variable{D:Addr}
def SR.block{B:Hp}{env:af}(r:SR B H₀ Hs H σ env)(hD:H D=none):SR Hs H Hs (upd H D (.lst [])) (fJ ts js σ) (lB ts.length js env) where
 gr:=(bg.refl r.gr.sub).jP (r.free hD).1 hD
 len:=by unfold fJ lB;simp
 at_:=λi x e=>by
  obtain⟨j,q,hn,hj,he,rfl⟩:=sD e;obtain⟨v,h1,h2⟩:=r.sh j q he;refine⟨v,?_,h2⟩;unfold fJ;rw[Vp (by simpa using hn),Vu,U0,hj];show some (σ[j]?).join=_;rw[h1];rfl
 ap:=λi j x y a _ e _ o=>(lq.no e o).elim
def SR.KC{B:Hp}{env:af}(r:SR B H₀ Hs H σ env)(n:qo env)(h1:Hs D=none)(h2:H₀ D=none):SR B H₀ Hs (upd H D o) σ env :=
 r.mv (r.gr.jP h1 h2) r.len (λ_ _ q=>q) λ_ _ e=>⟨e,rfl,λ_ _ o=>(n.no e o).elim⟩
def bC(set:PV->af->M af)(t:Option (af->M Bool))(f:af->M PV):List PV->af->M (List PV)
 | [],_=>M.ok []
 | x::xs,env=>(set x env).bind λe=>match t with
  | none=>(f e).bind λy=>(bC set t f xs e).bind λys=>M.ok (y::ys)
  |some t'=>(t' e).bind λb=>if b=true then (f e).bind λy=>(bC set t f xs e).bind λys=>M.ok (y::ys) else bC set t f xs e
def cm(it:af->M (List PV))(set:PV->af->M af)(t:Option (af->M Bool))(f:af->M PV)(n:Nat)(js:List Nat):af->M (List PV):=λenv=>(it env).bind λxs=>cQ (xs.length<=sizeLine) (BB (bC set t f xs (lB n js env)))
def nK(set:PV->af->M af):Prop:=∀p env e,set p env=some (.ok e)->qo env->qo e
def kJ{env:af}(n:qo env):qo (env.set i (some (.sh p))):=λj xs e=>by
 rw[Xd] at e
 by_cases z:i=j
 .rw[if_pos z] at e
  split at e
  .cases e;exact⟨p,rfl⟩
  .cases e
 .rw[if_neg z] at e;exact n j xs e
def bx:nK (bA i):=λp env e h n=>by
 cases h;exact kJ n
def dc:nK (dj i j):=λp env e h n=>by
 unfold dj at h
 split at h
 .cases h;exact kJ (kJ n)
 .cases h
section
variable{set:PV->af->M af}{t:Option (af->M Bool)}{f:af->M PV}{Q:VK}{H1:Hp}
def Jc(set:PV->af->M af)(t:Option (af->M Bool))(f:af->M PV)(Q:VK)(Qw H1:Hp)(D:Addr)(xs:List PV)(i:Nat)(σ:St)(H:Hp):Prop:=∃Hs env ys vs,SR Qw H1 Hs H σ env/\qo env/\H D=some (.lst vs)/\Hs D=none/\aL Hs ys vs/\ys.length<=i ∧
 ao (bC set t f (xs.drop i) env) (λzs=>KO Q Qw H1 (ys++zs)) (λ_=>False)
noncomputable def rem(H:Hp)(D:Addr):Hp:=λa=>if a=D then none else H a
def CY:rem H D D=none:=by unfold rem;rw[if_pos rfl]
def xy{a:Addr}(n:a≠D):rem H D a=H a:=by unfold rem;rw[if_neg n]
def Gj(h:H D=some o):upd (rem H D) D o=H:=by
 funext a
 by_cases z:a=D
 .subst z;rw[av,h]
 .rw[au z,xy z]
def Jc.done(hD:H1 D=none)(j:Jc set t f Q Qw H1 D xs i σ H)(hi:xs.length<=i):Q (.ref D) H:=by
 obtain⟨Hs,env,ys,vs,sr,n,h1,h2,r,_,h⟩:=j;rw[X5 hi] at h;have h':KO Q Qw H1 (ys++[]):=h;rw[VT] at h';have gr:bg Qw H1 Hs (rem H D):=by
  refine⟨sr.gr.st,λc u q=>?_,λc u q=>?_,sr.gr.nw⟩
  .rw[xy (λz=>by rw[z,hD] at q;cases q)];exact sr.gr.al c u q
  .rw[xy (λz=>by rw[z,h2] at q;cases q)];exact sr.gr.sub c u q
 have:=h' vs D Hs (rem H D) gr r CY;rwa[Gj h1] at this
theorem Jc.put{env:af}{ys:List PV}{y:PV}(hD:H1 D=none)(sr:SR Qw H1 Hs H σ env)(n:qo env)(h1:H D=some (.lst vs))(h2:Hs D=none)(r:aL Hs ys vs)(hy:ys.length<=i)(hi:i<sizeLine)(rv:Rep Hs y v)(h:ao ((bC set t f (xs.drop (i+1)) env).bind λzs=>M.ok (y::zs)) (λzs=>KO Q Qw H1 (ys++zs)) (λ_=>False)):∃us,H D=some (.lst us)/\us.length<sizeLine/\Jc set t f Q Qw H1 D xs (i+1) σ (upd H D (.lst (us++[v]))):=by
 refine⟨vs,h1,by rw[<- r.length];lia,Hs,env,ys++[y],vs++[v],sr.KC n h2 hD,n,av,h2,r.snoc rv,by rw[Vb];show ys.length+1<=i+1;lia,(ao.bind h).imp (λzs hz=>?_) λ_ z=>z⟩;have TZ:KO Q Qw H1 (ys++(y::zs)):=hz;rwa[VG]
end
section
variable{cl:List (Str×Addr)}{pos:Pos}{wi:TI}{it:af->M (List PV)}{g:TG}{set:PV->af->M af}{f:af->M PV}{u:af->M Bool}{fs:List Str}
def yG{s₀:Shared}{ex:List Addr}:eg (rj X scope cl N C s₀ H₀ ex Qg) EF where
 pass:=λ_ _ _ _ _ _ _ h=>by
  obtain⟨_,_,_,_,_,_,_,_,_,_,_,_,_,z⟩:=h;exact z.elim
 new:=λ_ _ _ _ _ _ _ _ _ z=>z.elim
 own:=PassesOwn.never
theorem wB{Q:VK}(hv:yU E wi it)(Sx:∀E,AY E g set)(so:nK set)(q:tO E (cm it set none f ts.length js) σ H Q):xH wi g (tE EF f) ts js σ H Q:=by
 refine hv σ H _ ?_;obtain⟨B,H₀,Hs,env,sr,q⟩:=q;refine⟨B,H₀,Hs,env,sr,(ao.bind q).imp (λxs hp J Qw H1 gr ok D hD=>?_) λe he=>he⟩;obtain⟨hz,hp⟩:=ao.cQ hp;have hp:=ao.BB hp;have Td:=sr.grow gr;refine⟨λi m σ H=>m=xs.length-i/\i<=xs.length/\Jc set none f Q Qw H1 D xs i σ H,⟨xs.length,by simp,Va _,Qw,_,[],[],Td.block hD,lq,av,?_,.nil,UZ _,hp.imp (λzs hz vs p Qx H2 g2 r n=>hz vs p Qx H2 (gr.trans g2) r n) λ_ z=>z⟩,?_⟩
 .cases z:Qw D with
  | none=>rfl
  | some o=>have:=gr.sub _ _ z;rw[hD] at this;cases this
 rintro i m σ' H2 ⟨rfl,hi,Qx,env2,ys,vs,QN,n2,d1,d2,r2,l2,h2⟩
 by_cases QW:i<xs.length
 .refine .inr ⟨ok.go i Qx H2 QN.gr.st QN.gr.sub QW,Jc set none f Q Qw H1 D xs (i+1),fun σ3 H3 j=>⟨xs.length-(i+1),by lia,rfl,QW,j⟩,λx H3 y=>?_⟩;obtain⟨p,RU,ep,g3,r3⟩:=ok.vd i Qx H2 x H3 QN.gr.st QN.gr.sub QW y;have hd:xs.drop i=p::xs.drop (i+1):=by
   rw[WX QW];rw[UW QW] at ep;rw[Vf ep]
  rw[hd] at h2;have h3:=ao.bind h2;have Sg:=QN.grow g3;refine Sx (λ_ _ _=>False) Qw H1 RU H3 σ' env2 p x _ (λ_=>False) Sg r3 ?_;cases hset:set p env2 with
  | none=>rwa[hset] at h3
  | some z=>cases z with
   | error e=>rwa[hset] at h3
   | ok e3 =>
    rw[hset] at h3;intro σ4 sr4;have n4:=so p env2 e3 hset n2;refine⟨Qw,H1,RU,e3,sr4,(ao.bind h3).imp (λy hy v Ua H5 g5 r5=>?_) λ_ z=>z.elim⟩;exact Jc.put (set:=set) (t:=none) (f:=f) hD (sr4.grow g5) n4 (g5.al _ _ (g3.al _ _ d1)) (g5.nw _ _ (g3.nw _ _ d2 d1 (λ_=>nofun)) (g3.al _ _ d1) (λ_=>nofun)) ((r2.mono g3.st).mono g5.st) l2 ⋯ r5 hy
 .refine .inl ⟨ok.stop i Qx H2 QN.gr.st QN.gr.sub ⋯,?_⟩;exact Jc.done (set:=set) (t:=none) (f:=f) (xs:=xs) (Qw:=Qw) (H1:=H1) (i:=i) hD ⟨Qx,env2,ys,vs,QN,n2,d1,d2,r2,l2,h2⟩ ⋯
theorem CC{Q:VK}(hv:yU E wi it)(Sx:∀E,AY E g set)(so:nK set)(q:tO E (cm it set (some u) f ts.length js) σ H Q):DF wi g (tT EF u) (tE EF f) ts js σ H Q:=by
 refine hv σ H _ ?_;obtain⟨B,H₀,Hs,env,sr,q⟩:=q;refine⟨B,H₀,Hs,env,sr,(ao.bind q).imp (λxs hp J Qw H1 gr ok D hD=>?_) λe he=>he⟩;obtain⟨hz,hp⟩:=ao.cQ hp;have hp:=ao.BB hp;have Td:=sr.grow gr;refine⟨λi m σ H=>m=xs.length-i/\i<=xs.length/\Jc set (some u) f Q Qw H1 D xs i σ H,⟨xs.length,by simp,Va _,Qw,_,[],[],Td.block hD,lq,av,?_,.nil,UZ _,hp.imp (λzs hz vs p Qx H2 g2 r n=>hz vs p Qx H2 (gr.trans g2) r n) λ_ z=>z⟩,?_⟩
 .cases z:Qw D with
  | none=>rfl
  | some o=>have:=gr.sub _ _ z;rw[hD] at this;cases this
 rintro i m σ' H2 ⟨rfl,hi,Qx,env2,ys,vs,QN,n2,d1,d2,r2,l2,h2⟩
 by_cases QW:i<xs.length
 .refine .inr ⟨ok.go i Qx H2 QN.gr.st QN.gr.sub QW,Jc set (some u) f Q Qw H1 D xs (i+1),fun σ3 H3 j=>⟨xs.length-(i+1),by lia,rfl,QW,j⟩,λx H3 y=>?_⟩;obtain⟨p,RU,ep,g3,r3⟩:=ok.vd i Qx H2 x H3 QN.gr.st QN.gr.sub QW y;have hd:xs.drop i=p::xs.drop (i+1):=by
   rw[WX QW];rw[UW QW] at ep;rw[Vf ep]
  rw[hd] at h2;have h3:=ao.bind h2;have Sg:=QN.grow g3;refine Sx (λ_ _ _=>False) Qw H1 RU H3 σ' env2 p x _ (λ_=>False) Sg r3 ?_;cases hset:set p env2 with
  | none=>rwa[hset] at h3
  | some z=>cases z with
   | error e=>rwa[hset] at h3
   | ok e3 =>
    rw[hset] at h3;intro σ4 sr4;have n4:=so p env2 e3 hset n2;refine⟨Qw,H1,RU,e3,sr4,(ao.bind h3).imp (λb hb Ua H5 g5=>?_) λ_ z=>z.elim⟩;have d5:=g5.al _ _ (g3.al _ _ d1);have e5:=g5.nw _ _ (g3.nw _ _ d2 d1 (λ_=>nofun)) (g3.al _ _ d1) (λ_=>nofun);cases b with
    | true =>
     refine⟨Qw,H1,Ua,e3,sr4.grow g5,(ao.bind hb).imp (λy hy v Hs6 H6 g6 r6=>?_) λ_ z=>z.elim⟩;exact Jc.put (set:=set) (t:=some u) (f:=f) hD ((sr4.grow g5).grow g6) n4 (g6.al _ _ d5) (g6.nw _ _ e5 d5 (λ_=>nofun)) (((r2.mono g3.st).mono g5.st).mono g6.st) l2 ⋯ r6 hy
    | false=>exact⟨Ua,e3,ys,vs,sr4.grow g5,n4,d5,e5,(r2.mono g3.st).mono g5.st,by lia,hb⟩
 .refine .inl ⟨ok.stop i Qx H2 QN.gr.st QN.gr.sub ⋯,?_⟩;exact Jc.done (set:=set) (t:=some u) (f:=f) (xs:=xs) (Qw:=Qw) (H1:=H1) (i:=i) hD ⟨Qx,env2,ys,vs,QN,n2,d1,d2,r2,l2,h2⟩ ⋯
def bF(Qt:X.calm=true)(QK:closureFor scope X.env=pure cl)(hk:scope.kind=.function)(nc:f7 scope.names=true)(lo:hG scope.names=true)(fh:h_ cl scope.names=true)(ag:eN X cl)(fr:iE X scope cl fs js)(hi:PI X tg iter wi)(hv:yU E wi it)(hg:∀C s₀ H₀ ex Qg,PG (rj X scope cl (ts++fs) C s₀ H₀ ex Qg) tg g)(Sx:∀E,AY E g set)(so:nK set)(he:∀C s₀ H₀ ex Qg,PE (rj X scope cl (ts++fs) C s₀ H₀ ex Qg) elt (tE EF f))(hs:autoParam ↑5 aI._auto_1):PE X (.ListComp elt [⟨tg,iter,[],0⟩] scope pos) (tO E (cm it set none f ts.length js)):=by
 exact(Ex Qt QK hk nc lo fh ag fr hi hg he hs).imp fun σ H Q q=>wB hv Sx so q
def Ba(Qt:X.calm=true)(QK:closureFor scope X.env=pure cl)(hk:scope.kind=.function)(nc:f7 scope.names=true)(lo:hG scope.names=true)(fh:h_ cl scope.names=true)(ag:eN X cl)(fr:iE X scope cl fs js)(hi:PI X tg iter wi)(hv:yU E wi it)(hg:∀C s₀ H₀ ex Qg,PG (rj X scope cl (ts++fs) C s₀ H₀ ex Qg) tg g)(Sx:∀E,AY E g set)(so:nK set)(ht:∀C s₀ H₀ ex Qg,PT (rj X scope cl (ts++fs) C s₀ H₀ ex Qg) c (tT EF u))(he:∀C s₀ H₀ ex Qg,PE (rj X scope cl (ts++fs) C s₀ H₀ ex Qg) elt (tE EF f))(hs:autoParam ↑5 aI._auto_1):PE X (.ListComp elt [⟨tg,iter,[c],0⟩] scope pos) (tO E (cm it set (some u) f ts.length js)):=by
 exact(Dg Qt QK hk nc lo fh ag fr hi hg ht he hs).imp fun σ H Q q=>CC hv Sx so q
def b_(fo:af->M (List PV)):af->M PV:=λenv=>(fo env).bind λps=>M.ok (.lst ps)
def bT{fo:af->M (List PV)}(he:PE X e (tO E fo)):PE X e (tE E (b_ fo)):=he.imp fun σ H Q q=>by
 obtain⟨B,H₀,Hs,env,sr,q⟩:=q;refine⟨B,H₀,Hs,env,sr,(ao.bind q).imp (λps hp vs p Ql H' g r n=>?_) λe he=>he⟩;have gn:=bg.new (o:=.lst vs) g.sub n;exact hp _ _ _ (g.trans gn) (.lst av (r.mono gn.st))
end
noncomputable def uC(f:Str)(v:PV):List (Str×PV)->List (Str×PV)
 | []=>[(f,v)]
 |(g,x)::r=>if g=f then (g,v)::r else (g,x)::uC f v r
theorem iw.put{H:Hp}{f:Str}{p:PV}{v:V}(h:Rep H p v):∀{fs:List (Str×PV)}{vs:List (Str×V)},iw H fs vs->iw H (uC f p fs) (jH f v vs)
 | _,_,.nil=>.cons h .nil
 | (g,x)::r,_,.cons hx hr=>by
  unfold uC jH
  by_cases z:g=f
  .rw[if_pos z,if_pos z];exact .cons h hr
  .rw[if_neg z,if_neg z];exact .cons hx (hr.put h)
theorem iw.length{H:Hp}:∀{fs:List (Str×PV)}{vs:List (Str×V)},iw H fs vs->fs.length=vs.length
 | _,_,.nil=>rfl
 |_,_,.cons _ r=>by simp[r.length]
def SR.OQ{B:Hp}{env:af}{a dx:Addr}{fs gs:List (Str×PV)}{us:List (Str×V)}(r:SR B H₀ Hs H σ env)(e:env[i]?=some (some (.bd a C fs)))(h:iw Hs gs us):SR B H₀ Hs (upd H a (.ins C dx us)) σ (env.set i (some (.bd a C gs))):=by
 obtain⟨dx0,vs,h1,h2,h3,h4,h5⟩:=r.bd i a C fs e;exact r.BD h1 (r.gr.jP h3 h4) (λ_ _ q=>q) (λ_ q=>by cases q;exact⟨_,rfl,dx,us,rfl,av,h3,h4,h⟩) (λj y b u n ej o z q1 q2 _=>⟨by rwa[au (λw=>by subst w;exact r.ap i j _ y b n e ej rfl o h1 z)],q2⟩) λ_ _ _ k z n ek o=>r.ap i k _ z a n e ek rfl o h1
noncomputable def Dq(i:Nat)(C:Addr)(f:Str)(p:PV)(env:af):M Out:=match env[i]? with
 | some (some (.bd a C' fs))=>cQ (C'=C/\fs.length<1000) (M.ok (.nx (env.set i (some (.bd a C (uC f p fs))))))
 |_=>none
def lF(i:Nat)(C:Addr)(fl:Str)(f:af->M PV):af->M Out:=λenv=>(f env).bind λp=>Dq i C fl p env
section
variable{E:XK}{pos px:Pos}{f:af->M PV}{fl:Str}
def lG(hi:X.N[i]?=some x)(hv:xh X.env.scope x)(c:mF X.K C)(na:bR X.K C fl)(he:PE X e (tE (λ_=>E) f))(hd:autoParam ↑7 aD._auto_1)(QP:autoParam ↑6 aD._auto_1)(hs:autoParam (swapsWith e (some (.Attribute (.Name x px) fl pos')) pos.line X.env=pure false) aR._auto_1):PS X (.Assign [.Attribute (.Name x px) fl pos'] e pos) (tS E (lF i C fl f)):=by
 refine(J9 (gN hi hv hd QP) he hs).imp λD σ H q=>iH q λB H₀ Hs H1 env p v sr rp hp=>?_;unfold Dq at hp
 split at hp
 .rename_i a C' fs ex;obtain⟨⟨rfl,hz⟩,hp⟩:=ao.cQ hp;obtain⟨dx,vs,h1,h2,h3,h4,h5⟩:=sr.bd i a _ fs ex;exact⟨.ref a,h1,a,_,dx,vs,rfl,h2,c,na,by rwa[<- h5.length],hp σ Hs _ (sr.OQ ex (h5.put rp))⟩
 .exact hp.elim
end
noncomputable def zT(m:Nat)(a C:Addr)(ps:List PV):af:=some (.bd a C [])::gU (m-1) ps
noncomputable def D5(a C:Addr)(env:af):M (List (Str×PV)):=match (env[0]?:Option (Option SV)) with
 | some (some (.bd b D fs))=>cQ (b=a/\D=C) (M.ok fs)
 |_=>none
noncomputable def outI(a C:Addr):Out->M (List (Str×PV))
 | .nx env=>D5 a C env
 |_=>none
def Au(m:Nat)(g:af->M Out)(C a:Addr)(ps:List PV):M (List (Str×PV)):=(g (zT m a C ps)).bind (outI a C)
def JZ(s:Addr->M α):M α:=open Classical in if h:∃r,∀a,s a=r then h.choose else none
def B6{s:Addr->M α}{r:M α}(h:∀a,s a=r):JZ s=r:=by
 have hx:∃r,∀a,s a=r:=⟨r,h⟩
 unfold JZ;rw[dif_pos hx,<- hx.choose_spec 0,h 0]
theorem ao.JZ{α:Type}{s:Addr->M α}{Q:α->Prop}{E:EX->Prop}(h:ao (L2.JZ s) Q E)(a:Addr):ao (s a) Q E:=by
 unfold L2.JZ at h
 split at h
 .rename_i hx;rwa[hx.choose_spec a]
 .exact h.elim
def Hh(n:Nat)(C:Addr)(sem:Addr->List PV->M (List (Str×PV))):Sp:=λvs H Q E=>vs.length=n/\∃a dx us Hs H1 ps,vs=.ref a::us/\H1 a=none/\H1 dx=none/\dx≠a/\H=upd (upd H1 dx (.own a)) a (.ins C dx [])/\bf Hs H1/\aL Hs ps us ∧
 ao (sem a ps) (λfs=>∀T5 ws Ql H',bg Hs H1 Ql H'->H' a=some (.ins C T5 ws)->Ql a=none->iw Ql fs ws->Q .c8 H') (XW E Hs H1)
def SR.Jz{a dx:Addr}{ps:List PV}(s:bf Hs H₀)(hN:0<N.length)(ha:H₀ a=none)(r:aL Hs ps vs)(hH:H=upd H₀ a (.ins C dx [])):SR Hs H₀ Hs H (L2.start N (.ref a::vs)) (zT N.length a C ps):=by
 have hs:Hs a=none:=by
  cases q:Hs a with
  | none=>rfl
  | some o=>have:=s _ _ q;rw[ha] at this;cases this
 have ne:∀c u,H₀ c=some u->c≠a:=λc u e z=>by rw[z,ha] at e;cases e
 have s0:=SR.start (N:=N.tail) s r;have e1:L2.start N (.ref a::vs)=some (.ref a)::L2.start N.tail vs:=by
  unfold L2.start;simp only[Vg,List.cons_append,Vw,acw];rw[Nat.sub_sub,aaK]
 have e2:zT N.length a C ps=some (.bd a C [])::gU N.tail.length ps:=by unfold zT;rw[acw]
 have al:bf H₀ H:=λc u q=>by rwa[hH,au (ne c u q)]
 rw[e1,e2];have no:∀(j:Nat)(x:SV),(gU N.tail.length ps)[j]?=some (some x)->gI x=true->False:=λj x e o=>by
  obtain⟨v,h1,h2⟩:=s0.at_ j x e;obtain⟨b,u,_,q1,_,q2,_⟩:=h2.jP o;rw[q2] at q1;cases q1
 refine⟨⟨λ_ _ e=>e,al,λc u q=>al c u (s c u q),λc u q _ _=>q⟩,by simp[s0.len],λj x ej=>?_,λj k x y b nj e1 e2 o1 o2=>?_⟩
 .cases j with
  | zero=>cases ej;exact⟨_,rfl,dx,[],rfl,by rw[hH];exact av,hs,ha,.nil⟩
  | succ j =>
   have ej:(gU N.tail.length ps)[j]?=some (some x):=by simpa using ej
   obtain⟨v,h1,h2⟩:=s0.at_ j x ej;exact⟨v,by simpa using h1,h2.mono (λ_ _ q=>q) λ_ _ o=>(no j x ej o).elim⟩
 .cases j with
  | zero=>cases k with
   | zero=>exact absurd rfl nj
   | succ k=>exact(no k y (by simpa using e2) o2).elim
  |succ j=>exact(no j x (by simpa using e1) o1).elim
def GB{K:UU}{dV kV doc pm Qy ct oc:Value}{g:af->M Out}(lk:K.lookup f=some ⟨oc,od,.func (Wb name qual params body scope dV kV doc pm an Qy ct),Ss⟩)(QP:WN K Qy qual=true)(S:bS N ps scope)(hN:0<N.length)(hb:∀(A:Around)(outer:List Env)(s:Shared)(H:Hp)(E:XK),bO k (A.deeper (envOfC qual scope s.heap.objs.size f Qy))->jE ((jK (bQ P w) P w K mg base N qual scope f Qy A outer s H E).out λ_=>E) body (tS E g)):aV P w K mg base (bQ P w) (k+1) f (Wb name qual params body scope dV kV doc pm an Qy ct) ps (Hh ps.length C (Au N.length g C)):=by
 refine uE lk QP S (λvs H Q E h=>h.1) λA outer s H vs Q E hr hs=>⟨_,hb A outer s H E hr,?_⟩
 obtain⟨_,a,dx,us,Hs,H1,RH,rfl,ha,hdx,SG,hH,sm,r,h⟩:=hs;have ne:∀c u,H1 c=some u->c≠dx:=λc u e z=>by rw[z,hdx] at e;cases e
 have s0:bf H1 (upd H1 dx (.own a)):=λc u q=>by rwa[au (ne c u q)]
 have g0:bg Hs H1 Hs (upd H1 dx (.own a)):=⟨λ_ _ e=>e,s0,λc u q=>s0 c u (sm c u q),λ_ _ e _ _=>e⟩
 refine⟨Hs,_,Hs,_,SR.Jz (dx:=dx) g0.sub hN (by rwa[au (W5 SG)]) r hH,(ao.bind h).imp (λo ho=>?_) λe he=>he.grow g0⟩;cases o with
 | rt p=>exact ho.elim
 | bk env=>exact ho.elim
 | ct env=>exact ho.elim
 | nx env =>
  intro σ Ql H' sr;have R9:ao (D5 a C env) _ _:=ho;unfold D5 at R9
  split at R9
  .rename_i b D fs ex;obtain⟨⟨rfl,rfl⟩,hp⟩:=ao.cQ R9;obtain⟨T5,ws,h1,h2,h3,h4,h5⟩:=sr.bd 0 _ _ fs ex;exact hp T5 ws Ql H' (g0.trans sr.gr) h2 h3 h5
  .exact R9.elim
def jB(C:Addr)(sem:Addr->List PV->M (List (Str×PV)))(RQ:List PV)(ps:List PV):M PV:=(JZ λa=>sem a (ps++RQ)).bind λfs=>M.ok (.obj C fs)
section
variable{ns:List Str}{sem:Addr->List PV->M (List (Str×PV))}{p pos:Pos}{fs:af->M (List PV)}
def FX(Mk:Mk X.K C f)(F:aV X.prog X.w X.K X.mg X.base (bQ X.prog X.w) k f fd ns (Hh n C sem))(hr:bO (k+1) X.A)(hg:Gl X x)(hm:X.mg x=some (.ref C))(hb:Binds X.K fd ns ds)(hd:Vals Q0 ds)(hdp:∀H,aL H RQ Q0)(O:eg X E)(hl:∀a ps,sem a (ps++RQ)≠none->ps.length+RQ.length+1=n)(ha:PA X (e::es) (tL E fs))(QZ:autoParam ↑7 aD._auto_1)(he:autoParam ↑0 aR._auto_1)(QG:autoParam ↑2 aR._auto_1):PE X (.Call (.Name x p) (e::es) [] pos) (tE E (ah (jB C sem RQ) fs)):=by
 refine(DI Mk F hr hg hm hb hd O ha QZ he QG).imp fun σ H Q q=>cP (K:=kP Q) kP.g q λB H₀ Hs H1 env RH v sr rp hp=>?_;intro a dx ha hdx SG;have r2:aL Hs (RH++RQ) (v++Q0):=rp.append (hdp Hs);have Tg:=(ao.bind hp).JZ a;have hn:sem a (RH++RQ)≠none:=λz=>by
  rwa[z] at Tg
 refine⟨?_,a,dx,v++Q0,Hs,H1,RH++RQ,rfl,ha,hdx,SG,rfl,sr.gr.sub,r2,Tg.imp (λfl hfl T5 ws Ql H' g hw UG RS=>⟨rfl,?_⟩) λe he=>he⟩
 .show (v++Q0).length+1=n;rw[<- r2.length,Vb];exact hl a RH hn
 .have ne:∀c u,Ql c=some u->c≠a:=λc u q z=>by rw[z,UG] at q;cases q
  have QO:bf Ql (upd Ql a (.ins C T5 ws)):=λc u q=>by rwa[au (ne c u q)]
  refine hfl (.ref a) (upd Ql a (.ins C T5 ws)) H' ⟨λc u q=>QO c u (g.st c u q),g.al,λc u q=>?_,λc u q1 q2 q3=>?_⟩ (.obj av (RS.mono QO))
  .by_cases z:c=a
   .subst z;rw[av] at q;cases q;exact hw
   .rw[au z] at q;exact g.sub c u q
  .have z:c≠a:=λz=>by rw[z,ha] at q2;cases q2
   rw[au z];exact g.nw c u q1 q2 q3
end
section
variable{a b:Expr}{pos:Pos}{f g h:af->M PV}
def j7{m:Nat}(h:n.log2<m):n<2^m:=by
 by_cases z:n=0
 .subst z;exact WV m
 .exact(Zu z).mp h
theorem aL.rep{H:Hp}{xs:List PV}{vs:List V}(r:aL H xs vs):∀k:Nat,aL H (UY k xs).flatten (UY k vs).flatten
 | 0=>.nil
 |k+1=>by rw[Wk,Wk,WQ,WQ];exact r.append (r.rep k)
noncomputable def cA:PV->PV->M PV
 | .int i,.int j=>cQ (i.natAbs.log2<67108864/\j.natAbs.log2<67108864) (M.ok (.int (i*j)))
 | .tup xs,.int k=>cQ (xs.isEmpty=false/\-(2^63)<=k/\k<2^63/\xs.length*k.toNat<=sizeLine) (M.ok (.tup (UY k.toNat xs).flatten))
 | .lst xs,.int k=>cQ (-(2^63)<=k/\k<2^63/\xs.length*k.toNat<=sizeLine) (M.ok (.lst (UY k.toNat xs).flatten))
 |_,_=>none
def Ht(K:UU):R2:=λx y H Q=>(rI (λi j=>IntMulOk i j) λi j=>.int (i*j)) x y H Q\/Hq K x y H Q\/My x y H Q
def Gk:gQ X (binaryOp .Mult) (Ht X.K):=gQ.or Ga (gQ.or Fj Jr)
def KR{K:UU}:mU E (Ht K) cA:=by
 intro σ Hs H p q v u Q s rp rq h;cases rp with
 | int i=>cases rq with
  | int j =>
   obtain⟨hz,h⟩:=ao.cQ h;exact .inl ⟨i,j,rfl,rfl,Bg (j7 hz.1) (j7 hz.2) (UZ _),eU.flat h s (.int _)⟩
  | _=>exact h.elim
 | @tup a xs vs ha hx=>cases rq with
  | int k =>
   obtain⟨⟨h0,h1,h2,h3⟩,h⟩:=ao.cQ h;have n1:vs≠[]:=λz=>by
    have:=hx.length;rw[z] at this;cases xs with
    | nil=>cases h0
    | cons _ _=>cases this
   refine .inr (.inl ⟨a,k,vs,rfl,rfl,gR.of (s _ _ ha),n1,h1,h2,by rwa[<- hx.length],λz=>?_,λz=>eU.tup h s (hx.rep _)⟩);subst z;rw[show (1:Int).toNat=1 from rfl,Wk,List.replicate_zero,WQ,List.flatten_nil,VT] at h;exact eU.flat h s (.tup ha hx)
  | _=>exact h.elim
 | @lst a xs vs ha hx=>cases rq with
  | int k =>
   obtain⟨⟨h1,h2,h3⟩,h⟩:=ao.cQ h;exact .inr (.inr ⟨a,k,vs,rfl,rfl,s _ _ ha,h1,h2,by rwa[<- hx.length],eU.lst h s (hx.rep _)⟩)
  | _=>exact h.elim
 |_=>exact h.elim
def GL:mU E (rI CT λi j=>.int (i.fdiv j)) (xE (λ_ j=>decide (j≠0/\j.natAbs.log2<9000)) λi j=>i.fdiv j):=xJ λi j z=>(of_decide_eq_true z:j≠0/\j.natAbs.log2<9000)
def JL:mU E (rI (λ_ j=>j≠0) λi j=>.int (i.fmod j)) (xE (λ_ j=>decide (j≠0)) λi j=>i.fmod j):=xJ λi j z=>of_decide_eq_true z
def Ln:mU E (rI JY λi j=>.int (i^j.toNat)) (xE (λi j=>decide (0<=j/\j<=1000000/\i.natAbs<2^64)) λi j=>i^j.toNat):=xJ λi j z=>(of_decide_eq_true z:0<=j/\j<=1000000/\i.natAbs<2^64)
noncomputable def MQ:PV->M PV
 | .int i=>M.ok (.int (-i))
 |_=>none
def k8(f:af->M PV):af->M PV:=λenv=>(f env).bind MQ
def K9(ha:PE X a (tE E f)):PE X (.UnaryOp .USub a pos) (tE E (k8 f)) :=
 (HV Ew ha).imp fun σ H Q q=>ML q λHs H1 p v s rp h=>by
  cases rp with
  | int i=>exact⟨i,rfl,eU.flat h s (.int _)⟩
  |_=>exact h.elim
def yu:PV->Bool
 | .c8=>true
 |_=>false
def Bi(r:Rep H p v):decide (v=.c8)=yu p:=by
 cases r<;>rfl
def Ct:PV->PV->M PV
 | p,.c8=>M.ok (.bl (yu p))
 |_,_=>none
def Bf:mU E (λx y H Q=>y=.c8/\Q (.bl (decide (x=.c8))) H) Ct:=by
 intro σ Hs H p q v u Q s rp rq h;cases rq with
 | c8 =>
  have h':ao (M.ok (PV.bl (yu p))) (eU Hs H Q) (XW (E σ) Hs H):=by cases p<;>exact h
  exact⟨rfl,by rw[Bi rp];exact eU.flat h' s (.bl _)⟩
 |_=>cases p<;>exact h.elim
def lH(o o':PV->PV->M PV)(f g h:af->M PV):af->M PV:=λenv=>(f env).bind λp=>(g env).bind λq=>(o p q).bind λz=>(xn z).bind λk=>if k=true then (h env).bind λr=>o' q r else M.ok (.bl false)
def DP{r r':R2}{o o':PV->PV->M PV}(hv:mU E r o)(Tp:mU E r' o'){Q:VK}(q:tE E (lH o o' f g h) σ H Q):BJ r r' (tE E f) (tE E g) (tE E h) σ H Q:=by
 refine cw (K:=kP Q) kP.g q λB H₀ Hs H1 env p v sr rp hp=>?_;refine⟨B,H₀,Hs,env,sr,(ao.bind hp).imp (λq hq u Qx H2 g2 ru=>?_) λe he=>he⟩;have QN:=sr.grow g2;refine hv σ Qx H2 p q v u _ QN.gr.sub (rp.mono g2.st) ru ((ao.bind hq).imp (λz hz w RU H3 g3 RS=>?_) λe he=>he.grow g2);obtain⟨k,ek,hk⟩:=ao.NF (ao.bind hz);subst ek;cases RS;refine⟨k,rfl,?_⟩;have Sg:=QN.grow g3;cases k with
 | false=>exact hk _ _ _ (g2.trans g3) (.bl _)
 | true =>
  have hk':ao ((h env).bind λr=>o' q r) (kP Q Hs H1) (XW (E σ) Hs H1):=hk;refine⟨B,H₀,RU,env,Sg,(ao.bind hk').imp (λr hr w Hs4 H4 g4 rw4=>?_) λe he=>he.grow (g2.trans g3)⟩;exact Tp σ Hs4 H4 q r u w Q (Sg.grow g4).gr.sub ((ru.mono g3.st).mono g4.st) rw4 (hr.imp (λz hz w' Ua H5 g5 r5=>hz w' Ua H5 ((g2.trans g3).trans (g4.trans g5)) r5) λe he=>he.grow ((g2.trans g3).trans g4))
def wR{T3:CmpOp}{r r':R2}{o o':PV->PV->M PV}(ho:gQ X (compareOp op) r)(hv:mU E r o)(R9:gQ X (compareOp T3) r')(Tp:mU E r' o')(ha:PE X a (tE E f))(hb:PE X b (tE E g))(hc:PE X c (tE E h))(hm:autoParam (lastMarks [op,T3] [b,c]=false) aU._auto_1):PE X (.Compare a [op,T3] [b,c] pos) (tE E (lH o o' f g h)) :=
 (Bo ho R9 ha hb hc hm).imp fun σ H Q q=>DP hv Tp q
def cO(u:af->M Bool)(b:af->M Out):Nat->af->M Out
 | 0,_=>none
 | n+1,env=>(u env).bind λt=>if t=true then (b env).bind λo=>match o with
   | .nx Qj=>cO u b n Qj
   | .ct Qj=>cO u b n Qj
   | .bk Qj=>M.ok (.nx Qj)
   | .rt p=>M.ok (.rt p)
  else M.ok (.nx env)
def Ae{E:XK}{u:af->M Bool}{g:af->M Out}(n:af->Nat)(O:eg X λ_=>E)(hc:PT X c (tT (λ_=>E) u))(hb:jE X body (tS E g)):PS X (.While c body [] pos) (tS E λenv=>cO u g (n env) env):=by
 refine(D_ O.own hc hb).imp λD σ H q=>?_;obtain⟨B,H₀,Hs,env,sr,q⟩:=q;refine⟨λm σ H=>∃Hs env,SR B H₀ Hs H σ env/\ao (cO u g m env) (KS D B H₀) (XW E B H₀),⟨n env,Hs,env,sr,q⟩,?_⟩;rintro m σ1 H1 ⟨Qw,env1,Td,q1⟩;cases m with
 | zero=>exact q1.elim
 | succ m =>
  refine⟨B,H₀,Qw,env1,Td,(ao.bind q1).imp (λt ht Qx H2 g2=>?_) λe he=>he.grow Td.gr⟩;have QN:=Td.grow g2;cases t with
  | false=>exact ht σ1 Qx H2 QN
  | true =>
   refine⟨fun σ' H'=>∃Ql Qj,SR B H₀ Ql H' σ' Qj/\ao (cO u g m Qj) (KS D B H₀) (XW E B H₀),fun σ' H' z=>⟨m,WZ m,z⟩,B,H₀,Qx,env1,QN,(ao.bind ht).imp (λo ho=>?_) λe he=>he⟩;cases o with
   | nx Qj=>exact fun σ' Ql H' Ru=>⟨Ql,Qj,Ru,ho⟩
   | ct Qj=>exact fun σ' Ql H' Ru=>⟨Ql,Qj,Ru,ho⟩
   | bk Qj=>exact ho
   |rt p=>exact ho
theorem i5{u:af->M Bool}{g:af->M Out}:∀(n k:Nat)(env:af),cO u g n env≠none->cO u g (n+k) env=cO u g n env
 | 0,_,_,h=>(h rfl).elim
 | n+1,k,env,h=>by
  rw[show n+1+k=(n+k)+1 by lia];unfold cO at h ⊢;cases hu:u env with
  | none=>rfl
  | some z =>
   cases z with
   | error e=>rfl
   | ok t =>
    rw[hu] at h;cases t with
    | false=>rfl
    | true =>
     show M.bind (g env) _=M.bind (g env) _;have h':M.bind (g env) (λo=>match o with
      | .nx Qj=>cO u g n Qj
      | .ct Qj=>cO u g n Qj
      | .bk Qj=>M.ok (.nx Qj)
      | .rt p=>M.ok (.rt p))≠none:=h
     cases hg:g env with
     | none=>rfl
     | some z =>
      cases z with
      | error e=>rfl
      | ok o =>
       rw[hg] at h';cases o with
       | nx Qj=>exact i5 n k Qj h'
       | ct Qj=>exact i5 n k Qj h'
       | bk Qj=>rfl
       |rt p=>rfl
def ji(u:af->M Bool)(b:af->M Out)(env:af):M Out:=open Classical in cO u b (if h:∃n,cO u b n env≠none then h.choose else 0) env
def zJ{u:af->M Bool}{b:af->M Out}{env:af}(h:cO u b n env≠none):ji u b env=cO u b n env:=by
 have hx:∃n,cO u b n env≠none:=⟨n,h⟩
 unfold ji;rw[dif_pos hx];have h1:=hx.choose_spec;rw[<- i5 _ n env h1,<- i5 n hx.choose env h,aaK]
def oZ{E:XK}{u:af->M Bool}{g:af->M Out}(O:eg X λ_=>E)(hc:PT X c (tT (λ_=>E) u))(hb:jE X body (tS E g)):PS X (.While c body [] pos) (tS E (ji u g)) :=
 Ae (λenv=>open Classical in if h:∃n,cO u g n env≠none then h.choose else 0) O hc hb
end
noncomputable def Mm:PV->Option String
 | .c8=>some "NoneType"
 | .bl _=>some "bool"
 | .int _=>some "int"
 | .str _=>some "str"
 | .lst _=>some "list"
 | .jN _=>some "list"
 | .tup _=>some "tuple"
 | .emp=>some "dict"
 |_=>none
noncomputable def oo(a t:String):Bool:=a==t||(a == "bool" && t == "int")
def ou(K:UU):W9 K (.type "NoneType") (.type "int")=some false:=by with_unfolding_all kernel_rfl
def vA(K:UU):W9 K (.type "bool") (.type "int")=some true:=by with_unfolding_all kernel_rfl
noncomputable def tys:List String:=["int","bool","str","list","tuple"]
def MT(K:UU){a t:String}(ha:Mm p=some a)(ht:t∈tys):W9 K (.type a) (.type t)=some (oo a t):=by
 have ht2:t="int" \/ t="bool" \/ t="str" \/ t="list" \/ t="tuple" := by simpa [tys] using ht
 cases p<;>cases ha<;>rcases ht2 with rfl|rfl|rfl|rfl|rfl<;>first
  | exact ou K
  | exact kt_NoneType_bool K
  | exact kt_NoneType_str K
  | exact kt_NoneType_list K
  | exact kt_NoneType_tuple K
  | exact vA K
  | exact kt_bool_bool K
  | exact kt_bool_str K
  | exact kt_bool_list K
  | exact kt_bool_tuple K
  | exact kt_int_int K
  | exact kt_int_bool K
  | exact kt_int_str K
  | exact kt_int_list K
  | exact kt_int_tuple K
  | exact kt_str_int K
  | exact kt_str_bool K
  | exact kt_str_str K
  | exact kt_str_list K
  | exact kt_str_tuple K
  | exact kt_list_int K
  | exact kt_list_bool K
  | exact kt_list_str K
  | exact kt_list_list K
  | exact kt_list_tuple K
  | exact kt_tuple_int K
  | exact kt_tuple_bool K
  | exact kt_tuple_str K
  | exact kt_tuple_list K
  | exact kt_tuple_tuple K
  | exact kt_dict_int K
  | exact kt_dict_bool K
  | exact kt_dict_str K
  | exact kt_dict_list K
  |exact kt_dict_tuple K
def Ep{K:UU}{a:String}(s:bf Hs H)(r:Rep Hs p v)(ha:Mm p=some a):j8 K H v (.type a):=by
 cases r with
 | c8=>cases ha;exact .c8
 | bl b=>cases ha;exact .bl b
 | int i=>cases ha;exact .int i
 | str x=>cases ha;exact .str x
 | tup h _=>cases ha;exact .tup (s _ _ h)
 | lst h _=>cases ha;exact .lst (s _ _ h)
 | jN h _=>cases ha;exact .kX (s _ _ h)
 | emp h=>cases ha;exact .dK (s _ _ h)
 |_=>cases ha
theorem yI(K:UU){p:PV}{a:String}(ha:Mm p=some a):∀{Ts:List String},(∀t∈Ts,t∈tys)->Z8 K (.type a) (Ts.map Wm)=some (Ts.any λt=>oo a t)
 | [],_=>rfl
 | t::r,h=>by
  have h1:=MT K ha (h t VA);have h2:=yI K ha (Ts:=r) λt q=>h t (Vm _ q);simp only[Vg,Z8,h1,Zk];cases oo a t with
  | true=>rfl
  |false=>exact h2
structure JO (K:UU) (C:Addr):Prop where
 cls:mF K C
 ha:VY K (.ref C) "__class__"=some (some (.builtin "object.__class__"))
 hn:YS K (.builtin "object.__class__") "__get__"=some (some (.builtin "getset_descriptor.__get__"))
 LG:Zy K (.builtin "object.__class__")=some true
 hm:aao K C (.type "object")=some true
noncomputable def Bj(b:String->Bool)(ob oe:Addr->Option Bool):PV->M PV
 | .obj C _=>fW ((ob C).map .bl)
 | .exc C _=>fW ((oe C).map .bl)
 |p=>fW ((Mm p).map λa=>.bl (b a))
section
variable{pos p px pt:Pos}{f:af->M PV}{T:String}{ob oe:Addr->Option Bool}
def JM{fo:Option (List (Str×PV))}(s:bf Hs H)(r:Rep Hs (.exc C fo) v):∃a fo',v=.ref a/\ExcAt H a C fo':=by
 cases r with
 | @xM a _ h=>exact⟨a,none,rfl,s _ _ h⟩
 |@wZ a _ d _ vs h h2 _=>exact⟨a,some vs,rfl,d,s _ _ h,s _ _ h2⟩
def Ei(b:String->Bool)(ob oe:Addr->Option Bool)(f:af->M PV):af->M PV:=λenv=>(f env).bind (Bj b ob oe)
def vW{b:String->Bool}{p:PV}{Q:PV->Prop}{F:EX->Prop}(h:ao (Bj b ob oe p) Q F):(∃a,Mm p=some a/\Q (.bl (b a)))\/(∃C fs k,p=.obj C fs/\ob C=some k/\Q (.bl k))\/∃C fo k,p=.exc C fo/\oe C=some k/\Q (.bl k):=by
 cases p with
 | obj C fs =>
  obtain⟨z,e,q⟩:=ao.opt h;obtain⟨k,e2,rfl⟩:=Vo.mp e;exact .inr (.inl ⟨C,fs,k,rfl,e2,q⟩)
 | exc C fo =>
  obtain⟨z,e,q⟩:=ao.opt h;obtain⟨k,e2,rfl⟩:=Vo.mp e;exact .inr (.inr ⟨C,fo,k,rfl,e2,q⟩)
 | c8=>exact .inl ⟨_,rfl,h⟩
 | bl _=>exact .inl ⟨_,rfl,h⟩
 | int _=>exact .inl ⟨_,rfl,h⟩
 | str _=>exact .inl ⟨_,rfl,h⟩
 | tup _=>exact .inl ⟨_,rfl,h⟩
 | lst _=>exact .inl ⟨_,rfl,h⟩
 | jN _=>exact .inl ⟨_,rfl,h⟩
 | emp=>exact .inl ⟨_,rfl,h⟩
 |rf _=>exact h.elim
def Dm{K:UU}{fs:List (Str×PV)}(s:bf Hs H)(r:Rep Hs (.obj C fs) v)(c:JO K C):j8 K H v (.ref C):=by
 cases r with
 |obj h _=>exact .ins (s _ _ h) c.cls c.ha c.hn c.LG c.hm
def qg(hg:Gl X "isinstance")(hm:X.mg "isinstance"=none)(hT:PE X (.Name x pt) (tC (.ty T)))(ht:T∈tys)(UA:∀C b,ob C=some b->JO X.K C/\W9 X.K (.ref C) (.type T)=some b)(RP:∀C b,oe C=some b->ja X.K C/\W9 X.K (.ref C) (.type T)=some b)(he:PE X e (tE E f))(h1:autoParam (starEach [e,.Name x pt] X.env=(false,eval e X.env)::starEach [.Name x pt] X.env) aR._auto_1)(h2:autoParam (starEach [.Name x pt] X.env=(false,eval (.Name x pt) X.env)::starEach [] X.env) aR._auto_1)(QG:autoParam ((backTo pos (starEach [.Name x pt] X.env)).any (·.1)=false) aR._auto_1):PE X (.Call (.Name "isinstance" p) [e,.Name x pt] [] pos) (tE E (Ei (λa=>oo a T) ob oe f)):=by
 refine(me (du.or CU Bb) hg hm Ca (fq he (fq hT lE h2) h1) ↑12 ↑12 h1 QG).imp fun σ H Q q=>cw (K:=kP Q) kP.g q λB H₀ Hs H1 env p v sr rp hp=>?_;rcases vW hp with ⟨a,ha,q⟩|⟨C,fs,k,rfl,e,q⟩|⟨C,fo,k,rfl,e,q⟩
 .exact .inl ⟨v,T,_,_,rfl,Ep sr.gr.sub rp ha,MT X.K ha ht,eU.flat q sr.gr.sub (.bl _)⟩
 .exact .inl ⟨v,T,_,_,rfl,Dm sr.gr.sub rp (UA C k e).1,(UA C k e).2,eU.flat q sr.gr.sub (.bl _)⟩
 .obtain⟨a,fo',rfl,hx⟩:=JM sr.gr.sub rp;exact .inr ⟨a,C,fo',k,(RP C k e).1,hx,.inl ⟨T,rfl,(RP C k e).2⟩,eU.flat q sr.gr.sub (.bl _)⟩
def EV{e2:Expr}{t2:TE}{Ts:List String}(hg:Gl X "isinstance")(hm:X.mg "isinstance"=none)(hT:PE X e2 t2)(ht2:∀σ H R,(∀p,H p=none->R (.ref p) (upd H p (.tup (Ts.map V.ty))))->t2 σ H R)(ht:∀t∈Ts,t∈tys)(UA:∀C b,ob C=some b->JO X.K C/\Z8 X.K (.ref C) (Ts.map Wm)=some b)(he:PE X e (tE E f))(h1:autoParam (starEach [e,e2] X.env=(false,eval e X.env)::starEach [e2] X.env) aR._auto_1)(h2:autoParam (starEach [e2] X.env=(false,eval e2 X.env)::starEach [] X.env) aR._auto_1)(QG:autoParam ((backTo pos (starEach [e2] X.env)).any (·.1)=false) aR._auto_1):PE X (.Call (.Name "isinstance" p) [e,e2] [] pos) (tE E (Ei (λa=>Ts.any λt=>oo a t) ob (λ_=>none) f)):=by
 refine(me zz hg hm Ca (fq he (fq hT lE h2) h1) ↑12 ↑12 h1 QG).imp fun σ H Q q=>cw (K:=kP Q) kP.g q λB H₀ Hs H1 env p v sr rp hp=>?_;refine ht2 σ H1 _ λtp hn=>?_;have g:=bg.new (o:=.tup (Ts.map V.ty)) sr.gr.sub hn;rcases vW hp with ⟨a,ha,q⟩|⟨C,fs,k,rfl,e,q⟩|⟨C,fo,k,rfl,e,q⟩
 .exact⟨v,tp,Ts,_,_,rfl,av,Ep g.sub (rp.mono g.st) ha,yI X.K ha ht,q _ _ _ g (.bl _)⟩
 .exact⟨v,tp,Ts,_,_,rfl,av,Dm g.sub (rp.mono g.st) (UA C k e).1,(UA C k e).2,q _ _ _ g (.bl _)⟩
 .cases e
end
section
open PySem.SeqAt (shaped noMix noMixAll)
mutual
def dat:PV->Option PyData
 | .c8=>some .none
 | .bl b=>some (.bool b)
 | .int i=>some (.int i)
 | .str x=>some (.str x)
 | .tup xs=>(mH xs).map .tuple
 | .lst xs=>(mH xs).map .list
 | .jN xs=>(mH xs).map .list
 | .obj _ _=>none
 | .exc _ _=>none
 | .emp=>none
 |.rf _=>none
def mH:List PV->Option (List PyData)
 | []=>some []
 |p::r=>(dat p).bind λd=>(mH r).map (d::·)
end
mutual
theorem Rep.reads{Hs:Hp}(I:Inv X Qg σ H s)(sm:bf Hs H):∀{p:PV}{v:V}{u:Value}{d:PyData},Rep Hs p v->RelV v u->dat p=some d->∃as,Reads s.heap u d as
 | _,_,u,d,.c8,r,e=>by
  cases e;cases (show u=VC from r);exact⟨_,.none⟩
 | _,_,u,d,.bl b,r,e=>by
  cases e;cases (show u=Xq b from r);exact⟨_,.bool b⟩
 | _,_,u,d,.int i,r,e=>by
  cases e;obtain⟨t,rfl⟩:=(show ∃t,u=Zb i t from r);exact⟨_,.int i t⟩
 | _,_,u,d,.str i,r,e=>by
  cases e;obtain⟨t,rfl⟩:=(show ∃t,u=ZX i t from r);exact⟨_,.str i t⟩
 | _,_,u,d,.tup (a:=a) ha hx,r,e=>by
  obtain⟨ds,e2,rfl⟩:=Vo.mp (show (mH _).map PyData.tuple=some d from e);cases (show u=U5 a from r);obtain⟨Qo,r1,⟨o,ho,hc,n,hd⟩,_⟩:=I.tuple (gR.of (sm _ _ ha));obtain⟨as,ra⟩:=aL.reads I sm hx r1 e2;exact⟨_,.tuple ho hc hd (by simpa using ra)⟩
 | _,_,u,d,.lst (a:=a) ha hx,r,e=>by
  obtain⟨ds,e2,rfl⟩:=Vo.mp (show (mH _).map PyData.list=some d from e);cases (show u=U5 a from r);obtain⟨Qo,r1,⟨o,n,ho,hc,_,hd⟩,_⟩:=I.list (g9.of (sm _ _ ha));obtain⟨as,ra⟩:=aL.reads I sm hx r1 e2;exact⟨_,.list ho hc hd (by simpa using ra)⟩
 | _,_,u,d,.jN (a:=a) (o:=ob) ha hx,r,e=>by
  obtain⟨ds,e2,rfl⟩:=Vo.mp (show (mH _).map PyData.list=some d from e);cases (show u=U5 a from r);obtain⟨Qo,r1,⟨o,n,ho,hc,_,hd⟩,_⟩:=I.list (.inl (.inr ⟨ob,sm _ _ ha⟩));obtain⟨as,ra⟩:=aL.reads I sm hx r1 e2;exact⟨_,.list ho hc hd (by simpa using ra)⟩
 | _,_,u,d,.obj _ _,r,e=>by cases e
 | _,_,u,d,.xM _,r,e=>by cases e
 | _,_,u,d,.wZ _ _ _,r,e=>by cases e
 | _,_,u,d,.emp _,r,e=>by cases e
 |_,_,u,d,.rf _ _,r,e=>by cases e
theorem aL.reads{Hs:Hp}(I:Inv X Qg σ H s)(sm:bf Hs H):∀{p:List PV}{v:List V}{u:List Value}{d:List PyData},aL Hs p v->Vals v u->mH p=some d->∃as,ReadsAll s.heap u d as
 | _,_,_,_,.nil,.nil,e=>by cases e;exact⟨_,.nil⟩
 | _,_,_,d,.cons (p:=p) (ps:=ps) h hr,.cons r rr,e=>by
  obtain⟨d1,e1,e2⟩:=YL.mp (show (dat p).bind (λd=>(mH ps).map (d::·))=some d from e);obtain⟨ds,e3,rfl⟩:=Vo.mp e2;obtain⟨as,ra⟩:=Rep.reads I sm h r e1;obtain⟨bs,rb⟩:=aL.reads I sm hr rr e3;exact⟨_,.cons ra rb⟩
end
noncomputable def HY(d e:PyData):M Bool:=cQ (shaped d=true/\shaped e=true/\noMix d e=true) (M.ok (same d e))
def o8(o:Bool->PV)(p q:PV):M PV:=match dat p,dat q with
 | some d,some e=>(HY d e).bind λb=>M.ok (o b)
 |_,_=>none
def uN:PV->PV->M PV:=o8 λb=>.bl b
def vg:PV->PV->M PV:=o8 λb=>.bl (!b)
def Co(o:Bool->Bool):R2:=λx y H Q=>∃Hs p q d e,bf Hs H/\Rep Hs p x/\Rep Hs q y/\dat p=some d/\dat q=some e/\shaped d=true/\shaped e=true/\noMix d e=true/\Q (.bl (o (same d e))) H
def Ef(hu:X.A.units+64<cLine):gQ X (compareOp .Eq) (Co id):=by
 intro Qg s σ H x y v u Q I rx ry h;obtain⟨Hs,p,q,d,e,sm,rp,rq,hd,he,h1,h2,h3,hq⟩:=h;obtain⟨as,ra⟩:=Rep.reads I sm rp rx hd;obtain⟨bs,rb⟩:=Rep.reads I sm rq ry he;exact eq_dataH_same ra rb h1 h2 hu h3 (xR I hq rfl)
def DU(hu:X.A.units+64<cLine):gQ X (compareOp .NotEq) (Co not):=by
 intro Qg s σ H x y v u Q I rx ry h;obtain⟨Hs,p,q,d,e,sm,rp,rq,hd,he,h1,h2,h3,hq⟩:=h;obtain⟨as,ra⟩:=Rep.reads I sm rp rx hd;obtain⟨bs,rb⟩:=Rep.reads I sm rq ry he;exact ne_dataH_same ra rb h1 h2 hu h3 (xR I hq rfl)
def BU{o:Bool->Bool}:mU E (Co o) (o8 λb=>.bl (o b)):=by
 intro σ Hs H p q v u Q s rp rq h;unfold o8 at h
 split at h
 .rename_i d e hd he;have h':=ao.bind h;obtain⟨⟨h1,h2,h3⟩,h⟩:=ao.cQ h';exact⟨Hs,p,q,d,e,s,rp,rq,hd,he,h1,h2,h3,eU.flat h s (.bl _)⟩
 .exact h.elim
def HS:mU E (Co id) uN:=BU
def Hn:mU E (Co not) vg:=BU
noncomputable def oq(xs:List PV)(lo hi:Option Int):List PV:=(xs.drop (HT.de xs.length 0 lo)).take (HT.de xs.length xs.length hi-HT.de xs.length 0 lo)
def aL.cut(r:aL H xs vs)(lo hi:Option Int):aL H (oq xs lo hi) (vz vs lo hi):=by
 unfold oq vz;rw[r.length];exact(r.drop _).take _
abbrev L7(Q:Option Int->Hp->Prop):Hp->Hp->Option Int->Prop:=λHs H k=>∀Ql H',bg Hs H Ql H'->Q k H'
def NO(E:St->XK)(g:af->M (Option Int)):TO:=fun σ H Q=>tG E g (L7 Q) σ H
def PO.imp{e:Option Expr}{t t':TO}(h:PO X e t)(i:∀σ H Q,t' σ H Q->t σ H Q):PO X e t':=λQg s σ H Q I q=>h Qg s σ H Q I (i σ H Q q)
noncomputable def Jl:PV->M (Option Int)
 | .int i=>M.ok (some i)
 |_=>none
def z8:af->M (Option Int):=λ_=>M.ok none
def iT(f:af->M PV):af->M (Option Int):=λenv=>(f env).bind Jl
section
variable{lo hi:Option Expr}{pos p2:Pos}{f:af->M PV}{gl gh:af->M (Option Int)}
theorem L7.g{Q:Option Int->Hp->Prop}:KG (L7 Q):=λHs H Ql H' b k g Qx H2 g2=>k Qx H2 (g.trans g2)
def oX:PO X none (NO E z8):=EU.imp fun σ H Q q=>by
 obtain⟨B,H₀,Hs,env,sr,q⟩:=q;exact q Hs H (.refl sr.gr.sub)
def ku(he:PE X e (tE E f)):PO X (some e) (NO E (iT f)):=(Fd he).imp fun σ H Q q=>cw (K:=L7 Q) L7.g q λB H₀ Hs H1 env p v sr rp hp=>by
 cases rp with
 | int i=>exact⟨i,rfl,hp Hs H1 (.refl sr.gr.sub)⟩
 |_=>exact hp.elim
end
def hX(xs:List PV):List PV:=xs.mapIdx λi x=>.tup [.int (i:Nat),x]
section
variable{K:UU}{fs:af->M (List PV)}
def tm{a:Addr}(hq:∀Ql H',bf Qw Ql->bf Ql H'->g9 K H' a vs)(hr:aL Qw xs vs):i_ (Ko K a) Qw (hX xs) where
 stop:=λi Hs H s1 s2 hi=>by
  unfold hX at hi;rw[Xs,hr.length] at hi;exact⟨vs,hq Hs H s1 s2,hi⟩
 go:=λi Hs H s1 s2 hi=>by
  unfold hX at hi;rw[Xs] at hi;obtain⟨v,e,_⟩:=hr.get (UW hi);exact⟨vs,v,hq Hs H s1 s2,e⟩
 vd:=λi Hs H x H2 s1 s2 hi y=>by
  unfold hX at hi;rw[Xs] at hi;obtain⟨v,e,r⟩:=hr.get (UW hi);obtain⟨pa,v',hn,rfl,rfl,y1⟩:=y;have z1:=y1 vs (hq Hs H s1 s2);rw[e] at z1;cases z1;have gr:=bg.new (o:=.tup [.int (i:Nat),v]) s2 hn;refine⟨.tup [.int (i:Nat),xs[i]],_,?_,gr,.tup av (.cons (.int _) (.cons ((r.mono s1).mono gr.st) .nil))⟩;unfold hX;rw[abn,UW hi];rfl
end
end
def Gs(lo st:Int)(n:Nat):It:=⟨λi _=>i<n,λi H x H'=>H'=H/\x=.int (lo+(i:Nat)*st),λi _=>n<=i⟩
theorem wL{K:UU}(it:Addr)(lo st:Int)(n:Nat):Turn P w K tg (Gs lo st n) [it] it (λi h=>IsRangeIter h it (lo+(i:Nat)*st) ((n:Int)-(i:Nat)) st) where
 mem:=by simp
 obj:=λi h st b hb=>by
  have e:b=it:=by simpa using hb
  subst e;exact⟨_,st,λv z=>by
   have z':Data.fields _=Data.cell v:=z;cases z'⟩
 keep:=λi h h' st k=>k it ↑13 _ st
 item:=by
  intro X hP hw hK hc i Qg s σ H E I hf Qn hg;subst hP hw hK;obtain⟨f0,f1,f2,f3,f4,f5⟩:=hf it ↑13;have W:=Walks.range (prog:=X.prog) (w:=X.w) (I.ok.hd hc) it lo st n;refine W.item i s _ _ hg Qn λv h' tk hv R1 kk=>?_;obtain⟨t,rfl⟩:=hv;have I1:Inv X Qg σ H { s with heap:=h',toks:=tk }:=I.turned (λb o hb e=>kk b o (by simpa using hb) e) f0 f1 f3 f4 f5;exact⟨_,rfl,vS (s:={ s with heap:=h',toks:=tk }) (n := "range_iterator") R1 rfl rfl ↑12 ⟨.int (lo+(i:Nat)*st),H,I1,⟨t,rfl⟩,⟨rfl,rfl⟩,R1,λb hb=>(hf b hb).1⟩⟩
 done:=by
  intro X hP hw hK hc i Qg s σ H E I hf Qn hg;subst hP hw hK;obtain⟨f0,f1,f2,f3,f4,f5⟩:=hf it ↑13;exact aaB (I.ok.hd hc) Qn (by have:n<=i:=hg;lia) λh' eb=>⟨rfl,I.turned (t':=s.toks) (λb o hb e=>eb b o hb e) f0 f1 f3 f4 f5⟩
 self:=λ_ _ _ _ _ st h=>aaC st h
theorem vc(a b c:Int):0<=Vs a b c:=by
 unfold Vs
 split
 .split
  .have:=WW (a:=b-a-1) (b:=c) ⋯ ⋯;lia
  .lia
 .split
  .have:=WW (a:=a-b-1) (b:=-c) ⋯ ⋯;lia
  .lia
theorem zH{R:It->Hp->Prop}{E:Value->Shared->Prop}{lo hi st:Int}{t u v:Tok}{tk:Nat}(I:Inv X Qg σ H s)(hsm:ZM lo hi st=true)(q:R (Gs lo st (Vs lo hi st).toNat) H):wpAny ↑8 X.A (pyIter (.ref s.heap.objs.size)) (OY X Qg σ tg R) E { s with heap:=s.heap.push { cls:=.type "range",data:=.fields #[.int lo t,.int hi u,.int st v] },toks:=tk }:=by
 refine wpAny_pyIter_range (IsRange.new ..) hsm ?_;have I1:Inv X Qg σ H { s with heap:=s.heap.push { cls:=.type "range",data:=.fields #[.int lo t,.int hi u,.int st v] },toks:=tk }:=I.kept λb o e=>UT _ e;refine⟨(s.heap.push { cls:=.type "range",data:=.fields #[.int lo t,.int hi u,.int st v] }).objs.size,[(s.heap.push { cls:=.type "range",data:=.fields #[.int lo t,.int hi u,.int st v] }).objs.size],_,_,H,rfl,
  I1.kept (t':=tk) λb o e=>UT _ e,wL _ lo st (Vs lo hi st).toNat,?_,λb hb=>?_,q⟩
 .have e1:lo+((0:Nat):Int)*st=lo:=by simp
  have e2:(((Vs lo hi st).toNat:Nat):Int)-((0:Nat):Int)=Vs lo hi st:=by have:=vc lo hi st;lia
  show IsRangeIter _ _ (lo+((0:Nat):Int)*st) ((((Vs lo hi st).toNat:Nat):Int)-((0:Nat):Int)) st;rw[e1,e2];exact U1 _ rfl
 .have e:b=(s.heap.push { cls:=.type "range",data:=.fields #[.int lo t,.int hi u,.int st v] }).objs.size:=by simpa using hb
  subst e;exact I1.rn (UZ _) (I1.bq.fresh (UZ _))
noncomputable def C3(i j k:Int):Bool:=decide (k≠0)&&decide (k.natAbs<1073741824)&&ZM i j k
def Hm(ta:TA):TI:=fun σ H R=>ta σ H λvs H1=>∃i j k:Int,vs=[.int i,.int j,.int k]/\C3 i j k=true/\R (Gs i k (Vs i j k).toNat) H1
def AD{a b:Expr}{ta:TA}{p pos:Pos}(hg:Gl X "range")(hm:X.mg "range"=none)(ha:PA X [a,b,c] ta)(hs:autoParam (starEach [a,b,c] X.env=[(false,eval a X.env),(false,eval b X.env),(false,eval c X.env)]) aR._auto_1)(Rx:autoParam (starEach [b,c] X.env=[(false,eval b X.env),(false,eval c X.env)]) aR._auto_1):PI X tg (.Call (.Name "range" p) [a,b,c] [] pos) (Hm ta):=by
 intro Qg s σ H R I h;refine Call_ (jr I hg hm boot_range (V_ (ck (ha pos Qg s σ H _ I h) λus s1 ⟨vs,H1,I1,r1,q1⟩=>?_) (by rw[hs,Rx]) (by rw[Rx];rfl)));obtain⟨i,j,k,e,hc,q⟩:=q1;subst e;cases r1 with
 | cons r rr =>
  cases rr with
  | cons r' rr =>
   cases rr with
   | cons UR rr =>
    cases rr;obtain⟨t,rfl⟩:=r;obtain⟨t',rfl⟩:=r';obtain⟨t'',rfl⟩:=UR;unfold C3 at hc;rw[VR,VR] at hc;exact call_range_3 (of_decide_eq_true hc.1.1) (zH I1 hc.2 q) (.inl (PyProof.noPylong_small (of_decide_eq_true hc.1.2)))
noncomputable def Dz:List PV->M (List PV)
 | [.int i,.int j,.int k]=>cQ (C3 i j k=true) (M.ok ((Vc (Vs i j k).toNat).map λ(n:Nat)=>.int (i+n*k)))
 |_=>none
section
variable{K:UU}{fs:af->M (List PV)}
def zx{lo st:Int}:i_ (Gs lo st n) Qw ((Vc n).map λ(i:Nat)=>PV.int (lo+(i:Int)*st)) where
 stop:=λi Hs H s1 s2 hi=>show n<=i by simpa using hi
 go:=λi Hs H s1 s2 hi=>show i<n by simpa using hi
 vd:=λi Hs H x H2 s1 s2 hi y=>by
  obtain⟨rfl,rfl⟩:=y;have SD:i<n:=by simpa using hi
  exact⟨.int (lo+(i:Int)*st),Hs,by simp[SD],.refl s2,.int _⟩
def zV{ps:List PV}{Q:List PV->Prop}{F:EX->Prop}(h:ao (Dz ps) Q F):∃i j k,ps=[.int i,.int j,.int k]/\C3 i j k=true/\Q ((Vc (Vs i j k).toNat).map λ(n:Nat)=>.int (i+n*k)):=by
 unfold Dz at h
 split at h
 .obtain⟨hc,h⟩:=ao.cQ h;exact⟨_,_,_,rfl,hc,h⟩
 .exact h.elim
def aL.three{q r:PV}(h:aL H [p,q,r] vs):∃v u w,vs=[v,u,w]/\Rep H p v/\Rep H q u/\Rep H r w:=by
 cases h with
 |cons h r=>obtain⟨u,w,rfl,h2,h3⟩:=r.two;exact⟨_,_,_,rfl,h,h2,h3⟩
def DZ:yU E (Hm (tL E fs)) (jR Dz fs):=by
 intro σ H R q;refine cP (K:=KI R) KI.g q λB H₀ Hs H1 env ps v sr rp hp=>?_;obtain⟨i,j,k,rfl,hc,hp⟩:=zV hp;obtain⟨w,u,z,rfl,RS,ru,rz⟩:=rp.three;cases RS;cases ru;cases rz;exact⟨i,j,k,rfl,hc,hp _ Hs H1 (.refl sr.gr.sub) zx⟩
end
noncomputable def jA:List PV->List PV->List PV->List PV
 | x::xs,y::ys,z::zs=>.tup [x,y,z]::jA xs ys zs
 |_,_,_=>[]
theorem sI:∀{xs ys zs:List PV}{i:Nat}(h1:i<xs.length)(h2:i<ys.length)(h3:i<zs.length),(jA xs ys zs)[i]?=some (.tup [xs[i],ys[i],zs[i]])
 | x::xs,y::ys,z::zs,0,_,_,_=>rfl
 | x::xs,y::ys,z::zs,i+1,h1,h2,h3=>by
  show (jA xs ys zs)[i]?=_;exact sI (xs:=xs) (ys:=ys) (zs:=zs) (i:=i) (by simpa using h1) (by simpa using h2) (by simpa using h3)
 | [],_,_,_,h1,_,_=>by simp at h1
 | _::_,[],_,_,_,h2,_=>by simp at h2
 |_::_,_::_,[],_,_,_,h3=>by simp at h3
theorem kF:∀{xs ys zs:List PV},(jA xs ys zs).length=min xs.length (min ys.length zs.length)
 | x::xs,y::ys,z::zs=>by
  show (jA xs ys zs).length+1=_;rw[kF];simp only[Vw];lia
 | [],_,_=>by simp[jA]
 | _::_,[],_=>by simp[jA]
 |_::_,_::_,[]=>by simp[jA]
noncomputable def w4:List PV->M (List PV)
 | [p,q,r]=>match bY p,bY q,bY r with
  | some xs,some ys,some zs=>M.ok (jA xs ys zs)
  | _,_,_=>none
 |_=>none
section
variable{K:UU}{fs:af->M (List PV)}
theorem zk{b1 b2 b3:Bool}{a1 a2 a3:Addr}{ys zs:List PV}{us ws:List V}(QX:∀Ql H',bf Qw Ql->bf Ql H'->kR K H' b1 a1 vs)(S2:aL Qw xs vs)(QQ:∀Ql H',bf Qw Ql->bf Ql H'->kR K H' b2 a2 us)(S5:aL Qw ys us)(Se:∀Ql H',bf Qw Ql->bf Ql H'->kR K H' b3 a3 ws)(UC:aL Qw zs ws):i_ (NW K b1 b2 b3 a1 a2 a3) Qw (jA xs ys zs) where
 stop:=λi Hs H s1 s2 hi=>by
  rw[kF,S2.length,S5.length,UC.length] at hi;exact⟨vs,us,ws,QX Hs H s1 s2,QQ Hs H s1 s2,Se Hs H s1 s2,by lia⟩
 go:=λi Hs H s1 s2 hi=>by
  rw[kF] at hi;obtain⟨v,e,_⟩:=S2.get (UW (show i<xs.length by lia));obtain⟨u,e',_⟩:=S5.get (UW (show i<ys.length by lia));obtain⟨w,e'',_⟩:=UC.get (UW (show i<zs.length by lia));exact⟨vs,us,ws,v,u,w,QX Hs H s1 s2,QQ Hs H s1 s2,Se Hs H s1 s2,e,e',e''⟩
 vd:=λi Hs H x H2 s1 s2 hi y=>by
  rw[kF] at hi;have l1:i<xs.length:=by lia
  have l2:i<ys.length:=by lia
  have l3:i<zs.length:=by lia
  obtain⟨v,e,r⟩:=S2.get (UW l1);obtain⟨u,e',r'⟩:=S5.get (UW l2);obtain⟨w,e'',UR⟩:=UC.get (UW l3);obtain⟨pa,v',u',w',hn,rfl,rfl,y1,y2,y3⟩:=y;have z1:=y1 vs (QX Hs H s1 s2);have z2:=y2 us (QQ Hs H s1 s2);have z3:=y3 ws (Se Hs H s1 s2);rw[e] at z1;cases z1;rw[e'] at z2;cases z2;rw[e''] at z3;cases z3;have gr:=bg.new (o:=.tup [v,u,w]) s2 hn;exact⟨_,_,sI l1 l2 l3,gr,.tup av (.cons ((r.mono s1).mono gr.st) (.cons ((r'.mono s1).mono gr.st) (.cons ((UR.mono s1).mono gr.st) .nil)))⟩
def zA{ps:List PV}{Q:List PV->Prop}{F:EX->Prop}(h:ao (w4 ps) Q F):∃p q r xs ys zs,ps=[p,q,r]/\bY p=some xs/\bY q=some ys/\bY r=some zs/\Q (jA xs ys zs):=by
 unfold w4 at h
 split at h
 .split at h
  .exact⟨_,_,_,_,_,_,rfl,by assumption,by assumption,by assumption,h⟩
  .exact h.elim
 .exact h.elim
def vN:yU E (H_ K (tL E fs)) (jR w4 fs):=by
 intro σ H R q;refine cP (K:=KI R) KI.g q λB H₀ Hs H1 env ps v sr rp hp=>?_;obtain⟨p,q,r,xs,ys,zs,rfl,e1,e2,e3,hp⟩:=zA hp;obtain⟨w,u,z,rfl,RS,ru,rz⟩:=rp.three;obtain⟨b1,a1,vs,rfl,QX,S2⟩:=kj (K:=K) sr.gr.sub RS e1;obtain⟨b2,a2,us,rfl,QQ,S5⟩:=kj (K:=K) sr.gr.sub ru e2;obtain⟨b3,a3,ws,rfl,Se,UC⟩:=kj (K:=K) sr.gr.sub rz e3;exact⟨b1,b2,b3,a1,a2,a3,rfl,⟨vs,QX Hs H1 (λ_ _ z=>z) sr.gr.sub⟩,⟨us,QQ Hs H1 (λ_ _ z=>z) sr.gr.sub⟩,⟨ws,Se Hs H1 (λ_ _ z=>z) sr.gr.sub⟩,hp _ Hs H1 (.refl sr.gr.sub) (zk QX S2 QQ S5 Se UC)⟩
end
noncomputable def nG(i j k:Nat):PV->af->M af
 | .tup [p,q,r],env=>M.ok (((env.set i (some (.sh p))).set j (some (.sh q))).set k (some (.sh r)))
 |_,_=>none
def yr{E:XK}{K:UU}:AY E (kM K 3 (bK (aM i) (bK (aM j) (bK (aM k) jY)))) (nG i j k):=by
 intro B H₀ Hs H σ env p v Q Z sr r h;cases r with
 | @tup a xs vs ha hx =>
  match xs,hx with
  | [p,q,r],hx =>
   obtain⟨v,u,w,rfl,rp,rq,rr⟩:=hx.three;exact⟨a,[v,u,w],rfl,gR.of (sr.gr.sub _ _ ha),rfl,v,[u,w],rfl,u,[w],rfl,w,[],rfl,rfl,h _ (((sr.set rp).set rq).set rr)⟩
  | [],_=>exact h.elim
  | [_],_=>exact h.elim
  | [_,_],_=>exact h.elim
  | _::_::_::_::_,_=>exact h.elim
 |_=>exact h.elim
def xc:nK (nG i j k):=λp env e h n=>by
 unfold nG at h
 split at h
 .cases h;exact kJ (kJ (kJ n))
 .cases h
def FT(set:PV->af->M af)(f:af->M PV):af->M Out:=λenv=>(f env).bind λp=>(set p env).bind λQj=>M.ok (.nx Qj)
section
variable{E:XK}{pos px:Pos}{fs:af->M (List PV)}{f h:af->M PV}
def KH{g:TG}{set:PV->af->M af}(hg:PG X tg g)(Sx:AY E g set)(he:PE X e (tE (λ_=>E) f))(hs:autoParam (swapsWithSole [tg] e pos.line X.env=pure false) aR._auto_1)(hw:autoParam (swappedStores [tg] e X.env=pure none) aR._auto_1)(h1:autoParam ((assignEach [tg] X.env).map (·.2)=[assign tg X.env]) aR._auto_1):PS X (.Assign [tg] e pos) (tS E (FT set f)):=by
 refine(Jt he hg hs hw h1).imp λD σ H q=>iH q λB H₀ Hs H1 env p v sr rp hp=>?_;exact Sx B H₀ Hs H1 σ env p v _ _ sr rp ((ao.bind hp).imp (λQj he' σ' Ru=>he' σ' Hs H1 Ru) λ_ z=>z)
noncomputable def ownAt(i:Nat)(env:af):M (List PV):=match env[i]? with
 | some (some (.ow xs))=>M.ok xs
 |_=>none
def ao.own{env:af}{Q:List PV->Prop}{F:EX->Prop}(h:ao (ownAt i env) Q F):∃xs,env[i]?=some (some (.ow xs))/\Q xs:=by
 unfold ownAt at h
 split at h
 .exact⟨_,by assumption,h⟩
 .exact h.elim
def NK(n:Nat)(sem:List PV->M (List PV)):Sp:=λvs H Q E=>vs.length=n/\∃Hs ps,bf Hs H/\aL Hs ps vs/\ao (sem ps) (KO Q Hs H) (XW E Hs H)
end
def KO.gr{Q:VK}:KG (KO Q):=λHs H Ql H' b k g vs p Qx H2 g2 r n=>k vs p Qx H2 (g.trans g2) r n
section
variable{sem:List PV->M (List PV)}{p pos:Pos}{o:Expr}{fs:af->M (List PV)}{g:af->M PV}
end
mutual
def qC:PV->Bool
 | .c8=>true
 | .bl _=>true
 | .int _=>true
 | .str _=>true
 | .tup xs=>nu xs
 |_=>false
def nu:List PV->Bool
 | []=>true
 |p::r=>qC p&&nu r
end
mutual
theorem Rep.away{Hs:Hp}{a:Addr}{ws:List V}(ha:Hs a=some (.lst ws)):∀{p:PV}{v:V},Rep Hs p v->qC p=true->Rep (rem Hs a) p v
 | _,_,.c8,_=>.c8
 | _,_,.bl b,_=>.bl b
 | _,_,.int b,_=>.int b
 | _,_,.str b,_=>.str b
 | _,_,.tup (a:=c) h r,n=>by
  have nc:c≠a:=λz=>by subst z;rw[ha] at h;cases h
  exact .tup (by unfold rem;rwa[if_neg nc]) (r.away ha n)
 | _,_,.lst _ _,n=>by cases n
 | _,_,.jN _ _,n=>by cases n
 | _,_,.obj _ _,n=>by cases n
 | _,_,.xM _,n=>by cases n
 | _,_,.wZ _ _ _,n=>by cases n
 | _,_,.emp _,n=>by cases n
 |_,_,.rf _ _,n=>by cases n
theorem aL.away{Hs:Hp}{a:Addr}{ws:List V}(ha:Hs a=some (.lst ws)):∀{p:List PV}{v:List V},aL Hs p v->nu p=true->aL (rem Hs a) p v
 | _,_,.nil,_=>.nil
 | _,_,.cons h r,n=>by
  have n':=Zv.mp (show (qC _&&nu _)=true from n);exact .cons (h.away ha n'.1) (r.away ha n'.2)
end
noncomputable def DR:M PV->M PV
 | some (.ok p)=>cQ (qC p=true) (M.ok p)
 |_=>none
noncomputable def CF:M Bool->M Bool
 | some (.ok p)=>M.ok p
 |_=>none
theorem ao.DR{r:M PV}{Q:PV->Prop}{E:EX->Prop}(h:ao (L2.DR r) Q E):ao r (λp=>qC p=true/\Q p) (λ_=>False):=by
 cases r with
 | none=>exact h
 | some r=>cases r with
  | error e=>exact h
  | ok p =>
   obtain⟨n,h⟩:=ao.cQ h;exact⟨n,h⟩
theorem ao.CF{r:M Bool}{Q:Bool->Prop}{E:EX->Prop}(h:ao (L2.CF r) Q E):ao r Q (λ_=>False):=by
 cases r with
 | none=>exact h
 | some r=>cases r with
  | error e=>exact h
  |ok p=>exact h
def bg.back{Ql H':Hp}{a:Addr}{ws:List V}(h1:Hs a=none)(hH:H a=some (.lst ws))(s:bf Hs H)(g:bg (upd Hs a (.lst ws)) H Ql H'):bg Hs H (rem Ql a) H'/\Ql a=some (.lst ws):=by
 have e:Ql a=some (.lst ws):=g.st _ _ av;refine⟨⟨λc u q=>?_,g.al,λc u q=>?_,λc u q1 q2 q3=>?_⟩,e⟩
 .have nc:c≠a:=λz=>by subst z;rw[h1] at q;cases q
  unfold rem;rw[if_neg nc];exact g.st c u (by rwa[au nc])
 .unfold rem at q
  split at q
  .cases q
  .exact g.sub c u q
 .unfold rem
  by_cases nc:c=a
  .rw[if_pos nc]
  .rw[if_neg nc];exact g.nw c u (by rwa[au nc]) q2 q3
def SR.lend{B:Hp}{env:af}(r:SR B H₀ Hs H σ env)(e:env[i]?=some (some (.ow xs))):∃a vs,Hs a=none/\H a=some (.lst vs)/\SR B H₀ (upd Hs a (.lst vs)) H σ (nX i env):=by
 obtain⟨a,vs,h1,h2,h3,_⟩:=r.Ni e;unfold nX;rw[e];exact⟨a,vs,h1,h2,h3⟩
def jX(i:Nat)(f:af->M PV):af->M PV:=λenv=>(ownAt i env).bind λ_=>DR (f (nX i env))
def CM(i:Nat)(f:af->M Bool):af->M Bool:=λenv=>(ownAt i env).bind λ_=>CF (f (nX i env))
section
variable{f:af->M PV}{u:af->M Bool}
def mj(i:Nat)(he:PE X e (tE E f)):PE X e (tE E (jX i f)):=he.imp fun σ H Q q=>by
 obtain⟨B,H₀,Hs,env,sr,q⟩:=q;obtain⟨xs,ex,q⟩:=ao.own (ao.bind q);obtain⟨a,vs,h3,h2,QN⟩:=sr.lend ex;refine⟨B,H₀,_,_,QN,(ao.DR q).imp (λp hp v Ql H' g r=>?_) λ_ z=>z.elim⟩;obtain⟨g2,ea⟩:=bg.back h3 h2 sr.gr.sub g;exact hp.2 v _ _ g2 (r.away ea hp.1)
def Gw(i:Nat)(he:PT X e (tT E u)):PT X e (tT E (CM i u)):=he.imp fun σ H Q q=>by
 obtain⟨B,H₀,Hs,env,sr,q⟩:=q;obtain⟨xs,ex,q⟩:=ao.own (ao.bind q);obtain⟨a,vs,h3,h2,QN⟩:=sr.lend ex;refine⟨B,H₀,_,_,QN,(ao.CF q).imp (λp hp Ql H' g=>?_) λ_ z=>z.elim⟩;obtain⟨g2,ea⟩:=bg.back h3 h2 sr.gr.sub g;exact hp _ _ g2
end
noncomputable def cG:PV->PV->M PV:=xE (λ_ j=>decide (j≠0/\j.natAbs.log2<9000)) λi j=>i.fdiv j
noncomputable def cD:PV->PV->M PV:=xE (λ_ j=>decide (j≠0)) λi j=>i.fmod j
noncomputable def Fu:PV->PV->M PV:=xE (λi j=>decide (0<=j/\j<=1000000/\i.natAbs<2^64)) λi j=>i^j.toNat
def FW:PV->PV->M PV:=DA λi j=>decide (i<j)
def Fm:PV->PV->M PV:=DA λi j=>decide (i<=j)
def BN:PV->PV->M PV:=DA λi j=>decide (j<i)
def LM:PV->PV->M PV:=DA λi j=>decide (j<=i)
def C0:mU E (rI CT λi j=>.int (i.fdiv j)) cG:=GL
def FC:mU E (rI (λ_ j=>j≠0) λi j=>.int (i.fmod j)) cD:=JL
def EY:mU E (rI JY λi j=>.int (i^j.toNat)) Fu:=Ln
def xf:mU E (yj λi j=>.bl (decide (i<j))) FW:=uq
def pY:mU E (yj λi j=>.bl (decide (i<=j))) Fm:=uq
def Bx:mU E (yj λi j=>.bl (decide (j<i))) BN:=uq
def Cz:mU E (yj λi j=>.bl (decide (j<=i))) LM:=uq
def bB(n:Nat)(s:List PV->M PV):List PV->M PV:=λps=>cQ (ps.length=n) (s ps)
def qw{s:List PV->M PV}{ps:List PV}(h:bB n s ps≠none):ps.length=n:=by
 unfold bB cQ at h
 split at h
 .assumption
 .exact(h rfl).elim
section
variable{K:UU}
def C_{s:List PV->M PV}(F:aV P w K mg base (bQ P w) k f fd ps (eh n s)):aV P w K mg base (bQ P w) k f fd ps (eh n (bB n s)) where
 len:=λvs H Q E h=>by
  obtain⟨h0,Hs,qs,sm,r,h⟩:=h;exact F.len vs H Q E ⟨h0,Hs,qs,sm,r,(ao.cQ h).2⟩
 run:=λA outer s H args us vs Q E hr e hb rv h=>by
  obtain⟨h0,Hs,qs,sm,r,h⟩:=h;exact F.run A outer s H args us vs Q E hr e hb rv ⟨h0,Hs,qs,sm,r,(ao.cQ h).2⟩
structure dR (P:Program) (w:World) (K:UU) (mg:Str->Option Value) (base:Heap) (n:Nat) (x:Str) (m:Nat) (sem:List PV->M PV):Prop where
 ex:∃(f:Addr)(fd:FuncData)(ps:List Str),mg x=some (.ref f)/\V4 K (.ref f)=true/\ps.length=m/\Binds K fd ps []/\aV P w K mg base (bQ P w) n f fd ps (eh m (bB m sem))
def bp.PR{st:Stmt}{dv:Value}{g:af->M Out}(F:bp K x qual st dv f fd)(S:bS N ps (aT st))(hb:∀(Qy:Value)(A:Around)(outer:List Env)(s:Shared)(H:Hp)(E:XK),bO k (A.deeper (envOfC qual (aT st) s.heap.objs.size f Qy))->eg ((jK (bQ P w) P w K mg base N qual (aT st) f Qy A outer s H E).out λ_=>E) (λ_=>E)->jE ((jK (bQ P w) P w K mg base N qual (aT st) f Qy A outer s H E).out λ_=>E) (dO st) (tS E g)):aV P w K mg base (bQ P w) (k+1) f fd ps (eh ps.length (bB ps.length (aH N.length g))):=by
 obtain⟨oc,od,kV,doc,pm,an,Qy,ct,Ss,rfl,lk,QP⟩:=F.ex;exact C_ (Le lk QP S λA outer s H E hr=>hb Qy A outer s H E hr (yV rfl rfl))
end
section
variable{m:Nat}{sem:List PV->M PV}{fs:af->M (List PV)}{p pos:Pos}
def dR.call(F:dR X.prog X.w X.K X.mg X.base n x m sem)(hr:bO k X.A)(hn:n<=k)(hg:Gl X x)(O:eg X E)(ha:PA X (e::es) (tL E fs))(QZ:autoParam ↑7 aD._auto_1)(he:autoParam ↑0 aR._auto_1)(QG:autoParam ↑2 aR._auto_1):PE X (.Call (.Name x p) (e::es) [] pos) (tE E (ah (bB m sem) fs)):=by
 obtain⟨f,fd,ps,h1,h2,h3,h4,h5⟩:=F.ex;have:=GD (p:=p) (RQ:=[]) h5 (hr.mono hn) hg h1 h2 h4 .nil (λ_=>.nil) O (λRH hp=>by rw[VT] at hp;exact qw hp) ha QZ he QG;refine this.imp fun σ H Q q=>?_;have e:(λps=>bB m sem (ps++[]))=bB m sem:=by funext ps;rw[VT]
 rwa[e]
structure q_ (P:Program) (w:World) (K:UU) (mg:Str->Option Value) (base:Heap) (C:Addr) (n:Nat) (x:Str) (m:Nat) (sem:List PV->M PV):Prop where
 ex:∃(f:Addr)(fd:FuncData)(ps:List Str),mF K C/\Meth K C x f/\Binds K fd ps []/\aV P w K mg base (bQ P w) n f fd ps (eh m (bB m sem))
def q_.call{o:Expr}{g:af->M PV}(F:q_ X.prog X.w X.K X.mg X.base C n x m sem)(hr:bO k X.A)(hn:n<=k)(O:eg X E)(ho:PE X o (tE E g))(ha:PA X (e::es) (tL E fs))
  (QO:autoParam ↑0 aR._auto_1) (QG:autoParam ↑2 aR._auto_1)
  (ht:autoParam (eval (.Call (.Attribute o x apos) (e::es) [] pos) X.env=(do
   let ov <- eval o X.env
   standAt apos.atName
   let (f,first) <- holding [ov] (getMethod ov x pl)
   callWith pos f first (backTo pos (starEach (e::es) X.env)) (backToKw pos (keywordEach [] X.env)))) aR._auto_1) :
  PE X (.Call (.Attribute o x apos) (e::es) [] pos) (tE E (cM C x (bB m sem) g fs)):=by
 obtain⟨f,fd,ps,h1,h2,h3,h4⟩:=F.ex;exact E_ ho h1 h2 h4 (hr.mono hn) h3 O (λRH hp=>qw hp) ha QO QG ht
def q_.Mq{o:Expr}{g:af->M PV}(F:q_ X.prog X.w X.K X.mg X.base C n x m sem)(hr:bO k X.A)(hn:n<=k)(O:eg X E)(ho:PE X o (tE E g))
  (ht:autoParam (eval (.Call (.Attribute o x apos) [] [] pos) X.env=(do
   let ov <- eval o X.env
   standAt apos.atName
   let (f,first) <- holding [ov] (getMethod ov x pl)
   callWith pos f first (backTo pos (starEach [] X.env)) (backToKw pos (keywordEach [] X.env)))) aR._auto_1) :
  PE X (.Call (.Attribute o x apos) [] [] pos) (tE E (cM C x (bB m sem) g aj)):=by
 obtain⟨f,fd,ps,h1,h2,h3,h4⟩:=F.ex;exact EM ho h1 h2 h4 (hr.mono hn) h3 O (λRH hp=>qw hp) ht
end
structure HQ (P:Program) (w:World) (K:UU) (mg:Str->Option Value) (base:Heap) (C:Addr) (n:Nat) (x:Str) (m:Nat) (RQ:List PV) (sem:Addr->List PV->M (List (Str×PV))):Prop where
 ex:∃(f:Addr)(fd:FuncData)(ps:List Str)(ds:List Value)(Q0:List V),mg x=some (.ref C)/\Mk K C f/\Binds K fd ps ds/\Vals Q0 ds/\(∀H,aL H RQ Q0)/\aV P w K mg base (bQ P w) n f fd ps (Hh m C sem)
noncomputable def t9(m:Nat)(sem:Addr->List PV->M (List (Str×PV))):Addr->List PV->M (List (Str×PV)):=λa ps=>cQ (ps.length+1=m) (sem a ps)
def zo{K:UU}{s:Addr->List PV->M (List (Str×PV))}(F:aV P w K mg base (bQ P w) k f fd ps (Hh n C s)):aV P w K mg base (bQ P w) k f fd ps (Hh n C (t9 n s)) where
 len:=λvs H Q E h=>by
  obtain⟨h0,a,dx,us,Hs,H1,qs,e1,e2,e3,e4,e5,sm,r,h⟩:=h;exact F.len vs H Q E ⟨h0,a,dx,us,Hs,H1,qs,e1,e2,e3,e4,e5,sm,r,(ao.cQ h).2⟩
 run:=λA outer s H args us vs Q E hr e hb rv h=>by
  obtain⟨h0,a,dx,us',Hs,H1,qs,e1,e2,e3,e4,e5,sm,r,h⟩:=h;exact F.run A outer s H args us vs Q E hr e hb rv ⟨h0,a,dx,us',Hs,H1,qs,e1,e2,e3,e4,e5,sm,r,(ao.cQ h).2⟩
def bp.Ph{K:UU}{st:Stmt}{dv:Value}{g:af->M Out}(F:bp K x qual st dv f fd)(S:bS N ps (aT st))(hN:0<N.length)(hb:∀(Qy:Value)(A:Around)(outer:List Env)(s:Shared)(H:Hp)(E:XK),bO k (A.deeper (envOfC qual (aT st) s.heap.objs.size f Qy))->eg ((jK (bQ P w) P w K mg base N qual (aT st) f Qy A outer s H E).out λ_=>E) (λ_=>E)->jE ((jK (bQ P w) P w K mg base N qual (aT st) f Qy A outer s H E).out λ_=>E) (dO st) (tS E g)):aV P w K mg base (bQ P w) (k+1) f fd ps (Hh ps.length C (t9 ps.length (Au N.length g C))):=by
 obtain⟨oc,od,kV,doc,pm,an,Qy,ct,Ss,rfl,lk,QP⟩:=F.ex;exact zo <| GB lk QP S hN λA outer s H E hr=>hb Qy A outer s H E hr (yV rfl rfl)
section
variable{m:Nat}{fs:af->M (List PV)}{p pos:Pos}
def HQ.make{sem:Addr->List PV->M (List (Str×PV))}(F:HQ X.prog X.w X.K X.mg X.base C n x m RQ (t9 m sem))(hr:bO k X.A)(hn:n+1<=k)(hg:Gl X x)(O:eg X E)(ha:PA X (e::es) (tL E fs))(QZ:autoParam ↑7 aD._auto_1)(he:autoParam ↑0 aR._auto_1)(QG:autoParam ↑2 aR._auto_1):PE X (.Call (.Name x p) (e::es) [] pos) (tE E (ah (jB C (t9 m sem) RQ) fs)):=by
 obtain⟨f,fd,ps,ds,Q0,h1,h2,h4,h5,h6,h7⟩:=F.ex;refine FX (p:=p) h2 h7 (hr.mono hn) hg h1 h4 h5 h6 O (λa RH hp=>?_) ha QZ he QG;unfold t9 cQ at hp
 split at hp
 .rename_i h;rwa [Vb] at h
 .exact(hp rfl).elim
end
def rC:Addr->Option Bool:=λ_=>none
def pD{P:Addr->Bool->Prop}:∀C b,rC C=some b->P C b:=λ_ _ h=>by cases h
def vr{pos:Pos}(i:Nat)(hN:autoParam (X.N[i]?=some x) aR._auto_1)(hv:xh X.env.scope x:=by first|exact .inl rfl|exact .inr (.inl rfl)|exact .inr (.inr rfl))(hd:autoParam ↑7 aD._auto_1)(QP:autoParam ↑6 aD._auto_1):PE X (.Name x pos) (tE E (ae i)):=J2 hN hv hd QP
def Hr{env:Env}(h:(match e with|.Starred ..=>true|_=>false)=false):starEach (e::es) env=(false,eval e env)::starEach es env:=by
 cases e<;>first|rfl|cases h
noncomputable def j_:List Expr->Option (List Int)
 | []=>some []
 | .Constant (.int i) _ _::r=>(j_ r).map (i::·)
 |_=>none
section
variable{pos:Pos}
theorem zg:∀{es:List Expr}{ns:List Int},j_ es=some ns->PA X es (tL E λ_=>M.ok (ns.map PV.int))
 | [],_,h=>by cases h;exact Ed
 | e::r,ns,h=>by
  obtain⟨i,j,p,rfl,h⟩:∃i j p,e=.Constant (.int i) j p/\(j_ r).map (i::·)=some ns:=by
   cases e<;>first
    | (cases h;done)
    | (rename_i c j p;cases c<;>first|(cases h;done)|exact⟨_,_,_,rfl,h⟩)
  obtain⟨ms,h1,rfl⟩:=Vo.mp h;exact yY Eg (zg h1) (Hr rfl)
def yi(ns:List Int)(h:autoParam (j_ es=some ns) aR._auto_1)(hz:autoParam (ns.length<=1000) aD._auto_1):PE X (.List es pos) (tE E λ_=>M.ok (.lst (ns.map PV.int))):=by
 refine(Ey (E:=E) (zg h)).imp fun σ H Q q=>?_;have e:(e_ λ_=>M.ok (ns.map PV.int))=λ_=>M.ok (.lst (ns.map PV.int)):=by
  funext env
  show cQ _ _=_;unfold cQ;rw[if_pos (by rw[U0];exact VM hz ↑12)]
 rwa[e]
end
section
variable{a b:Expr}{pos:Pos}{f g:af->M PV}
end
structure EC (K:UU) (mg:Str->Option Value) (C:Addr) (x:Str):Prop where
 hc:Zo K C eY "ValueError.__new__"=true
 c:ja K C
 ht:Yc K (.ref C)=some (.type "type")
 kp:V4 K (.ref C)=true
 m:mg x=some (.ref C)
structure uI (P:Program) (w:World) (K:UU) (mg:Str->Option Value) (base:Heap) (C:Addr) (x fl:Str):Prop where
 ex:∃(f:Addr)(fd:FuncData)(ps:List Str),qc K C "ValueError.__new__" f=true/\Yn K (.ref f)=true/\aV P w K mg base (bQ P w) 1 f fd ps (Av K C fl)/\Binds K fd ps []
 c:ja K C
 ht:Yc K (.ref C)=some (.type "type")
 kp:V4 K (.ref C)=true
 m:mg x=some (.ref C)
section
variable{E:XK}{pos p:Pos}{fl:Str}{fs:af->M (List PV)}
def EC.raise(F:EC X.K X.mg C x)(O:eg X λ_=>E)(Qt:X.calm=true)(hg:Gl X x)(ha:PA X (e::es) (tL (λ_=>E) fs))(QZ:autoParam ↑7 aD._auto_1)(he:autoParam ↑0 aR._auto_1)(QG:autoParam ((backTo Qu (starEach es X.env)).any (·.1)=false) aR._auto_1):PS X (.Raise (some (.Call (.Name x p) (e::es) [] Qu)) none pos) (tS E (iR C fs)):=AR O Qt F.hc F.c F.ht F.kp hg F.m ha QZ he QG
def uI.raise(F:uI X.prog X.w X.K X.mg X.base C x fl)(hr:bO k X.A)(hn:2<=k)(O:eg X λ_=>E)(Qt:X.calm=true)(hg:Gl X x)(ha:PA X [e] (tL (λ_=>E) fs))(QZ:autoParam ↑7 aD._auto_1)(he:autoParam (starEach [e] X.env=(false,eval e X.env)::starEach [] X.env) aR._auto_1)(QG:autoParam ((backTo Qu (starEach [] X.env)).any (·.1)=false) aR._auto_1):PS X (.Raise (some (.Call (.Name x p) [e] [] Qu)) none pos) (tS E (jV C fl fs)):=by
 obtain⟨f,fd,ps,h1,h2,h3,h4⟩:=F.ex;exact Am O Qt h1 h2 F.c F.ht F.kp h3 (hr.mono hn) h4 hg F.m ha QZ he QG
end
section
variable{pos:Pos}
end
section
variable{cl:List (Str×Addr)}{pos:Pos}{wi:TI}{it:af->M (List PV)}{g:TG}{set:PV->af->M af}{f:af->M PV}{fs:List Str}
variable{E:XK}{py Sf:Pos}
def oS(Qt:X.calm=true)(QK:closureFor scope X.env=pure cl)(hk:scope.kind=.function)(nc:f7 scope.names=true)(lo:hG scope.names=true)(fh:h_ cl scope.names=true)(ag:eN X cl)(fr:iE X scope cl fs js)(hi:PI X tg iter wi)(hv:yU (λ_=>E) wi it)(hg:∀C s₀ H₀ ex Qg,PG (rj X scope cl (ts++fs) C s₀ H₀ ex Qg) tg g)(Sx:∀E,AY E g set)(so:nK set)(he:∀C s₀ H₀ ex Qg,PE (rj X scope cl (ts++fs) C s₀ H₀ ex Qg) elt (tE EF f))(hN:X.N.Nodup)(hiy:X.N[i]?=some y)(hy:Loc X.env.scope y)(hs:autoParam ↑5 aI._auto_1)(UG:autoParam (swapsWith (.ListComp elt [⟨tg,iter,[],0⟩] scope pos) (some (.Name y py)) Sf.line X.env=pure true) aR._auto_1)(hf:autoParam (X.fn y=true\/X.env.scope.names.lookup y=some .local) aF._auto_1):PS X (.Assign [.Name y py] (.ListComp elt [⟨tg,iter,[],0⟩] scope pos) Sf) (tS E (ba i (b_ (cm it set none f ts.length js)))):=by
 refine(Gv hN hiy hy Qt QK hk nc lo fh ag fr hi hg he hs UG hf).imp λD σ H q=>?_;refine wB hv Sx so ?_;obtain⟨B,H₀,Hs,env,sr,q⟩:=q;refine⟨B,H₀,Hs,env,sr,(ao.bind (ao.bind q)).imp (λps hp vs p Ql H' g r n=>?_) λe he=>he.grow sr.gr⟩;have gn:=bg.new (o:=.lst vs) g.sub n;exact hp _ _ _ ((sr.grow (g.trans gn)).set (.lst av (r.mono gn.st)))
end
section
variable{a:Expr}{ta:TA}{p pos:Pos}
end
section
variable{fs:af->M (List PV)}{a:Expr}{p p2 pos pos2:Pos}
end
section
open AutoSeq1 (wpAny_loadPart')
def zy(l:Addr)(Qi:Array Value)(n:Nat)(rf:Option Addr)(sl:Array (Option Value)):Meets (Builtin.«enumerate.__new__» ⟨[.type "enumerate",.ref l],[]⟩) (λ_ R s=>s.heap.get? l=some { cls:=.type "tuple",dict:=rf,data:=.seq Qi n,slots:=sl } ∧R (.ok (.ret (.ref (s.heap.push { cls:=.type "tuple_iterator",data:=.fields #[.ref l,.int 0 0] }).objs.size))) { s with heap:=(s.heap.push { cls:=.type "tuple_iterator",data:=.fields #[.ref l,.int 0 0] }).push { cls:=.type "enumerate",data:=.fields #[.none,.bool false,.ref s.heap.objs.size,rawInt 0,.none,.none] } }) :=
 .of_wp λprog w A R s h=>by
  obtain⟨hp,g,d,tk,os⟩:=s;obtain⟨hl,h⟩:=h;have UE:=sub_enumerate;have hL:Heap.IsTuple (Zt ⟨hp,g,d,tk,os⟩) l Qi:=⟨_,hl,rfl,n,rfl⟩
  wp_walk using ZD hl
  refine wpAny_stack_any λst=>UX ?_
  split
  .rename_i c _ _ _ _ _;cases (c==Wm "enumerate")
   .wp_walk using ZD hl,X3 hL
    exact⟨_,rfl,h⟩
   .wp_walk using ZD hl,X3 hL
    exact⟨_,rfl,h⟩
  .wp_walk using ZD hl,X3 hL
   exact⟨_,rfl,h⟩
section
variable{E:Value->Shared->Prop}
def xG(hL:s.heap.IsTuple l Qi)(h:∀h',IsEnum h' (s.heap.objs.size+1) s.heap.objs.size 0 .none->h'.IsTupleIter s.heap.objs.size l 0->h'.objs.size=s.heap.objs.size+2 ->(∀b o,s.heap.get? b=some o->h'.get? b=some o)->Q (.ref (s.heap.objs.size+1)) { s with heap:=h' }):wpAny ↑11 A (call (.type "enumerate") [.ref l]) Q E s:=by
 obtain⟨⟨c,rf,dt,sl⟩,hl,hc,n,hd⟩:=hL
 replace hc:c=.type "tuple" := hc
 replace hd:dt=.seq Qi n:=hd
 subst hc hd;refine ab7 F.called_enumerate ↑12 (F.typeCall_enumerate_1 _) (F.newCall_enumerate_1 _) (λobj=>F.args_object_init_2 obj _) F.entry_enumerate_new
  (zy l Qi n rf sl) ⟨hl,?_⟩
 have hz:(s.heap.push { cls:=.type "tuple_iterator",data:=.fields #[.ref l,.int 0 0] }).objs.size=s.heap.objs.size+1:=VN ..;show _/\_;rw[hz];have he:IsEnum ((s.heap.push { cls:=.type "tuple_iterator",data:=.fields #[.ref l,.int 0 0] }).push
   { cls:=.type "enumerate",data:=.fields #[.none,.bool false,.ref s.heap.objs.size,rawInt 0,.none,.none] }) (s.heap.objs.size+1) s.heap.objs.size 0 .none:=by
  have:=U1 (s.heap.push { cls:=.type "tuple_iterator",data:=.fields #[.ref l,.int 0 0] })
   (o:={ cls:=.type "enumerate",data:=.fields #[.none,.bool false,.ref s.heap.objs.size,rawInt 0,.none,.none] }) rfl
  rwa[hz] at this
 refine⟨⟨_,he,rfl⟩,h _ he ⟨_,UT _ (U1 _ rfl),rfl,rfl⟩ (by rw[VN,hz]) λb o x=>UT _ (UT _ x)⟩
end
def J3(hh:A.handled=none)(it t:Addr)(Qi:Array Value):Draws prog w A it [it,t] Qi.size (λi v=>Qi[i]?=some v) (λi h=>h.IsTupleIter it t i/\h.IsTuple t Qi) where
 live:=λ_ _ st=>let ⟨⟨o,ho,_⟩,_⟩:=st;⟨o,ho⟩
 frame:=λ_ _ _ st hk=>by
  obtain⟨⟨o,ho,r⟩,⟨o2,Sw,r2⟩⟩:=st;exact⟨⟨o,hk it ↑13 o ho,r⟩,⟨o2,hk t ↑13 o2 Sw,r2⟩⟩
 item:=λi s Q E hi st hQ=>by
  obtain⟨st,tt⟩:=st;refine g_ st tt (x:=Qi[i]) (by simp[hi]) λh' TN R_=>?_;refine hQ _ h' s.toks (by simp[hi]) ⟨TN,?_⟩ R_;obtain⟨o,ho,c1,_⟩:=st;obtain⟨o2,Sw,c2,r2⟩:=tt;refine⟨o2,(R_.2 t λz=>?_).trans Sw,c2,r2⟩;rw[z,ho] at Sw;cases Sw;rw[c1] at c2;exact absurd c2 ↑12
 done:=λs Q E st hE=>ff hh st.1 st.2 ↑13 hE
def Kf (K : UU)(a : Addr) : It :=
  ⟨λi H => ∃xs x,gR K H a xs /\ xs[i]? = some x,
   λi H y H' => ∃p x,H p=none /\ y=.ref p /\ H'=upd H p (.tup [.int i,x]) /\ ∀xs,gR K H a xs -> xs[i]? = some x,
   λi H => ∃xs,gR K H a xs /\ xs.length <= i⟩
theorem xm{K:UU}{tp:Pos}(a e it:Addr)(SG:e≠it):Turn P w K (.Tuple elts x1 tp) (Kf K a) [e,it] e (λi h=>(∃old,IsEnum h e it i old)/\h.IsTupleIter it a i) where
 mem:=by simp
 obj:=λi h st b hb=>by
  obtain⟨⟨old,he⟩,⟨o,e1,c,d⟩⟩:=st;rcases U9.mp hb with z|z
  .subst z;exact⟨_,he,λv z=>by cases z⟩
  .have z':b=it:=by simpa using z
   subst z';exact⟨o,e1,λv z=>by rw[d] at z;cases z⟩
 keep:=λi h h' st k=>by
  obtain⟨⟨old,he⟩,⟨o,ho,r⟩⟩:=st;exact⟨⟨old,k e ↑13 _ he⟩,⟨o,k it ↑13 o ho,r⟩⟩
 item:=by
  intro X hP hw hK hc i Qg s σ H E I hf st hg;subst hP hw hK;obtain⟨xs,x,hq,hx⟩:=hg;obtain⟨Qo,rv,p,hz⟩:=I.tuple hq;obtain⟨u,hu,ru⟩:=rv.get hx;obtain⟨⟨old,he⟩,hit⟩:=st;have SU:e<s.heap.objs.size:=U3 he;have TM:it<s.heap.objs.size:=by obtain⟨_,z,_⟩:=hit;exact U3 z
  have hea:e ∉ [it,a]:=λz=>by
   rcases U9.mp z with z|z
   .exact SG z
   .obtain⟨o,ho,c,_⟩:=p;rw[<- Vr.mp z,he] at ho;cases ho;exact absurd (show Wm "enumerate"=Wm "tuple" from c) ↑12
  have SD:i<Qo.toArray.size:=by
   have:=(VW.mp hu).1;simpa using this
  refine wpAny_pyNext_enum_itemD (J3 (A:=X.A.in1) (I.ok.hd hc) it a Qo.toArray) he ⟨hit,p⟩ SD SG hea λu' h' tk hu' ho QO hT hsz hk=>⟨_,rfl,?_⟩
  have eu:u'=u:=by
   rw[List.getElem?_toArray,hu] at hu';exact(Vf hu').symm
  subst eu;refine Z5 (s:={ s with heap:=h',toks:=tk+1 }) ho λh2 Uq Rx=>?_;have S8:∀b o,b ∉ [e,it]->s.heap.get? b=some o->h2.get? b=some o:=λb o hb q=>by
   have n1:b≠e:=λz=>hb (by simp[z]);have n2:b≠it:=λz=>hb (by simp[z]);exact(Rx.2 b n1).trans (hk b o n1 n2 q)
  have Ti:h2.get? s.heap.objs.size=some { cls:=.type "tuple",data:=.seq #[.int i tk,u'] }:=(Rx.2 _ (WB SU)).trans hT;have I2:Inv X Qg σ (upd H s.heap.objs.size (.tup [.int i,x])) { s with heap:=h2,toks:=tk+1 } :=
   I.kz (ch:=[e,it]) S8 hf (UZ _) (λb hb=>by
    rcases U9.mp hb with z|z
    .subst z;exact⟨_,he⟩
    .have z':b=it:=by simpa using z
     subst z';obtain⟨o,z,_⟩:=hit;exact⟨o,z⟩)
    ⟨by show 2<=sizeLine;decide,[.int i tk,u'],.cons ⟨_,rfl⟩ (.cons ru .nil),⟨_,Ti,rfl,_,rfl⟩⟩
  have RF:H s.heap.objs.size=none:=I.bq.fresh (UZ _);obtain⟨oi,hoi,ri⟩:=QO.1;refine⟨.ref s.heap.objs.size,_,I2,rfl,⟨_,x,RF,rfl,rfl,λys hy=>by rwa[I.nv hy hq]⟩,⟨⟨u',by simpa using Uq⟩,⟨oi,(Rx.2 it (W5 SG)).trans hoi,ri⟩⟩,λb hb=>?_⟩;have nb:b≠s.heap.objs.size:=by
   rcases U9.mp hb with z|z
   .rw[z];exact Vh SU
   .have z':b=it:=by simpa using z
    rw[z'];exact Vh TM
  rw[au nb];exact(hf b hb).1
 done:=by
  intro X hP hw hK hc i Qg s σ H E I hf st hg;subst hP hw hK;obtain⟨xs,hq,hx⟩:=hg;obtain⟨Qo,rv,p,hz⟩:=I.tuple hq;have hl:=rv.length;obtain⟨⟨old,he⟩,hit⟩:=st;obtain⟨f0,f1,f2,f3,f4,f5⟩:=hf it ↑13;have hT:s.TypeIs (.ref e) "enumerate" := ⟨_,he,rfl⟩
  unfold pyNext;refine TR (W7 (VL (name:=VF "__next__") hT F.slot_enumerate_next
   (V8 F.slot_enumerate_next hT F.entry_enumerate_next ?_ (F.args_enumerate_next_1 _))))
  show wpAny _ _ (field (.ref e) 2 >>= _) _ _ _;refine TR (Vq he rfl (x:=.ref it) rfl ?_);refine TR (ff (I.ok.hd hc) hit p (by simp;lia) λh' x he' hx'=>?_);obtain⟨o,ho,SN⟩:=hx';refine TR (Yp (T := "StopIteration") (b:=true) ⟨o,ho,SN⟩ Z6 ?_);exact UX ⟨rfl,I.turned (t':=s.toks) (λb o hb e=>he' b o hb e) f0 f1 f3 f4 f5⟩
 self:=λ_ _ _ _ _ st h=>by
  obtain⟨⟨old,he⟩,_⟩:=st;exact YX he h
def MW(K:UU)(tl:TA):TI:=fun σ H R=>tl σ H λvs H1=>∃a,vs=[.ref a]/\(((∃xs,g9 K H1 a xs)/\R (Ko K a) H1)\/((∃xs,gR K H1 a xs)/\R (Kf K a) H1))
def nB{tp:Pos}{l:Expr}{p pos:Pos}(hg:Gl X "enumerate")(hm:X.mg "enumerate"=none)(hl:PA X [l] tl)(hs:autoParam (starEach [l] X.env=[(false,eval l X.env)]) aR._auto_1):PI X (.Tuple elts x1 tp) (.Call (.Name "enumerate" p) [l] [] pos) (MW X.K tl):=by
 intro Qg s σ H R I h;refine Call_ (jr I hg hm PyProof.Rows.boot_enumerate (V_ (ck (hl pos Qg s σ H _ I h) λus s1 ⟨vs,H1,I1,r1,q1⟩=>?_) hs rfl));obtain⟨a,e,q⟩:=q1;subst e;cases r1 with
 | cons r rr =>
  cases rr;cases (show _=U5 a from r);have fp:∀b∈[s1.heap.objs.size+1,s1.heap.objs.size],lp X Qg H1 b:=λb hb=>by
   rcases U9.mp hb with z|z
   .subst z;exact I1.rn (Yg _) (I1.bq.fresh (Yg _))
   .have z':b=s1.heap.objs.size:=by simpa using z
    subst z';exact I1.rn (UZ _) (I1.bq.fresh (UZ _))
  rcases q with ⟨⟨xs,hq⟩,q⟩|⟨⟨xs,hq⟩,q⟩
  .obtain⟨Qo,rv,pl,hz⟩:=I1.list hq;refine call_enumerate_list pl.isList λh' he hit hsz hk=>?_;refine YX (s:={ s1 with heap:=h' }) he ?_;exact⟨s1.heap.objs.size+1,[s1.heap.objs.size+1,s1.heap.objs.size],_,_,H1,rfl,I1.kept (t':=s1.toks) hk,Aw a _ _ (acy _),⟨⟨_,he⟩,hit⟩,fp,q⟩
  .obtain⟨Qo,rv,pl,hz⟩:=I1.tuple hq;refine xG pl λh' he hit hsz hk=>?_;refine YX (s:={ s1 with heap:=h' }) he ?_;exact⟨s1.heap.objs.size+1,[s1.heap.objs.size+1,s1.heap.objs.size],_,_,H1,rfl,I1.kept (t':=s1.toks) hk,xm a _ _ (acy _),⟨⟨_,he⟩,hit⟩,fp,q⟩
def O6(p:PV):M (List PV):=match bY p with
 | some xs=>M.ok (hX xs)
 |none=>none
def ET:List PV->M (List PV)
 | [p]=>O6 p
 |_=>none
section
variable{K:UU}{fs:af->M (List PV)}
def BM{a:Addr}(hq:∀Ql H',bf Qw Ql->bf Ql H'->gR K H' a vs)(hr:aL Qw xs vs):i_ (Kf K a) Qw (hX xs) where
 stop:=λi Hs H s1 s2 hi=>by
  unfold hX at hi;rw[Xs,hr.length] at hi;exact⟨vs,hq Hs H s1 s2,hi⟩
 go:=λi Hs H s1 s2 hi=>by
  unfold hX at hi;rw[Xs] at hi;obtain⟨v,e,_⟩:=hr.get (UW hi);exact⟨vs,v,hq Hs H s1 s2,e⟩
 vd:=λi Hs H x H2 s1 s2 hi y=>by
  unfold hX at hi;rw[Xs] at hi;obtain⟨v,e,r⟩:=hr.get (UW hi);obtain⟨pa,v',hn,rfl,rfl,y1⟩:=y;have z1:=y1 vs (hq Hs H s1 s2);rw[e] at z1;cases z1;have gr:=bg.new (o:=.tup [.int (i:Nat),v]) s2 hn;refine⟨.tup [.int (i:Nat),xs[i]],_,?_,gr,.tup av (.cons (.int _) (.cons ((r.mono s1).mono gr.st) .nil))⟩;unfold hX;rw[abn,UW hi];rfl
def kA:yU E (MW K (tL E fs)) (jR ET fs):=by
 intro σ H R q;refine cP (K:=KI R) KI.g q λB H₀ Hs H1 env ps v sr rp hp=>?_
 match ps,rp,hp with
 | [],_,hp=>exact hp.elim
 | _::_::_,_,hp=>exact hp.elim
 | [p],rp,hp =>
  obtain⟨w,rfl,RS⟩:=rp.one;cases RS with
  | lst ha hx=>exact⟨_,rfl,.inl ⟨⟨_,g9.of (sr.gr.sub _ _ ha)⟩,hp _ Hs H1 (.refl sr.gr.sub) (tm (λQl H' s1 s2=>g9.of (s2 _ _ (s1 _ _ ha))) hx)⟩⟩
  | jN ha hx=>exact⟨_,rfl,.inl ⟨⟨_,.inl (.inr ⟨_,sr.gr.sub _ _ ha⟩)⟩,hp _ Hs H1 (.refl sr.gr.sub) (tm (λQl H' s1 s2=>.inl (.inr ⟨_,s2 _ _ (s1 _ _ ha)⟩)) hx)⟩⟩
  | tup ha hx=>exact⟨_,rfl,.inr ⟨⟨_,gR.of (sr.gr.sub _ _ ha)⟩,hp _ Hs H1 (.refl sr.gr.sub) (BM (λQl H' s1 s2=>gR.of (s2 _ _ (s1 _ _ ha))) hx)⟩⟩
  |_=>exact hp.elim
end
end
def Oj(E:St->XK)(f:af->M Out):TS:=λD σ H=>∃B H₀ Hs env,SR B H₀ Hs H σ env/\ao (f env) (KS D B H₀) (XW (E σ) Hs H)
def z7{f:af->M PV}{g:af->PV->M Out}{D:Ends}{R:VK}(h:Oj E (λenv=>(f env).bind (g env)) D σ H)(k:∀B H₀ Hs H1 env p v,SR B H₀ Hs H1 σ env->Rep Hs p v->ao (g env p) (KS D B H₀) (λ_=>True)->R v H1):tE E f σ H R:=by
 obtain⟨B,H₀,Hs,env,sr,h⟩:=h;refine⟨B,H₀,Hs,env,sr,(ao.bind h).imp (λp hp v Ql H' g r=>?_) λe he=>he⟩;exact k B H₀ Ql H' env p v (sr.grow g) r (hp.imp (λ_ z=>z) λ_ _=>trivial)
section
variable{pos:Pos}{f:af->M PV}
def Gq(he:PE X e (tE E f))(hs:autoParam (swapsWith e none pos.line X.env=pure false) aR._auto_1):jE X [.Expr e pos] (Oj E (l4 f)):=by
 intro Qg s σ H D I q;exact pK (lO he hs) zc Qg s σ H D I (z7 q λB H₀ Hs H1 env p v sr rp hp=>hp σ Hs H1 sr)
end
def SR.unset{B:Hp}{env:af}(r:SR B H₀ Hs H σ env):SR B H₀ Hs H (σ.set i none) (env.set i none) :=
 r.chg r.gr (λ_ _ q=>q) (λ_ e=>nomatch e) (λ_ _ _ _ _ _ _ _ h1 h2 _=>⟨h1,h2⟩) λ_ e=>nomatch e
section
variable{pos:Pos}{f:af->M PV}
end
noncomputable abbrev Cx.pX(X:Cx)(pn:List (Addr×Obj)):Cx:={ X with pn:=pn }
noncomputable abbrev Cx.hand(X:Cx)(ea:Addr):Cx:={ X with A:=X.A.mark (some (.ref ea)),calm:=false,xe:=λ_ _=>False }
section
variable{R6:List (Addr×Obj)}{ea:Addr}
theorem Cx.Ok.pX(ok:X.Ok)(pn:List (Addr×Obj)):(X.pX pn).Ok:=⟨ok.mod,ok.kind,ok.glob,ok.blt,ok.above,ok.inj,ok.has,ok.HR,ok.hd,ok.frames,ok.Jy,ok.Lx,ok.bs,ok.Ee,ok.uZ,ok.vK,ok.lu,ok.EO⟩
def Cx.Ok.qR{pn:List (Addr×Obj)}(ok:(X.pX pn).Ok):X.Ok:=⟨ok.mod,ok.kind,ok.glob,ok.blt,ok.above,ok.inj,ok.has,ok.HR,ok.hd,ok.frames,ok.Jy,ok.Lx,ok.bs,ok.Ee,ok.uZ,ok.vK,ok.lu,ok.EO⟩
theorem Cx.Ok.hand(ok:X.Ok)(ea:Addr):(X.hand ea).Ok:=⟨ok.mod,ok.kind,ok.glob,ok.blt,ok.above,ok.inj,ok.has,ok.HR,(λz=>nomatch z),ok.frames,ok.Jy,ok.Lx,ok.bs,ok.Ee,ok.uZ,ok.vK,ok.lu,ok.EO⟩
theorem Inv.pX(I:Inv X Qg σ H s):Inv (X.pX (X.pn++Qg)) [] σ H s:=⟨I.ok.pX _,I.os,I.bare,I.base,I.loc,I.cell,I.free,I.gf,(λp hp=>I.pin p (by rwa[VT] at hp)),I.bq,I.len⟩
theorem Inv.qR(I:Inv (X.pX (X.pn++Qg)) R6 σ H s):Inv X Qg σ H s:=⟨I.ok.qR,I.os,I.bare,I.base,I.loc,I.cell,I.free,I.gf,(λp hp=>I.pin p (Zq _ hp)),I.bq,I.len⟩
theorem Inv.hand(I:Inv X Qg σ H s)(ea:Addr):Inv (X.hand ea) Qg σ H s:=⟨I.ok.hand ea,I.os,I.bare,I.base,I.loc,I.cell,I.free,I.gf,I.pin,I.bq,I.len⟩
def Inv.iu(I:Inv (X.hand ea) Qg σ H s)(ok:X.Ok):Inv X Qg σ H s:=⟨ok,I.os,I.bare,I.base,I.loc,I.cell,I.free,I.gf,I.pin,I.bq,I.len⟩
def Inv.A6(I:Inv X Qg σ (mK Hc ea T C dd fl) s)(h1:Hc ea=some (gW C dd ea))(h2:Hc T=none)(h3:T≠ea):Inv X Qg σ Hc s:=by
 have no:∀b,mK Hc ea T C dd fl b=none->Hc b=none:=λb e=>by
  by_cases z:b=ea
  .rw[z,pE] at e;cases e
  .by_cases z2:b=T
   .rw[z2];exact h2
   .rw[i9 z z2] at e;exact e
 have so:∀b o,mK Hc ea T C dd fl b=some o->(∀φ,o≠.ext φ)->Hc b=some o:=λb o e n=>by
  by_cases z:b=ea
  .rw[z,pE] at e;cases e;exact absurd rfl (n _)
  .by_cases z2:b=T
   .rw[z2,qy h3] at e;cases e;exact absurd rfl (n _)
   .rw[i9 z z2] at e;exact e
 refine⟨I.ok,I.os,I.bare,⟨I.base.keep,I.base.slot,λb o e n hx=>no b (I.base.free b o e n hx),I.base.there,λb xs e=>so b _ (I.base.pQ b xs e) (λ_ z=>nomatch z),λb o u e=>so b _ (I.base.lJ b o u e) (λ_ z=>nomatch z),λb ps e=>?_⟩,I.loc,I.cell,no _ I.free,λx c e=>no _ (I.gf x c e),λp hp=>?_,λb o e=>?_,I.len⟩
 .obtain⟨more,q⟩:=I.base.qT b ps e;exact⟨more,so b _ q λ_ z=>nomatch z⟩
 .obtain⟨e,n,r⟩:=I.pin p hp;exact⟨e,no _ n,r⟩
 .by_cases z:b=ea
  .subst z;rw[h1] at e;cases e;obtain⟨vs,_,_,hx,_⟩:=I.Ao h3;exact Fs hx
  .by_cases z2:b=T
   .rw[z2,h2] at e;cases e
   .refine(I.bq b o (by rwa[i9 z z2])).mB (λ_ _ _ q=>q) (λc q=>so c _ q λ_ z=>nomatch z) λc xs q=>so c _ q λ_ z=>nomatch z
def Inv.gone{E:Value->Shared->Prop}{n:Str}{pos:Pos}{Q:Unit->Shared->Prop}(I:Inv X Qg σ H s)(hN:X.N.Nodup)(hi:X.N[i]?=some n)(hx:X.env.scope.names.lookup n=some .local)
  (h:∀s',Inv X Qg (σ.set i none) H s'->Q () s'):wpAny ↑8 A (do bindName X.env n .none;unbindBehindTheSuite X.env n pos) Q E s:=by
 obtain⟨m,hn,hl⟩:=id I.loc;have DN:=I.DN;refine wpAny_nameGoes_keeps hx hn (by rw[I.ok.kind];rfl) λh' v Uy hs=>?_;obtain⟨oL,_,_,hoL,_⟩:=id hn;have tracked:kS X.prog X.w H h':=λb ob e=>by
  refine(I.bq b ob e).mB (λc w' hc q=>(hs.2 c ?_).trans q) (λ_ q=>q) λ_ _ q=>q;rintro rfl;rcases hc with z|hc
  .rw[<- z,I.free] at e;cases e
  .rw[I.free] at hc;cases hc
 refine h _ ⟨I.ok,I.os,I.bare,⟨λb o e n hb hx=>?_,λb o e n hb hx=>?_,I.base.free,λb o e hx=>?_,I.base.pQ,I.base.lJ,I.base.qT⟩,⟨_,Uy,λj y v' e1 e2 e3=>?_⟩,λy c e=>?_,I.free,I.gf,λp hp=>?_,tracked,by simpa using I.len⟩
 .exact(hs.2 b (Vh (U8 (U3 e) I.ok.above))).trans (I.base.keep b o e n hb hx)
 .obtain⟨sl,e1⟩:=I.base.slot b o e n hb hx;exact⟨sl,(hs.2 b (Vh (U8 (U3 e) I.ok.above))).trans e1⟩
 .obtain⟨o',e1⟩:=I.base.there b o e hx;exact⟨o',(hs.2 b (Vh (U8 (U3 e) I.ok.above))).trans e1⟩
 .have hj:i≠j:=λz=>by
   subst z;rw[Xd,if_pos rfl] at e2
   split at e2<;>cases e2
  rw[Zr hj] at e2;obtain⟨u',r',q⟩:=hl j y v' e1 e2 e3;refine⟨u',r',?_⟩;rcases q with ⟨k,e⟩|⟨k,c,e,z⟩
  .refine .inl ⟨k,?_⟩;have:y≠n:=λe=>hj (pA hN hi (e▸e1));simp[this,e]
  .exact .inr ⟨k,c,e,z.sameBut hs (DN y c e)⟩
 .obtain⟨w',z⟩:=I.cell y c e;exact⟨w',z.sameBut hs (DN y c e)⟩
 .obtain⟨e,n,ne,nf,d⟩:=I.pin p hp;exact⟨(hs.2 p.1 ne).trans e,n,ne,nf,d⟩
end
abbrev Hd:=(Addr->Option Bool)×Option Nat×(af->M Out)
noncomputable def Bn(i:Nat):Out->Out
 | .nx e=>.nx (e.set i none)
 | .bk e=>.bk (e.set i none)
 | .ct e=>.ct (e.set i none)
 |.rt p=>.rt p
def qx(o:Option Nat)(h:af->M Out)(x:EX)(env:af):M Out:=match o with
 | none=>BB (h env)
 |some i=>(BB (h (env.set i (some (.sh (.exc x.1 x.2)))))).bind λout=>M.ok (Bn i out)
noncomputable def rT(b:Option Bool)(x y:M Out):M Out:=match b with
 | some true=>x
 | some false=>y
 |none=>none
def iC:List Hd->EX->af->M Out
 | [],_,_=>none
 |(t,o,h)::r,x,env=>rT (t x.1) (qx o h x env) (iC r x env)
noncomputable def xC(r:M Out)(k:EX->M Out):M Out:=match r with
 | some (.error x)=>k x
 |r=>r
def FJ(f:af->M Out)(hs:List Hd):af->M Out:=λenv=>xC (f env) λx=>iC hs x env
inductive Hy (X:Cx) (E:XK):List ExceptHandler->List Hd->Prop where
 | nil:Hy X E [] []
 | A_ {x:Str} {np pos:Pos} {b₀:Stmt} {RO:List Stmt} {rest:List ExceptHandler} {t:Addr->Option Bool} {h:af->M Out} {hs:List Hd} {D:Addr} (hg:Gl X x) (hm:X.mg x=some (.ref D)) (hd:(x==("__debug__" : Str))=false)
   (ht:∀C b,t C=some b->Yh X.K (.ref C) (.ref D)=some b) (hb:∀ea,jE (X.hand ea) (b₀::RO) (tS E h)) (r:Hy X E rest hs):Hy X E (.ExceptHandler (some (.Name x np)) none (b₀::RO) pos::rest) ((t,none,h)::hs)
 | Mz {x n:Str} {i:Nat} {np pos:Pos} {b₀:Stmt} {RO:List Stmt} {rest:List ExceptHandler} {t:Addr->Option Bool} {h:af->M Out} {hs:List Hd} {D:Addr} (hg:Gl X x) (hm:X.mg x=some (.ref D)) (hd:(x==("__debug__" : Str))=false)
   (hN:X.N.Nodup) (hi:X.N[i]?=some n) (hx:X.env.scope.names.lookup n=some .local)
   (ht:∀C b,t C=some b->Yh X.K (.ref C) (.ref D)=some b) (hb:∀ea,jE (X.hand ea) (b₀::RO) (tS E h)) (r:Hy X E rest hs):Hy X E (.ExceptHandler (some (.Name x np)) (some n) (b₀::RO) pos::rest) ((t,some i,h)::hs)
variable{hd:List Hd}{hls:List ExceptHandler}
section
variable{B:Hp}{ea:Addr}{E:XK}{env:af}{fo:Option (List (Str×PV))}{D:Ends}{F:Value->Shared->Prop}
theorem SP.iu{D:Ends}{f:Flow}{s':Shared}(h:SP (X.hand ea) Qg D f s')(ok:X.Ok):SP X Qg D f s':=by
 cases f with
 | next=>obtain⟨σ',H',I,q⟩:=h;exact⟨σ',H',I.iu ok,q⟩
 | brk=>obtain⟨σ',H',I,q⟩:=h;exact⟨σ',H',I.iu ok,q⟩
 | cont=>obtain⟨σ',H',I,q⟩:=h;exact⟨σ',H',I.iu ok,q⟩
 |ret u=>obtain⟨v,σ',H',I,r,q⟩:=h;exact⟨v,σ',H',I.iu ok,r,q⟩
def ao.err{r:M α}{Q:α->Prop}(h:ao r Q (λ_=>False)):ao r Q E':=h.imp (λ_ z=>z) λ_ z=>z.elim
def Ends.gone(D:Ends)(i:Nat):Ends:=⟨fun σ H=>D.nx (σ.set i none) H,D.rt,fun σ H=>D.bk (σ.set i none) H,fun σ H=>D.ct (σ.set i none) H⟩
theorem KS.gone{i:Nat}{o:Out}(h:KS D B H₀ (Bn i o)):KS (D.gone i) B H₀ o:=by
 cases o with
 | nx e=>exact fun σ Hs H sr=>h _ Hs H sr.unset
 | bk e=>exact fun σ Hs H sr=>h _ Hs H sr.unset
 | ct e=>exact fun σ Hs H sr=>h _ Hs H sr.unset
 |rt p=>exact h
def Dt{M:Model}{o:Obj}(hx:s.heap.get? ea=some o):Yy M s.heap (typeOf (.ref ea)) o.cls:=by
 intro A Q E s' k q;exact C6 (k _ _ hx) q
def Hy.run(hh:Hy X E hls hd):∀{s:Shared},Inv X Qg σ (mK Hc ea T C dd .none) s->Hc ea=some (gW C dd ea)->Hc T=none->T≠ea->SR B H₀ Hs Hc σ env->Rep Hs (.exc C fo) (.ref ea) ->ao (iC hd (C,fo) env) (KS D B H₀) Z->wpAny ↑8 X.A (handleBy (.ref ea) X.env hls) (SP X Qg D) F s:=by
 induction hh with
 | nil=>intro s I h1 h2 h3 sr rp q;exact q.elim
 | @A_ x np pos b₀ RO rest t h hs Dc hg hm hd ht hb r ih =>
  intro s I h1 h2 h3 sr rp q;obtain⟨vs,oT,ts,hx,_⟩:=I.Ao h3;refine wpAny_handleBy_cons (aba (i6 (I.hand ea) hg hm ?_ hd)) (λq=>nomatch q);have LT:=Dt (M:=model X.prog X.w) hx;cases e:t C with
  | none=>simp only[iC,e,rT] at q;exact q.elim
  | some b =>
   refine(acQ I.jG LT (ht C b e)).here ?_;cases b with
   | false =>
    simp only[iC,e,rT] at q;exact ih I h1 h2 h3 sr rp q
   | true =>
    simp only[iC,e,rT,qx] at q;refine codeAny_handlers_suite ((I.hand ea).p8 (fr:=none) h3 λh' I2=>?_);refine Wu (hb ea Qg _ σ Hc D (I2.A6 h1 h2 h3) ⟨B,H₀,Hs,env,sr,(ao.BB q).err⟩) (λf s' z=>z.iu I.ok) λ_ _ z=>z.elim
 | @Mz x n i np pos b₀ RO rest t h hs Dc hg hm hd hN hi hxn ht hb r ih =>
  intro s I h1 h2 h3 sr rp q;obtain⟨vs,oT,ts,hx,_⟩:=I.Ao h3;refine wpAny_handleBy_cons (aba (i6 (I.hand ea) hg hm ?_ hd)) (λq=>nomatch q);have LT:=Dt (M:=model X.prog X.w) hx;cases e:t C with
  | none=>simp only[iC,e,rT] at q;exact q.elim
  | some b =>
   refine(acQ I.jG LT (ht C b e)).here ?_;cases b with
   | false =>
    simp only[iC,e,rT] at q;exact ih I h1 h2 h3 sr rp q
   | true =>
    simp only[iC,e,rT,qx] at q;refine codeAny_handlers_suite_as ((I.hand ea).p8 (fr:=none) h3 λh' I2=>?_);refine qD (X:=X.hand ea) (v:=.ref ea) (i:=i) (I2.A6 h1 h2 h3) hN hi (.inl hxn) rfl (λs3 I3=>?_) (.inr hxn);refine Wu (hb ea Qg _ _ Hc (D.gone i) I3 ⟨B,H₀,Hs,_,sr.set rp,(ao.BB (E:=Z) ?_).err⟩) (λf s' z=>?_) λ_ _ z=>z.elim
    .exact(ao.bind q).imp (λo z=>KS.gone z) λ_ z=>z
    .cases f with
     | next=>obtain⟨σ',H',I4,d⟩:=z;exact(I4.iu I.ok).gone hN hi hxn λs5 I5=>⟨_,H',I5,d⟩
     | brk=>obtain⟨σ',H',I4,d⟩:=z;exact(I4.iu I.ok).gone hN hi hxn λs5 I5=>⟨_,H',I5,d⟩
     | cont=>obtain⟨σ',H',I4,d⟩:=z;exact(I4.iu I.ok).gone hN hi hxn λs5 I5=>⟨_,H',I5,d⟩
     |ret u=>obtain⟨v,σ',H',I4,rv,d⟩:=z;exact(I4.iu I.ok).gone hN hi hxn λs5 I5=>⟨v,_,H',I5,rv,d⟩
def Jq{h₀:ExceptHandler}{pos:Pos}{f:af->M Out}(QO:X.stack=X.env::X.outer)(hf:X.env.frame=some X.env.locals)(hb:∀(pn:List (Addr×Obj))(E2:St->XK),eg ((X.pX pn).out E2) E2->jE ((X.pX pn).out E2) body (Oj E2 f))(hh:Hy X E (h₀::hls) hd):PS X (.Try body (h₀::hls) [] [] pos) (tS E (FJ f hd)):=by
 intro Qg s σ H D I q;obtain⟨B,H₀,Hs,env,sr,q⟩:=q;refine wpAny_Try_except ?_
 let E2:St->XK:=fun σ v _ Hc=>∃Hs C fo ea,v=.ref ea/\SR B H₀ Hs Hc σ env/\Rep Hs (.exc C fo) (.ref ea)/\ao (iC hd (C,fo) env) (KS D B H₀) (XW E B H₀)
 have q1:ao (f env) (KS D B H₀) (XW (E2 σ) Hs H):=by
  unfold FJ at q;cases e:f env with
  | none=>rwa[e] at q
  | some r =>
   rw[e] at q;cases r with
   | ok o=>exact q
   | error x=>exact λea Ql H' g rp=>⟨Ql,x.1,x.2,ea,rfl,sr.grow g,rp,q⟩
 refine Wu (hb (X.pn++Qg) E2 (yV QO hf) [] s σ H D (I.pX.qM _) ⟨B,H₀,Hs,env,sr,q1⟩) (λfl s1 hq=>?_) (λe s1 z=>?_)
 .cases fl with
  | next=>obtain⟨σ',H',I',d⟩:=hq;exact YA ⟨σ',H',I'.eI.qR,d⟩
  | brk=>obtain⟨σ',H',I',d⟩:=hq;exact⟨σ',H',I'.eI.qR,d⟩
  | cont=>obtain⟨σ',H',I',d⟩:=hq;exact⟨σ',H',I'.eI.qR,d⟩
  | ret u=>obtain⟨v,σ',H',I',r,d⟩:=hq;exact⟨v,σ',H',I'.eI.qR,r,d⟩
 .refine Zx.note (X:=X.pX (X.pn++Qg)) z QO hf λs' ea C dd R6 σ' Hc T he I2 h1 h2 h3 h4=>?_;subst he;refine I2.p8 (fr:=none) h3 λh' I3=>?_;obtain⟨Ql,C',fo,ea',ee,Ru,rp,hp⟩:=h4;cases ee;have I4:=I3.A6 h1 h2 h3;have eC:C'=C:=by
   obtain⟨vs,hx⟩:=I4.qP h1;cases rp with
   | xM hr =>
    obtain⟨vs2,Rz⟩:=I4.qP (Ru.gr.sub _ _ hr);rw[hx] at Rz;injection Rz with Rz;injection Rz with Rz;injection Rz with Rz;exact Rz.symm
   | wZ hr _ _ =>
    obtain⟨vs2,Rz⟩:=I4.qP (Ru.gr.sub _ _ hr);rw[hx] at Rz;injection Rz with Rz;injection Rz with Rz;injection Rz with Rz;exact Rz.symm
  subst eC;exact hh.run I3.qR h1 h2 h3 Ru rp hp
end
noncomputable def GH(ys ns:List Addr)(C:Addr):Option Bool:=if ys.contains C=true then some true else if ns.contains C=true then some false else none
variable{ns:List Addr}
def Bm{ys:List Addr}(h:GH ys ns C=some b):(b=true/\C∈ys)\/(b=false/\C∈ns):=by
 unfold GH at h
 by_cases h1:ys.contains C=true
 .rw[if_pos h1] at h;cases h;exact .inl ⟨rfl,by simpa using h1⟩
 .rw[if_neg h1] at h
  by_cases h2:ns.contains C=true
  .rw[if_pos h2] at h;cases h;exact .inr ⟨rfl,by simpa using h2⟩
  .rw[if_neg h2] at h;cases h
def MK(f:Addr->Option Bool)(ys ns:List Addr):Bool:=ys.all (λC=>f C==some true)&&ns.all λC=>f C==some false
def JX{f:Addr->Option Bool}{ys:List Addr}(h:MK f ys ns=true)(e:GH ys ns C=some b):f C=some b:=by
 unfold MK at h;rw[VR,Wd,Wd] at h;rcases Bm e with ⟨rfl,m⟩|⟨rfl,m⟩
 .exact eq_of_beq (h.1 C m)
 .exact eq_of_beq (h.2 C m)
structure NL (K:UU) (mg:Str->Option Value) (x:Str) (D:Addr) (ys ns:List Addr):Prop where
 mg:mg x=some (.ref D)
 ok:∀C b,GH ys ns C=some b->Yh K (.ref C) (.ref D)=some b
def NL.of{K:UU}{ys:List Addr}(h1:mg x=some (.ref D))(h2:MK (λC=>Yh K (.ref C) (.ref D)) ys ns=true):NL K mg x D ys ns:=⟨h1,λ_ _ e=>JX h2 e⟩
section
variable{pos p px pt:Pos}{f:af->M PV}{ys yo no:List Addr}
end
section
variable{o:Expr}{pos:Pos}{f g:af->M PV}
end
section
open PySem PySem.Spec PyProof.Rows _root_.HT
section
variable{E:Value->Shared->Prop}
def lT{t sl:Addr}{vl vu:Value}{lo hi:Option Int}(ht:IsTup s.heap t Qi)(hs:s.heap.IsSliceOf sl vl vu .none)(pl:IsPart vl lo)(pu:IsPart vu hi)(hw:de Qi.size 0 lo=0/\de Qi.size Qi.size hi=Qi.size)(h:Q (.ref t) s):wpAny ↑11 A (getItem (.ref t) (.ref sl)) Q E s:=by
 obtain⟨os,TU,hcs,Uo⟩:=id hs;have hTs:s.TypeIs (.ref sl) "slice" := ⟨os,TU,hcs⟩
 unfold getItem
 try with_reducible refine Wx ?_
 first|refine TR (UX ?_)|skip
 refine TR (wpAny_sequenceKey ht.typeIs ↑12 ?_);refine TR (VL (name:=VF "__getitem__") ht.typeIs Wa
  (V8 Wa ht.typeIs entry_tuple_getitem ?_ (args_tuple_getitem _ _)))
 show wpAny _ _ (Z2 (.ref t) >>= _) _ _ s;refine TR (tupleItemsOf_ ht ?_);refine TR (YW hTs ?_);rw[if_pos ↑12];refine TR (iG hs pl pu ?_);have hyes:(((de Qi.size 0 lo:Nat):Int)==0&&(1:Int)==1&&(de Qi.size Qi.size hi-de Qi.size 0 lo)==Qi.size)=true:=by
  rw[hw.1,hw.2];simp
 show wpAny _ _ (if (((de Qi.size 0 lo:Nat):Int)==0&&(1:Int)==1&&(de Qi.size Qi.size hi-de Qi.size 0 lo)==Qi.size)=true then _ else _) _ _ s;rw[if_pos hyes];unfold Builtin.Tuple.tupleIsExact;refine TR (TR (YW ht.typeIs (UX ?_)));rw[if_pos (show ((Wm "tuple" == Wm "tuple")=true) from beq_self_eq_true _)];refine TR (W0 ?_)
 first
  | exact TR (UX (UX ⟨_,rfl,UX h⟩))
  | exact TR (UX ⟨_,rfl,UX h⟩)
  |exact UX ⟨_,rfl,UX h⟩
end
section
variable{lo hi:Option Expr}{pos p2:Pos}{f:af->M PV}{gl gh:af->M (Option Int)}
def N5(K:UU):V->Option Int->Option Int->Hp->VK->Prop:=λx lo hi H Q=>∃a xs,x=.ref a/\gR K H a xs/\(de xs.length 0 lo=0/\de xs.length xs.length hi=xs.length)/\Q (.ref a) H
def Gm:ES X (N5 X.K):=by
 intro Qg s σ H x v vl vu lo hi sl Q I rx hs pl pu h;obtain⟨a,xs,rfl,hx,hw,q⟩:=h;cases rx;obtain⟨Qo,r,ht,hz⟩:=I.tuple hx;have hlen:Qo.toArray.size=xs.length:=by rw[U6];exact r.length.symm
 refine⟨"tuple",_,Wa.lookup,ht.typeIs,?_⟩;exact lT ht hs pl pu (by rwa[hlen]) ⟨.ref a,H,I,rfl,q⟩
noncomputable def Lu(p:PV)(lo hi:Option Int):M PV:=match p with
 | .tup xs=>M.ok (.tup (oq xs lo hi))
 | .lst xs=>M.ok (.lst (oq xs lo hi))
 | .jN xs=>M.ok (.lst (oq xs lo hi))
 |_=>none
def jS(f:af->M PV)(lo hi:af->M (Option Int)):af->M PV:=λenv=>(f env).bind λp=>(lo env).bind λl=>(hi env).bind λh=>Lu p l h
def iJ(he:PE X e (tE E f))(hl:PO X lo (NO E gl))(hh:PO X hi (NO E gh)):PE X (.Subscript e (.Slice lo hi none p2) pos) (tE E (jS f gl gh)):=by
 refine(Es (ES.or Ke (ES.or Gm FN)) he hl hh).imp fun σ H Q q=>cw (K:=kP Q) kP.g q λB H₀ Hs H1 env p v sr rp hp=>?_;refine⟨B,H₀,Hs,env,sr,(ao.bind hp).imp (λl hl Qx H2 g2=>?_) λe he=>he⟩;have QN:=sr.grow g2;refine⟨B,H₀,Qx,env,QN,(ao.bind hl).imp (λh hh RU H3 g3=>?_) λe he=>he.grow g2⟩;have Sg:=QN.grow g3;have hz:ao (Lu p l h) (eU RU H3 Q) (λ_=>True):=hh.imp (λz hz w Hs4 H4 g4 r=>hz w Hs4 H4 ((g2.trans g3).trans g4) r) λ_ _=>trivial;have rp3:=(rp.mono g2.st).mono g3.st;cases rp3 with
 | @tup a xs vs ha hx =>
  by_cases hn:de xs.length 0 l=0/\de xs.length xs.length h=xs.length
  .refine .inr (.inl ⟨_,_,rfl,gR.of (Sg.gr.sub _ _ ha),by rwa[<- hx.length],?_⟩);have e:oq xs l h=xs:=by
    unfold oq;rw[hn.1,hn.2,List.drop_zero,Nat.sub_zero,List.take_length]
   have TZ:eU RU H3 Q (.tup xs):=by
    have z:eU RU H3 Q (.tup (oq xs l h)):=hz;rwa[e] at z
   exact eU.flat TZ Sg.gr.sub (.tup ha hx)
  .exact .inl ⟨_,_,rfl,gR.of (Sg.gr.sub _ _ ha),by rwa[<- hx.length],eU.tup hz Sg.gr.sub (hx.cut l h)⟩
 | lst ha hx=>exact .inr (.inr ⟨_,_,rfl,g9.of (Sg.gr.sub _ _ ha),eU.lst hz Sg.gr.sub (hx.cut l h)⟩)
 | jN ha hx=>exact .inr (.inr ⟨_,_,rfl,.inl (.inr ⟨_,Sg.gr.sub _ _ ha⟩),eU.lst hz Sg.gr.sub (hx.cut l h)⟩)
 |_=>exact hz.elim
end
end
section
variable{o:Expr}{pos:Pos}{g:af->M PV}{fs:af->M (List PV)}{L:List (Addr×(List PV->M PV))}{K:UU}
end
section
open PySem.SeqAt (shaped EqAt RcAt RcNeAt)
section
variable{a b:Addr}
end
end
end L2
namespace HT
open PySem PyProof.Rows
variable{E:Value->Shared->Prop}{A:Around}{w:World}{prog:Program}
section
variable{a b v:Value}{k:Bool}{I S ax:Addr}{t:Shared}{n:Nat}{R:Result->Shared->Prop}
end
section
open PySem.SeqAt
open PySem.AutoSeq1 (wpAny_loadPart')
open PySem.MeetsSeq PySem.MeetsSeq2 PySem.MeetsSeq3
end
section
variable{s:Shared}
end
end HT
namespace L2
open PySem PySem.Spec PyProof.Rows
def xj{xs:List PV}:∀{ns:List Int},qj xs=some ns->xs=ns.map PV.int:=by
 induction xs with
 | nil=>intro ns h;cases h;rfl
 | cons p r ih =>
  intro ns h;cases p with
  | int i =>
   obtain⟨m,e,rfl⟩:=Vo.mp (show (qj r).map (i::·)=some ns from h);rw[ih e];rfl
  |_=>cases h
def Bq:PV->Option (List Int)
 | .tup xs=>qj xs
 |_=>none
variable{E:St->XK}{X:Cx}
def Ak{Hs:Hp}{p:PV}{v:V}{ns:List Int}(r:Rep Hs p v)(h:Bq p=some ns):∃a,v=.ref a/\Hs a=some (.tup (ns.map V.int)):=by
 cases r with
 | tup ht hx =>
  have e:=xj (show qj _=some ns from h);subst e;rw[hx.ints] at ht;exact⟨_,rfl,ht⟩
 |_=>cases h
variable{js:List Nat}{f:af->M PV}{it:af->M (List PV)}{wi:TI}{scope:Scope}
variable{y:Str}{i:Nat}
section
variable{tg elt iter c:Expr}{cl:List (Str×Addr)}{pos:Pos}{g:TG}{set:PV->af->M af}{ts fs:List Str}
variable{E:XK}{py Sf:Pos}
end
section
variable{tg elt iter c:Expr}{cl:List (Str×Addr)}{pos:Pos}{g:TG}{set:PV->af->M af}{u:af->M Bool}{ts fs:List Str}
variable{E:XK}{py Sf:Pos}
end
section
variable{o:Expr}{apos Qu:Pos}
end
section
open PySem.SeqAt (shaped)
end
end L2
local macro_rules|`(tactic| walk_at "u1")=>`(tactic| unfold $(Lean.mkIdent (Lean.mkPrivateNameCore `PySem.Builtin.List.W1All `PySem.Builtin.gallop)):ident)
namespace Srt
open PySem PyProof.Rows
noncomputable def ky(κ:KeyKind)(p:Keyed):κ.α:=(κ.keyOf p.1).getD κ.dflt
def kW(κ:KeyKind)(p:Keyed):Prop:=∃a,κ.keyOf p.1=some a
def le(κ:KeyKind)(p q:Keyed):Prop:=κ.kle (ky κ p) (ky κ q)
structure lD (prog:Program) (w:World) (A:Around) (s:Shared) (κ:KeyKind) (k:SortKind):Prop where
 lt:∀(E:Value->Shared->Prop)(x y:Value)(a b:κ.α){Q:Bool->Shared->Prop},κ.keyOf x=some a->κ.keyOf y=some b->Q (κ.blt a b) s->wpAny ↑11 A (keyLt' k x y) Q E s
noncomputable def MP:Bool->Keyed->Array Keyed->Nat->Nat->Nat->StateT SortSt Sem (Option Nat):=sortPriv% PySem.Builtin.gallop
variable{Q:Option Bool->SortSt->Prop}
variable{arr:Array Keyed}
section
variable{prog:Program}{w:World}{A:Around}{E:Value->Shared->Prop}{s:Shared}{κ:KeyKind}{k:SortKind}
def wC(hA:lD prog w A s κ k){st:SortSt}{x y:Keyed}(hk:kindOf st=k)(hx:kW κ x)(hy:kW κ y)(h:Q (some (κ.blt (ky κ x) (ky κ y))) st):wpS ↑11 A E s (lt' x y) Q st:=by
 obtain⟨a,ha⟩:=hx;obtain⟨b,hb⟩:=hy;rw[lt'_eq];refine U4 (ZS ?_);rw[hk];refine U4 (aaw (W7 (hA.lt _ _ _ a b ha hb ⟨rfl,?_⟩)));simp only[ky,ha,hb,Zg] at h;exact U_ h
def bG{st:SortSt}{i:Nat}{p:Keyed}{Q:Keyed->SortSt->Prop}(hi:arr[i]?=some p)(h:Q p st):wpS ↑11 A E s (elem' arr i) Q st:=by
 rw[elem'_eq,hi];exact U_ h
def GN(hA:lD prog w A s κ k){st:SortSt}{i j:Nat}{x y:Keyed}(hk:kindOf st=k)(hi:(arrOf st)[i]?=some x)(hj:(arrOf st)[j]?=some y)(hx:kW κ x)(hy:kW κ y)(h:Q (some (κ.blt (ky κ x) (ky κ y))) st):wpS ↑11 A E s (ltAt' i j) Q st:=by
 rw[ltAt'_eq];refine U4 (ZS ?_);refine U4 (bG hi (U4 (bG hj ?_)));exact wC hA hk hx hy h
theorem JA(hA:lD prog w A s κ k){left:Bool}{key:Keyed}{base n hint:Nat}{st:SortSt}{Q:Option Nat->SortSt->Prop}(hk:kindOf st=k)(RR:kW κ key)(hb:base+n<=arr.size)(RY:∀p∈arr.toList,kW κ p)(hh:hint<n)(Rv:Nat->Bool)(hbey:∀i p,i<n->arr[base+i]?=some p->Rv i=if left then κ.blt (ky κ p) (ky κ key) else !κ.blt (ky κ key) (ky κ p))(mono:∀i j,i<=j->j<n->Rv j=true->Rv i=true)(h:∀m,m<=n->(∀i,i<m->Rv i=true)->(∀i,m<=i->i<n->Rv i=false)->Q (some m) st):wpS ↑11 A E s (MP left key arr base n hint) Q st:=by
 have B:∀i,i<n->∀{Q':Option Bool->SortSt->Prop},Q' (some (Rv i)) st ->
   wpS ↑11 A E s (do let x <- elem' arr (base+i);if left=true then lt' x key else do let r <- lt' key x;pure (Option.map (λx=>!x) r)) Q' st:=by
  intro i hi Q' hq;have hs:base+i<arr.size:=by lia
  have e:arr[base+i]?=some arr[base+i]:=getElem?_pos arr _ hs;have hp:kW κ arr[base+i]:=RY _ ↑13;refine U4 (bG e ?_);have hv:=hbey i _ hi e;cases left
  .simp only[V5,if_false] at hv ⊢;refine U4 (wC hA hk RR hp (U_ ?_));rwa[hv] at hq
  .simp only[if_true] at hv ⊢;refine wC hA hk hp RR ?_;rwa[hv] at hq
 have S_:∀i j,i<=j->j<n->Rv i=false->Rv j=false:=by
  intro i j hij hj hi;cases hbj:Rv j
  .rfl
  .rw[mono i j hij hj hbj] at hi;exact hi
 unfold MP;walk_at "u1";refine U4 (B hint hh ?_);dsimp only;cases hbh:Rv hint
 case' false =>
  rw[if_neg ↑13];refine U4 (Xu (W8 (I:=λx c Qn=>Qn=st/\∃l o,c=(none,l,o)/\l<o/\x+1<=o/\l<=hint/\Rv (hint-l)=false)
   (Q:=λc Qn=>Qn=st/\∃l o,c=(none,l,o)/\l<o/\l<=hint/\Rv (hint-l)=false/\(o<=hint->Rv (hint-o)=true)) ?s1 ?f1 ⟨rfl,0,1,rfl,by lia,by lia,by lia,hbh⟩) ?p1)
  case f1 =>
   rintro c Qn ⟨rfl,l,o,rfl,h1,h2,h3,h4⟩;exact⟨rfl,l,o,rfl,h1,h3,h4,λh=>absurd h ⋯⟩
  case s1 =>
   rintro x c Qn _ hx ⟨rfl,l,o,rfl,h1,h2,h3,h4⟩;dsimp only
   split
   .exact U_ ⟨rfl,l,o,rfl,h1,h3,h4,λh=>absurd h ⋯⟩
   .refine U4 (B (hint-o) ⋯ ?_);dsimp only;cases Tf:Rv (hint-o)
    .exact U_ ⟨rfl,o,2*o+1,rfl,by lia,by lia,by lia,Tf⟩
    .exact U_ ⟨rfl,l,o,rfl,h1,h3,h4,λ_=>Tf⟩
  rintro c Qn ⟨rfl,l,o,rfl,h1,h3,h4,h5⟩;dsimp only;have a1:hint+1-min o (hint+1)<=hint-l:=by lia
  have a2:hint-l<=n:=by lia
  have a3:∀i,i<hint+1-min o (hint+1)->Rv i=true:=λi hi=>mono i (hint-o) ⋯ ⋯ (h5 ⋯);have a4:∀i,hint-l<=i->i<n->Rv i=false:=λi hi hn=>S_ _ _ hi hn h4;generalize hint+1-min o (hint+1)=lo at a1 a3 ⊢;generalize hint-l=hi at a1 a2 a4 ⊢;clear h1 h3 h4 h5
 case' true =>
  rw[if_pos rfl];refine U4 (Xu (W8 (I:=λx c Qn=>Qn=st/\∃l o,c=(none,l,o)/\l<o/\x+1<=o/\hint+l<n/\Rv (hint+l)=true)
   (Q:=λc Qn=>Qn=st/\∃l o,c=(none,l,o)/\l<o/\hint+l<n/\Rv (hint+l)=true/\(hint+o<n->Rv (hint+o)=false)) ?s1 ?f1 ⟨rfl,0,1,rfl,by lia,by lia,by lia,hbh⟩) ?p1)
  case f1 =>
   rintro c Qn ⟨rfl,l,o,rfl,h1,h2,h3,h4⟩;exact⟨rfl,l,o,rfl,h1,h3,h4,λh=>absurd h ⋯⟩
  case s1 =>
   rintro x c Qn _ hx ⟨rfl,l,o,rfl,h1,h2,h3,h4⟩;dsimp only
   split
   .exact U_ ⟨rfl,l,o,rfl,h1,h3,h4,λh=>absurd h ⋯⟩
   .refine U4 (B (hint+o) ⋯ ?_);dsimp only;cases Tf:Rv (hint+o)
    .exact U_ ⟨rfl,l,o,rfl,h1,h3,h4,λ_=>Tf⟩
    .exact U_ ⟨rfl,o,2*o+1,rfl,by lia,by lia,by lia,Tf⟩
  rintro c Qn ⟨rfl,l,o,rfl,h1,h3,h4,h5⟩;dsimp only;have a1:hint+l+1<=hint+min o (n-hint):=by lia
  have a2:hint+min o (n-hint)<=n:=by lia
  have a3:∀i,i<hint+l+1->Rv i=true:=λi hi=>mono i (hint+l) ⋯ ⋯ h4;have a4:∀i,hint+min o (n-hint)<=i->i<n->Rv i=false:=λi hi hn=>S_ (hint+o) _ ⋯ hn (h5 ⋯);generalize hint+l+1=lo at a1 a3 ⊢;generalize hint+min o (n-hint)=hi at a1 a2 a4 ⊢;clear h1 h3 h4 h5
 all_goals
  refine U4 (Xu (W8 (I:=λx c R1=>R1=Qn/\∃a b,c=(none,a,b)/\a<=b/\b<=n/\b-a<=n-x/\(∀i,i<a->Rv i=true)/\(∀i,b<=i->i<n->Rv i=false))
   (Q:=λc R1=>R1=Qn/\∃b,c=(none,b,b)/\b<=n/\(∀i,i<b->Rv i=true)/\(∀i,b<=i->i<n->Rv i=false)) ?s2 ?f2 ⟨rfl,lo,hi,rfl,a1,a2,by lia,a3,a4⟩) ?p2)
  case f2 =>
   rintro c R1 ⟨rfl,a,b,rfl,h1,h2,h3,h4,h5⟩;have:a=b:=by lia
   subst this;exact⟨rfl,a,rfl,h2,h4,h5⟩
  case s2 =>
   rintro x c R1 _ hx ⟨rfl,a,b,rfl,h1,h2,h3,h4,h5⟩;dsimp only
   split
   .have:a=b:=by lia
    subst this;exact U_ ⟨rfl,a,rfl,h2,h4,h5⟩
   .refine U4 (B (a+(b-a)/2) ⋯ ?_);dsimp only;cases Tf:Rv (a+(b-a)/2)
    .exact U_ ⟨rfl,a,a+(b-a)/2,rfl,by lia,by lia,by lia,h4,λi h1 h2=>S_ _ _ h1 h2 Tf⟩
    .exact U_ ⟨rfl,a+(b-a)/2+1,b,rfl,by lia,by lia,by lia,λi h1=>mono _ (a+(b-a)/2) ⋯ ⋯ Tf,h5⟩
  case p2 =>
   rintro c R1 ⟨rfl,b,rfl,h2,h4,h5⟩;exact U_ (h b h2 h4 h5)
end
end Srt
namespace Srt
open PySem PyProof.Rows
def le_refl{κ:KeyKind}(x:Keyed):le κ x x:=WD _
def le_trans{κ:KeyKind}{x y z:Keyed}(h:le κ x y)(h':le κ y z):le κ x z:=Yq h h'
def lt(κ:KeyKind)(p q:Keyed):Prop:=κ.blt (ky κ p) (ky κ q)=true
theorem lt.le{κ:KeyKind}{x y:Keyed}(h:lt κ x y):le κ x y:=X_ h
def SI(κ:KeyKind)(a:Array Keyed)(lo hi:Nat):Prop:=∀i j x y,lo<=i->i<=j->j<hi->a[i]?=some x->a[j]?=some y->le κ x y
variable{i:Nat}
def cJ{a:Array Keyed}{j:Nat}{y:Keyed}:y∈(a.extract i j).toList ↔ ∃m,i<=m/\m<j/\a[m]?=some y:=by
 rw[abb];constructor
 .rintro⟨m,hm⟩;rw[VO,Wj] at hm
  split at hm
  .exact⟨i+m,by lia,by lia,hm⟩
  .exact absurd hm ↑13
 .rintro⟨m,h1,h2,h3⟩;have hs:m<a.size:=by
   rcases VH m a.size with h|h
   .exact h
   .rw[Xi h] at h3;exact absurd h3 ↑13
  refine⟨m-i,?_⟩;rwa[VO,Wj,if_pos ⋯,show i+(m-i)=m by lia]
def SI.pw{κ:KeyKind}{a:Array Keyed}{lo hi j:Nat}(h:SI κ a lo hi)(SD:lo<=i)(hj:j<=hi):(a.extract i j).toList.Pairwise (le κ):=by
 rw[aaf];intro m n hm hn hmn;have e1:(a.extract i j).toList[m]?=some (a.extract i j).toList[m]:=getElem?_pos (a.extract i j).toList _ hm;have e2:(a.extract i j).toList[n]?=some (a.extract i j).toList[n]:=getElem?_pos (a.extract i j).toList _ hn;rw[VO,Wj] at e1 e2
 split at e1
 .split at e2
  .exact h (i+m) (i+n) _ _ ⋯ ⋯ ⋯ e1 e2
  .exact absurd e2 ↑13
 .exact absurd e1 ↑13
def k9(a:Array Keyed){j k:Nat}(h1:i<=j)(h2:j<=k):(a.extract i k).toList=(a.extract i j).toList++(a.extract j k).toList:=by
 rw[<- VQ,Array.extract_append_extract,Nat.min_eq_left h1,acz h2]
def BI{a:Array Keyed}{x:Keyed}(h:a[i]?=some x):(a.extract i (i+1)).toList=[x]:=by
 have hs:i<a.size:=by
  rcases VH i a.size with h'|h'
  .exact h'
  .rw[Xi h'] at h;exact absurd h ↑13
 apply aak;intro m;rw[VO,Wj];cases m with
 | zero=>rw[if_pos ⋯];simpa using h
 |succ m=>rw[if_neg ⋯];rfl
variable{b:Bool}
def nt(h:(!b)=true):b=false:=by simpa using h
def nf(h:(!b)=false):b=true:=by simpa using h
def tn(h:b=false):(!b)=true:=by simpa using h
structure MI (R:Keyed->Keyed->Prop) (Sy A B out:List Keyed):Prop where
 perm:(out++(A++B)).Perm Sy
 Mj:out.Pairwise R
 low:∀x∈out,∀y∈A++B,R x y
variable{R:Keyed->Keyed->Prop}{Sy A B A1 A2 out:List Keyed}
def MI.sw(h:MI R Sy A B out):MI R Sy B A out :=
 ⟨(X9 _ Xz).trans h.perm,h.Mj,λx hx y hy=>h.low x hx y (by rw[V7] at hy ⊢;exact hy.symm)⟩
def MI.tp{US:List Keyed}(h:MI R Sy A B out)(p:Sy.Perm US):MI R US A B out:=⟨h.perm.trans p,h.Mj,h.low⟩
def MI.a(h:MI R Sy A B out)(e:A.Perm (A1++A2))(h1:A1.Pairwise R)(h2:∀x∈A1,∀y∈A2,R x y)(h3:∀x∈A1,∀y∈B,R x y):MI R Sy A2 B (out++A1):=by
 have hm:∀y,y∈A ↔ y∈A1\/y∈A2:=λy=>by rw[e.mem_iff,V7]
 refine⟨?_,?_,?_⟩
 .refine List.Perm.trans ?_ h.perm;rw[VG];refine X9 _ ?_;rw[<- VG];exact YZ _ e.symm
 .rw[WK];exact⟨h.Mj,h1,λx hx y hy=>h.low x hx y (V7.mpr (.inl ((hm y).mpr (.inl hy))))⟩
 .intro x hx y hy;rw[V7] at hx hy;rcases hx with hx|hx
  .refine h.low x hx y (V7.mpr ?_);rcases hy with hy|hy
   .exact .inl ((hm y).mpr (.inr hy))
   .exact .inr hy
  .rcases hy with hy|hy
   .exact h2 x hx y hy
   .exact h3 x hx y hy
def MI.fin(h:MI R Sy A B out)(hs:(A++B).Pairwise R):(out++(A++B)).Pairwise R/\(out++(A++B)).Perm Sy :=
 ⟨WK.mpr ⟨h.Mj,hs,h.low⟩,h.perm⟩
variable{arr:Array Keyed}
variable{Q:Option Nat->SortSt->Prop}{key:Keyed}
section
variable{prog:Program}{w:World}{A:Around}{E:Value->Shared->Prop}{s:Shared}{κ:KeyKind}{k:SortKind}
def Ny(h:i<arr.size):arr[i]?=some arr[i]!:=by
 rw[getElem!_pos arr i h];exact getElem?_pos arr i h
theorem C4(hA:lD prog w A s κ k){left:Bool}{base n hint:Nat}{st:SortSt}(hk:kindOf st=k)(RR:kW κ key)(hb:base+n<=arr.size)(RY:∀p∈arr.toList,kW κ p)(hh:hint<n)(f:Keyed->Bool)(hf:∀p,f p=if left then κ.blt (ky κ p) (ky κ key) else !κ.blt (ky κ key) (ky κ p))(mono:∀x y,le κ x y->f y=true->f x=true)(hs:SI κ arr base (base+n))(h:∀m,m<=n->(∀i y,base<=i->i<base+m->arr[i]?=some y->f y=true)->(∀i y,base+m<=i->i<base+n->arr[i]?=some y->f y=false)->Q (some m) st):wpS ↑11 A E s (MP left key arr base n hint) Q st:=by
 have g:∀i y,base<=i->i<base+n->arr[i]?=some y->f arr[base+(i-base)]! =f y:=λi y h1 h2 e=>by
  rw[show base+(i-base)=i by lia,Ny ⋯] at *;cases e;rfl
 refine JA hA hk RR hb RY hh (λi=>f arr[base+i]!) (λi p hi hp=>?_) (λi j hij hj=>mono _ _ (hs (base+i) (base+j) _ _ ⋯ ⋯ ⋯ (Ny ⋯) (Ny ⋯))) λm hm h1 h2=>h m hm (λi y i1 i2 e=>?_) λi y i1 i2 e=>?_
 .rw[Ny ⋯] at hp;cases hp;exact hf _
 .rw[<- g i y i1 ⋯ e];exact h1 _ ⋯
 .rw[<- g i y ⋯ i2 e];exact h2 _ ⋯ ⋯
def uR(hA:lD prog w A s κ k){base n hint:Nat}{st:SortSt}(hk:kindOf st=k)(RR:kW κ key)(hb:base+n<=arr.size)(RY:∀p∈arr.toList,kW κ p)(hh:hint<n)(hs:SI κ arr base (base+n))(h:∀m,m<=n->(∀i y,base<=i->i<base+m->arr[i]?=some y->le κ y key)->(∀i y,base+m<=i->i<base+n->arr[i]?=some y->lt κ key y)->Q (some m) st):wpS ↑11 A E s (MP false key arr base n hint) Q st :=
 C4 hA hk RR hb RY hh (λp=>!κ.blt (ky κ key) (ky κ p)) (λ_=>rfl) (λ_ _ h1 h2=>tn (le_trans h1 (nt h2))) hs λm hm h1 h2=>h m hm (λi y a b c=>nt (h1 i y a b c)) λi y a b c=>nf (h2 i y a b c)
def ux(hA:lD prog w A s κ k){base n hint:Nat}{st:SortSt}(hk:kindOf st=k)(RR:kW κ key)(hb:base+n<=arr.size)(RY:∀p∈arr.toList,kW κ p)(hh:hint<n)(hs:SI κ arr base (base+n))(h:∀m,m<=n->(∀i y,base<=i->i<base+m->arr[i]?=some y->lt κ y key)->(∀i y,base+m<=i->i<base+n->arr[i]?=some y->le κ key y)->Q (some m) st):wpS ↑11 A E s (MP true key arr base n hint) Q st :=
 C4 hA hk RR hb RY hh (λp=>κ.blt (ky κ p) (ky κ key)) (λ_=>rfl) (λ_ _ h1 h2=>KeyOrd.klt_of_kle_of_klt h1 h2) hs h
end
end Srt
local macro_rules|`(tactic| walk_at "u2")=>`(tactic| unfold $(Lean.mkIdent (Lean.mkPrivateNameCore `PySem.Builtin.List.W1All `PySem.Builtin.mergeLo)):ident)
namespace Srt
open PySem PyProof.Rows
def Pq:Array Keyed->Array Keyed->StateT SortSt Sem (Array Keyed):=sortPriv% PySem.Builtin.mergeLo
def Mi:Nat->StateT SortSt Sem Unit:=sortPriv% PySem.Builtin.setMinGallop
structure lV (st Qn:SortSt):Prop where
 kind:kindOf Qn=kindOf st
 arr:arrOf Qn=arrOf st
 pend:pendingOf Qn=pendingOf st
 fail:failedOf Qn=failedOf st
def lV.rfl{st:SortSt}:lV st st:=⟨.refl _,.refl _,.refl _,.refl _⟩
def Good(κ:KeyKind)(a b r:Array Keyed):Prop:=r.toList.Pairwise (le κ)/\r.toList.Perm (a.toList++b.toList)
def LI(κ:KeyKind)(a b out:Array Keyed)(ia ib:Nat):Prop:=MI (le κ) (a.toList++b.toList) (a.extract ia a.size).toList (b.extract ib b.size).toList out.toList
variable{x:Keyed}{i:Nat}
section
variable{κ:KeyKind}{a b out:Array Keyed}{ia ib m:Nat}
theorem SI.mono{lo hi lo' SD:Nat}(h:SI κ a lo hi)(h1:lo<=lo')(h2:SD<=hi):SI κ a lo' SD:=λi j x y a1 a2 a3=>h i j x y ⋯ a2 ⋯
def fY(h:a[i]?=some x):i<a.size:=by
 rcases VH i a.size with h'|h'
 .exact h'
 .rw[Xi h'] at h;exact absurd h ↑13
theorem C2(o:Array Keyed)(i:Nat):o++a.extract i i=o:=by
 have:a.extract i i=#[]:=Zh (by rw[Wr];lia);rw[this,abO]
def LI.nil:LI κ a b #[] 0 0:=⟨by simp,by simp,by simp⟩
theorem LI.ga(sa:SI κ a 0 a.size)(h:LI κ a b out ia ib)(hk:ia+m<=a.size)(h3:∀i x,ia<=i->i<ia+m->a[i]?=some x->∀j y,ib<=j->b[j]?=some y->le κ x y):LI κ a b (out++a.extract ia (ia+m)) (ia+m) ib:=by
 have:=MI.a h (A1:=(a.extract ia (ia+m)).toList) (A2:=(a.extract (ia+m) a.size).toList) (by rw[k9 a (Wt ia m) hk]) (sa.pw ⋯ hk)
  (λx hx y hy=>by
   obtain⟨i,i1,i2,i3⟩:=cJ.mp hx;obtain⟨j,j1,j2,j3⟩:=cJ.mp hy;exact sa i j x y ⋯ ⋯ j2 i3 j3)
  (λx hx y hy=>by
   obtain⟨i,i1,i2,i3⟩:=cJ.mp hx;obtain⟨j,j1,j2,j3⟩:=cJ.mp hy;exact h3 i x i1 i2 i3 j y j1 j3)
 unfold LI;rw[VQ];exact this
theorem LI.sw(h:LI κ a b out ia ib):LI κ b a out ib ia:=(MI.sw h).tp Xz
def LI.gb(sb:SI κ b 0 b.size)(h:LI κ a b out ia ib)(hk:ib+m<=b.size)(h3:∀i x,ib<=i->i<ib+m->b[i]?=some x->∀j y,ia<=j->a[j]?=some y->le κ x y):LI κ a b (out++b.extract ib (ib+m)) ia (ib+m):=(h.sw.ga sb hk h3).sw
def F_(e:a[i]?=some x):out.push x=out++a.extract i (i+1):=by
 apply acA.mp;rw[aal,VQ,BI e]
theorem LI.pa(sa:SI κ a 0 a.size)(h:LI κ a b out ia ib)(e:a[ia]?=some x)(h3:∀j y,ib<=j->b[j]?=some y->le κ x y):LI κ a b (out.push x) (ia+1) ib:=by
 rw[F_ e];exact h.ga sa (fY e) λi z h1 h2 h4=>by have:i=ia:=⋯;subst this;rw[e] at h4;cases h4;exact h3
def LI.pb(sb:SI κ b 0 b.size)(h:LI κ a b out ia ib)(e:b[ib]?=some x)(h3:∀j y,ia<=j->a[j]?=some y->le κ x y):LI κ a b (out.push x) ia (ib+1):=(h.sw.pa sb e h3).sw
theorem LI.dn(sa:SI κ a 0 a.size)(h:LI κ a b out ia ib)(e:ib=b.size):Good κ a b (out++a.extract ia a.size++b.extract ib b.size):=by
 have z:(b.extract ib b.size).toList=[]:=by
  rw[Zi];intro y hy;obtain⟨j,j1,j2,j3⟩:=cJ.mp hy;lia
 have:=MI.fin h (by rw[z,VT];exact sa.pw (Va _) ⋯);unfold Good;rw[VQ,VQ,VG];exact this
theorem LI.la(sa:SI κ a 0 a.size)(sb:SI κ b 0 b.size)(top:∀(i j:Nat)(x y:Keyed),i+1=a.size->a[i]?=some x->b[j]?=some y->lt κ y x)(h:LI κ a b out ia ib)(e:ia+1=a.size):Good κ a b (out++b.extract ib b.size++a.extract ia a.size):=by
 have:=MI.fin (MI.sw h) (WK.mpr ⟨sb.pw (Va _) ⋯,sa.pw (Va _) ⋯,λx hx y hy=>by
   obtain⟨i,i1,i2,i3⟩:=cJ.mp hx;obtain⟨j,j1,j2,j3⟩:=cJ.mp hy;have:j=ia:=by lia
   subst this;exact(top j i y x e j3 i3).le⟩)
 unfold Good;rw[VQ,VQ,VG];exact this
end
variable{α:Type}{c:Prop}
variable{β:Type}
variable{γ:Type}
section
variable{prog:Program}{w:World}{A:Around}{E:Value->Shared->Prop}{s:Shared}{κ:KeyKind}{k:SortKind}
def uD{g:Nat}{st0 st:SortSt}{Q:Unit->SortSt->Prop}(hK:lV st0 st)(h:∀Qn,lV st0 Qn->Q () Qn):wpS ↑11 A E s (Mi g) Q st:=by
 unfold Mi;exact Zj (h _ ⟨hK.kind,hK.arr,hK.pend,hK.fail⟩)
def dH[Decidable c]{t e:StateT SortSt Sem α}{Q:α->SortSt->Prop}{st:SortSt}(h1:c->wpS ↑11 A E s t Q st)(h2:¬ c->wpS ↑11 A E s e Q st):wpS ↑11 A E s (if c then t else e) Q st:=by
 split
 .exact h1 ‹_›
 .exact h2 ‹_›
def eK{x y:Nat}{t e:StateT SortSt Sem α}{Q:α->SortSt->Prop}{st:SortSt}(h1:x=y->wpS ↑11 A E s t Q st)(h2:x≠y->wpS ↑11 A E s e Q st):wpS ↑11 A E s (if (x==y)=true then t else e) Q st :=
 dH (λh=>h1 (eq_of_beq h)) λh=>h2 λe=>h (beq_iff_eq.mpr e)
def H0[Decidable c]{x y:Nat}{jp:Unit->Nat->StateT SortSt Sem α}{Q:α->SortSt->Prop}{st:SortSt}(h:∀g,wpS ↑11 A E s (jp () g) Q st):wpS ↑11 A E s (if c then jp () x else jp () y) Q st :=
 dH (λ_=>h _) λ_=>h _
def el{a:Array Keyed}(ha:∀p∈a.toList,kW κ p)(hi:i<a.size):∃x,a[i]?=some x/\kW κ x :=
 ⟨a[i],getElem?_pos a i hi,ha _ ↑13⟩
def L_(I Q:β->SortSt->Prop):ForInStep β->SortSt->Prop
 | .done b,st=>Q b st
 |.yield b,st=>I b st
def mJ{n:Nat}{f:Nat->β->StateT SortSt Sem (ForInStep β)}(I:Nat->β->SortSt->Prop){Q:β->SortSt->Prop}{c:β}{st:SortSt}(h:I 0 c st)(UD:∀i c st,i<n->I i c st->wpS ↑11 A E s (f i c) (L_ (I (i+1)) Q) st)(Rw:∀c st,I n c st->Q c st):wpS ↑11 A E s (forIn [:n] c f) Q st :=
 W8 I (λi c st _ h1 h2=>Xu (UD i c st h1 h2) λr _ h=>by cases r<;>exact h) (λc st h=>Rw c st (by rwa [acz (Va _)] at h)) h
def Im(st:SortSt)(J:γ->Prop):Option (Array Keyed)×γ->SortSt->Prop:=λc Qn=>lV st Qn/\c.1=none/\J c.2
def Qm(st:SortSt)(G:Array Keyed->Prop)(J:γ->Prop):Option (Array Keyed)×γ->SortSt->Prop:=λc Qn=>lV st Qn/\((∃r,c.1=some r/\G r)\/c.1=none/\J c.2)
def LJ(κ:KeyKind)(a b:Array Keyed)(x:Nat)(out:Array Keyed)(ia ib:Nat):Prop:=LI κ a b out ia ib/\ib<b.size/\ia+1<a.size/\x<=ia+ib
def LJ.mono{κ:KeyKind}{a b out:Array Keyed}{x x' ia ib:Nat}(h:LJ κ a b x out ia ib)(hx:x'<=x):LJ κ a b x' out ia ib:=⟨h.1,h.2.1,h.2.2.1,VM hx h.2.2.2⟩
set_option maxHeartbeats 2000000 in
theorem K6(hA:lD prog w A s κ k){a b:Array Keyed}{st:SortSt}{Q:Array Keyed->SortSt->Prop}(hk:kindOf st=k)(ha:∀p∈a.toList,kW κ p)(hb:∀p∈b.toList,kW κ p)(sa:SI κ a 0 a.size)(sb:SI κ b 0 b.size)(n1:1<=a.size)(n2:1<=b.size)(hd:∀x y,a[0]?=some x->b[0]?=some y->lt κ y x)(top:∀(i j:Nat)(x y:Keyed),i+1=a.size->a[i]?=some x->b[j]?=some y->lt κ y x)(h:∀r Qn,lV st Qn->Good κ a b r->Q r Qn):wpS ↑11 A E s (Pq a b) Q st:=by
 unfold Pq;walk_at "u2";refine U4 (aaw (W0 ⟨rfl,?_⟩));obtain⟨y0,ey,hy0⟩:=el hb n2;obtain⟨x0,ex,hx0⟩:=el ha n1;refine U4 (bG ey ?_);have L0:LI κ a b #[y0] 0 1:=LI.pb (out:=#[]) sb LI.nil ey λj y hj e=>le_trans (hd x0 y0 ex ey).le (sa 0 j _ _ ⋯ ⋯ (fY e) ex e);refine eK (λe=>U_ (h _ _ lV.rfl (L0.dn sa e))) λe1=>eK (λe=>U_ (h _ _ lV.rfl (L0.la sa sb top e))) λe2=>U4 (ZS ?_);refine U4 (Xu (mJ (λx=>Im st λc=>LJ κ a b x c.1 c.2.1 c.2.2.1) (Q:=Qm st (Good κ a b) λ_=>False) ⟨lV.rfl,rfl,(show LJ κ a b 0 #[y0] 0 1 from ⟨L0,by lia,by lia,by lia⟩)⟩ ?_ ?_) ?_)
 .rintro x ⟨c,out,ia,ib,g⟩ Qn hx ⟨hK,rfl,hL⟩;have hL:LJ κ a b x out ia ib:=hL;refine U4 (Xu (mJ (λy=>Im st λc=>LJ κ a b (x+y) c.1 c.2.1 c.2.2.1) (Q:=Qm st (Good κ a b) λc=>LJ κ a b (x+1) c.1 c.2.1 c.2.2.1) ⟨hK,rfl,hL⟩ ?_ ?_) ?_)
  .rintro y ⟨c,out,ia,ib,ac,bc⟩ Qn hy ⟨hK,rfl,hL⟩;obtain⟨hL,h1,h2,h3⟩:=(show LJ κ a b (x+y) out ia ib from hL)
   obtain⟨xb,eb,TY⟩:=el hb h1;obtain⟨xa,ea,TX⟩:=el ha (show ia<a.size by lia);refine U4 (bG eb (U4 (bG ea (U4 (wC hA (hK.kind.trans hk) TY TX ?_)))));refine dH (λhw=>U4 (bG eb ?_)) (λhw=>U4 (bG ea ?_))
   .have L:=hL.pb sb eb λj y hj e=>le_trans (show lt κ xb xa from hw).le (sa ia j _ _ ⋯ hj (fY e) ea e);have hJ:ib+1≠b.size->LJ κ a b (x+y+1) (out.push xb) ia (ib+1):=λe=>⟨L,by lia,h2,by lia⟩
    exact eK (λe=>U_ ⟨hK,.inl ⟨_,rfl,L.dn sa e⟩⟩) λe=>dH (λ_=>U_ ⟨hK,.inr ⟨rfl,(hJ e).mono ⋯⟩⟩) λ_=>U_ ⟨hK,rfl,hJ e⟩
   .have L:=hL.pa sa ea λj y hj e=>le_trans (XA hw) (sb ib j _ _ ⋯ hj (fY e) eb e);have hJ:ia+1+1≠a.size->LJ κ a b (x+y+1) (out.push xa) (ia+1) ib:=λe=>⟨L,h1,by lia,by lia⟩
    exact eK (λe=>U_ ⟨hK,.inl ⟨_,rfl,L.la sa sb top e⟩⟩) λe=>dH (λ_=>U_ ⟨hK,.inr ⟨rfl,(hJ e).mono ⋯⟩⟩) λ_=>U_ ⟨hK,rfl,hJ e⟩
  .rintro c Qn ⟨hK,hc,hL⟩;exact⟨hK,.inr ⟨hc,hL.mono ⋯⟩⟩
  .rintro⟨c,out,ia,ib,ac,bc⟩ Qn ⟨hK,⟨r,rfl,hr⟩|⟨rfl,hL⟩⟩
   .exact U_ ⟨hK,.inl ⟨r,rfl,hr⟩⟩
   refine U4 (aaw (W0 ⟨rfl,?_⟩));refine U4 (Xu (mJ (λ_=>Im st λc=>LJ κ a b (x+1) c.1 c.2.1 c.2.2.1) (Q:=Qm st (Good κ a b) λc=>LJ κ a b (x+1) c.1 c.2.1 c.2.2.1) ⟨hK,rfl,hL⟩ ?_ λc Qn h=>⟨h.1,.inr h.2⟩) ?_)
   .rintro y ⟨c,out,ia,ib,g,ac,bc⟩ Qn hy ⟨hK,rfl,hL⟩;obtain⟨hL,h1,h2,h3⟩:=(show LJ κ a b (x+1) out ia ib from hL)
    obtain⟨xb,eb,TY⟩:=el hb h1
    extract_lets -underBinder s1 o1 s2 i1 s3 j1 s4 g1 s5 a1 b1 jp
    subst s1 o1 s2 i1 s3 j1 s4 g1 s5 a1 b1;refine H0 (jp:=jp) λg'=>U4 (uD hK λQn hK=>?_);clear jp;refine U4 (bG eb (U4 (uR hA (hK.kind.trans hk) TY (by show ia+(a.size-ia)<=_;lia) ha (by show 0<a.size-ia;lia) (sa.mono (Va _) (by show ia+(a.size-ia)<=_;lia)) λm hm R8 Sm=>?_)));have hm:m<=a.size-ia:=hm;have R8:∀i y,ia<=i->i<ia+m->a[i]?=some y->le κ y xb:=R8;have Sm:∀i y,ia+m<=i->i<ia+(a.size-ia)->a[i]?=some y->lt κ xb y:=Sm;have TF:ia+m<a.size:=by
     rcases VH (ia+m) a.size with h'|h'
     .exact h'
     .obtain⟨z,ez,_⟩:=el ha (show a.size-1<a.size by lia);exact absurd (top _ ib z xb ⋯ ez eb) (abc (R8 _ z ⋯ ⋯ ez))
    have L1:=hL.ga sa (Xg TF) λi x i1 i2 i3 j y j1 j2=>le_trans (R8 i x i1 i2 i3) (sb ib j _ _ (Va _) j1 (fY j2) eb j2);have RZ:∀i y,ia+m<=i->a[i]?=some y->le κ xb y:=λi y i1 i2=>(Sm i y i1 (by have:=fY i2;lia) i2).le;dsimp -zeta only
    extract_lets -underBinder c1 jp
    subst c1;have J:∀o i,LI κ a b o i ib->i+1<a.size->x+1<=i+ib->(∀j y,i<=j->a[j]?=some y->le κ xb y)->wpS ↑11 A E s (jp () o i) (L_ (Im st λc=>LJ κ a b (x+1) c.1 c.2.1 c.2.2.1) (Qm st (Good κ a b) λc=>LJ κ a b (x+1) c.1 c.2.1 c.2.2.1)) Qn:=by
     intro o i L1 h2 h3 RZ;refine U4 (bG eb ?_);clear jp;have L2:=L1.pb sb eb RZ;refine eK (λe=>U_ ⟨hK,.inl ⟨_,rfl,L2.dn sa e⟩⟩) λe=>?_;have e:ib+1≠b.size:=e;obtain⟨xa,ea,TX⟩:=el ha (Nat.lt_of_succ_lt h2);refine U4 (bG ea (U4 (ux hA (hK.kind.trans hk) TX (by show ib+1+(b.size-(ib+1))<=_;lia) hb (by show 0<b.size-(ib+1);lia) (sb.mono (Va _) (by show ib+1+(b.size-(ib+1))<=_;lia)) λm hm R8 Sm=>?_)));have hm:m<=b.size-(ib+1):=hm;have R8:∀i y,ib+1<=i->i<ib+1+m->b[i]?=some y->lt κ y xa:=R8;have Sm:∀i y,ib+1+m<=i->i<ib+1+(b.size-(ib+1))->b[i]?=some y->le κ xa y:=Sm;have L3:=L2.gb sb (m:=m) ⋯ λi x i1 i2 i3 j y j1 j2=>le_trans (R8 i x i1 i2 i3).le (sa _ j _ _ (Va _) j1 (fY j2) ea j2);dsimp -zeta only
     extract_lets -underBinder c1 jp
     subst c1;have J:∀o j,LI κ a b o i j->j<b.size->x+1<=i+1+j->(∀l y,j<=l->b[l]?=some y->le κ xa y)->wpS ↑11 A E s (jp () o j) (L_ (Im st λc=>LJ κ a b (x+1) c.1 c.2.1 c.2.2.1) (Qm st (Good κ a b) λc=>LJ κ a b (x+1) c.1 c.2.1 c.2.2.1)) Qn:=by
      intro o j L3 h1 h3 RZ;refine U4 (bG ea ?_);have L4:=L3.pa sa ea RZ;have hJ:i+1+1≠a.size->LJ κ a b (x+1) (o.push xa) (i+1) j:=λe=>⟨L4,h1,by lia,h3⟩
      exact eK (λe=>U_ ⟨hK,.inl ⟨_,rfl,L4.la sa sb top e⟩⟩) λe=>dH (λ_=>U_ ⟨hK,.inr ⟨rfl,hJ e⟩⟩) λ_=>U_ ⟨hK,rfl,hJ e⟩
     have RZ:∀l y,ib+1+m<=l->b[l]?=some y->le κ xa y:=λi y i1 i2=>Sm i y i1 (by have:=fY i2;lia) i2;refine dH (λR4=>eK (λe=>U_ ⟨hK,.inl ⟨_,rfl,L3.dn sa e⟩⟩) λe=>J _ _ L3 (by have e:ib+1+m≠b.size:=e;show ib+1+m<_;lia) (by show _<=_+(ib+1+m);lia) RZ) λR4=>?_;have R4:m=0:=aaN R4;subst R4;rw[aaO,C2] at L3;exact J _ _ L3 (by show ib+1<_;lia) (by show _<=_+(ib+1);lia) RZ
    clear_value jp
    refine dH (λR4=>eK (λe=>U_ ⟨hK,.inl ⟨_,rfl,L1.la sa sb top e⟩⟩) λe=>eK (λe=>absurd e (Vh TF)) λ_=>J _ _ L1 (by have e:ia+m+1≠a.size:=e;show ia+m+1<_;lia) (by show _<=ia+m+ib;lia) RZ) λR4=>?_;have R4:m=0:=aaN R4;subst R4;rw[aaO,C2] at L1;exact J _ _ L1 h2 h3 RZ
   .rintro⟨c,out,ia,ib,g,ac,bc⟩ Qn ⟨hK,⟨r,rfl,hr⟩|⟨rfl,hL⟩⟩
    .exact U_ ⟨hK,.inl ⟨r,rfl,hr⟩⟩
    .exact U4 (uD hK λRa hK=>U_ ⟨hK,rfl,hL⟩)
 .rintro c Qn ⟨hK,_,hL,h1,h2,h3⟩;lia
 .rintro⟨c,t⟩ Qn ⟨hK,⟨r,rfl,hr⟩|⟨_,h⟩⟩
  .exact U_ (h r Qn hK hr)
  .exact h.elim
end
end Srt
local macro_rules|`(tactic| walk_at "u3")=>`(tactic| unfold $(Lean.mkIdent (Lean.mkPrivateNameCore `PySem.Builtin.List.W1All `PySem.Builtin.mergeHi)):ident)
namespace Srt
open PySem PyProof.Rows
def Pr:Array Keyed->Array Keyed->StateT SortSt Sem (Array Keyed):=sortPriv% PySem.Builtin.mergeHi
def HI(κ:KeyKind)(a b out:Array Keyed)(na nb:Nat):Prop:=MI (λx y=>le κ y x) (a.toList++b.toList) (a.extract 0 na).toList (b.extract 0 nb).toList out.toList
variable{x:Keyed}
section
variable{κ:KeyKind}{a b out:Array Keyed}{na nb m:Nat}
def HI.nil:HI κ a b #[] a.size b.size:=⟨by simp,by simp,by simp⟩
theorem HI.ga(sa:SI κ a 0 a.size)(h:HI κ a b out na nb)(hm:m<=na)(hn:na<=a.size)(h3:∀i x,m<=i->i<na->a[i]?=some x->∀j y,j<nb->b[j]?=some y->le κ y x):HI κ a b (out++(a.extract m na).reverse) m nb:=by
 have:=MI.a h (A1:=(a.extract m na).toList.reverse) (A2:=(a.extract 0 m).toList)
  (by rw[k9 a (Va m) hm];exact Xz.trans (YZ _ (ab9 _).symm))
  (abd.mpr (sa.pw (Va _) hn))
  (λx hx y hy=>by
   obtain⟨i,i1,i2,i3⟩:=cJ.mp (aax.mp hx);obtain⟨j,j1,j2,j3⟩:=cJ.mp hy;exact sa j i y x ⋯ ⋯ ⋯ j3 i3)
  (λx hx y hy=>by
   obtain⟨i,i1,i2,i3⟩:=cJ.mp (aax.mp hx);obtain⟨j,j1,j2,j3⟩:=cJ.mp hy;exact h3 i x i1 i2 i3 j y j2 j3)
 unfold HI;rw[VQ,Yi];exact this
theorem HI.sw(h:HI κ a b out na nb):HI κ b a out nb na:=(MI.sw h).tp Xz
def HI.gb(sb:SI κ b 0 b.size)(h:HI κ a b out na nb)(hm:m<=nb)(hn:nb<=b.size)(h3:∀i x,m<=i->i<nb->b[i]?=some x->∀j y,j<na->a[j]?=some y->le κ y x):HI κ a b (out++(b.extract m nb).reverse) na m:=(h.sw.ga sb hm hn h3).sw
def GY{i:Nat}(e:a[i]?=some x):out.push x=out++(a.extract i (i+1)).reverse:=by
 apply acA.mp;rw[aal,VQ,Yi,BI e];rfl
theorem HI.pa(sa:SI κ a 0 a.size)(h:HI κ a b out na nb)(hn:0<na)(e:a[na-1]?=some x)(h3:∀j y,j<nb->b[j]?=some y->le κ y x):HI κ a b (out.push x) (na-1) nb:=by
 rw[GY e,show na-1+1=na by lia];have:=fY e;exact h.ga sa ⋯ ⋯ λi z h1 h2 h4=>by have:i=na-1:=⋯;subst this;rw[e] at h4;cases h4;exact h3
def HI.pb(sb:SI κ b 0 b.size)(h:HI κ a b out na nb)(hn:0<nb)(e:b[nb-1]?=some x)(h3:∀j y,j<na->a[j]?=some y->le κ y x):HI κ a b (out.push x) na (nb-1):=(h.sw.pa sb hn e h3).sw
def MI.Mt{R:Keyed->Keyed->Prop}{Sy A B out:List Keyed}(h:MI (λx y=>R y x) Sy A B out)(hs:(A++B).Pairwise R):(A++B++out.reverse).Pairwise R/\(A++B++out.reverse).Perm Sy :=
 ⟨WK.mpr ⟨hs,abd.mpr h.Mj,λx hx y hy=>h.low y (aax.mp hy) x hx⟩,
  (X9 _ (ab9 _)).trans (Xz.trans h.perm)⟩
theorem HI.dn(sb:SI κ b 0 b.size)(h:HI κ a b out na nb)(e:na=0)(hb:nb<=b.size):Good κ a b (a.extract 0 na++b.extract 0 nb++out.reverse):=by
 have z:(a.extract 0 na).toList=[]:=by
  rw[Zi];intro y hy;obtain⟨j,j1,j2,j3⟩:=cJ.mp hy;lia
 have:=MI.Mt h (by rw[z,aa1];exact sb.pw (Va _) hb);unfold Good;rw[VQ,VQ,Yi];exact this
theorem HI.fb(sa:SI κ a 0 a.size)(bot:∀(i:Nat)(x y:Keyed),a[i]?=some x->b[0]?=some y->lt κ y x)(h:HI κ a b out na nb)(e:nb=1)(hn:na<=a.size):Good κ a b (b.extract 0 nb++a.extract 0 na++out.reverse):=by
 have:=MI.Mt (MI.sw h) (WK.mpr ⟨by
   rw[List.pairwise_iff_forall_sublist];intro x y hxy;have:=hxy.length_le;rw[show (b.extract 0 nb).toList.length=(b.extract 0 nb).size from Vt,Wr] at this;have:2<=min nb b.size-0:=this;lia,sa.pw (Va _) hn,λx hx y hy=>by
   obtain⟨i,i1,i2,i3⟩:=cJ.mp hx;obtain⟨j,j1,j2,j3⟩:=cJ.mp hy;have:i=0:=by lia
   subst this;exact(bot j y x j3 i3).le⟩)
 unfold Good;rw[VQ,VQ,Yi];exact this
theorem Cy(o:Array Keyed)(i:Nat):o++(a.extract i i).reverse=o:=by
 have:a.extract i i=#[]:=Zh (by rw[Wr];lia);rw[this,Array.reverse_empty,abO]
end
def HJ(κ:KeyKind)(a b:Array Keyed)(x na nb:Nat)(out:Array Keyed):Prop:=HI κ a b out na nb/\0<na/\na<=a.size/\1<nb/\nb<=b.size/\x+na+nb<=a.size+b.size
theorem HJ.mono{κ:KeyKind}{a b out:Array Keyed}{x x' na nb:Nat}(h:HJ κ a b x na nb out)(hx:x'<=x):HJ κ a b x' na nb out:=⟨h.1,h.2.1,h.2.2.1,h.2.2.2.1,h.2.2.2.2.1,by have:=h.2.2.2.2.2;lia⟩
section
variable{prog:Program}{w:World}{A:Around}{E:Value->Shared->Prop}{s:Shared}{κ:KeyKind}{k:SortKind}
set_option maxHeartbeats 2000000 in
theorem Lp(hA:lD prog w A s κ k){a b:Array Keyed}{st:SortSt}{Q:Array Keyed->SortSt->Prop}(hk:kindOf st=k)(ha:∀p∈a.toList,kW κ p)(hb:∀p∈b.toList,kW κ p)(sa:SI κ a 0 a.size)(sb:SI κ b 0 b.size)(n1:1<=a.size)(n2:1<=b.size)(hd:∀x y,a[0]?=some x->b[0]?=some y->lt κ y x)(top:∀(i j:Nat)(x y:Keyed),i+1=a.size->a[i]?=some x->b[j]?=some y->lt κ y x)(h:∀r Qn,lV st Qn->Good κ a b r->Q r Qn):wpS ↑11 A E s (Pr a b) Q st:=by
 unfold Pr;walk_at "u3";refine U4 (aaw (W0 ⟨rfl,?_⟩));obtain⟨y0,ey,hy0⟩:=el hb n2;obtain⟨x0,ex,hx0⟩:=el ha n1;obtain⟨xl,exl,hxl⟩:=el ha (show a.size-1<a.size by lia);have bot:∀(i:Nat)(x y:Keyed),a[i]?=some x->b[0]?=some y->lt κ y x:=λi x y e1 e2=>by
  rw[ey] at e2;cases e2;exact aaq (hd x0 y0 ex ey) (sa 0 i _ _ ⋯ ⋯ (fY e1) ex e1)
 refine U4 (bG exl ?_);have L0:HI κ a b #[xl] (a.size-1) b.size:=HI.pa (out:=#[]) sa HI.nil ⋯ exl λj y hj e=>(top _ j _ _ ⋯ exl e).le;refine eK (λe=>U_ (h _ _ lV.rfl (L0.dn sb e (UZ _)))) λe1=>eK (λe=>U_ (h _ _ lV.rfl (L0.fb sa bot e (Nat.sub_le _ _)))) λe2=>U4 (ZS ?_);have e1:a.size-1≠0:=e1;refine U4 (Xu (mJ (λx=>Im st λc=>HJ κ a b x c.1 c.2.1 c.2.2.1) (Q:=Qm st (Good κ a b) λ_=>False) ⟨lV.rfl,rfl,(show HJ κ a b 0 (a.size-1) b.size #[xl] from ⟨L0,by lia,by lia,by lia,by lia,by lia⟩)⟩ ?_ ?_) ?_)
 .rintro x ⟨c,na,nb,out,g⟩ Qn hx ⟨hK,rfl,hL⟩;refine U4 (Xu (mJ (λy=>Im st λc=>HJ κ a b (x+y) c.1 c.2.1 c.2.2.1) (Q:=Qm st (Good κ a b) λc=>HJ κ a b (x+1) c.1 c.2.1 c.2.2.1) ⟨hK,rfl,hL⟩ ?_ ?_) ?_)
  .rintro y ⟨c,na,nb,out,ac,bc⟩ Qn hy ⟨hK,rfl,hL⟩;obtain⟨hL,h1,Uh,h2,TL,h3⟩:=(show HJ κ a b (x+y) na nb out from hL)
   obtain⟨xb,eb,TY⟩:=el hb (show nb-1<b.size by lia);obtain⟨xa,ea,TX⟩:=el ha (show na-1<a.size by lia);refine U4 (bG eb (U4 (bG ea (U4 (wC hA (hK.kind.trans hk) TY TX ?_)))));refine dH (λhw=>U4 (bG ea ?_)) (λhw=>U4 (bG eb ?_))
   .have L:=hL.pa sa h1 ea λj y hj e=>le_trans (sb j (nb-1) _ _ ⋯ ⋯ (fY eb) e eb) (show lt κ xb xa from hw).le;have hJ:na-1≠0->HJ κ a b (x+y+1) (na-1) nb (out.push xa):=λe=>⟨L,by lia,by lia,h2,TL,by lia⟩
    exact eK (λe=>U_ ⟨hK,.inl ⟨_,rfl,L.dn sb e TL⟩⟩) λe=>dH (λ_=>U_ ⟨hK,.inr ⟨rfl,(hJ e).mono ⋯⟩⟩) λ_=>U_ ⟨hK,rfl,hJ e⟩
   .have L:=hL.pb sb ⋯ eb λj y hj e=>le_trans (sa j (na-1) _ _ ⋯ ⋯ (fY ea) e ea) (XA hw);have hJ:nb-1≠1->HJ κ a b (x+y+1) na (nb-1) (out.push xb):=λe=>⟨L,h1,Uh,by lia,by lia,by lia⟩
    exact eK (λe=>U_ ⟨hK,.inl ⟨_,rfl,L.fb sa bot e Uh⟩⟩) λe=>dH (λ_=>U_ ⟨hK,.inr ⟨rfl,(hJ e).mono ⋯⟩⟩) λ_=>U_ ⟨hK,rfl,hJ e⟩
  .rintro c Qn ⟨hK,hc,hL⟩;exact⟨hK,.inr ⟨hc,hL.mono ⋯⟩⟩
  .rintro⟨c,na,nb,out,ac,bc⟩ Qn ⟨hK,⟨r,rfl,hr⟩|⟨rfl,hL⟩⟩
   .exact U_ ⟨hK,.inl ⟨r,rfl,hr⟩⟩
   refine U4 (aaw (W0 ⟨rfl,?_⟩));refine U4 (Xu (mJ (λ_=>Im st λc=>HJ κ a b (x+1) c.1 c.2.1 c.2.2.1) (Q:=Qm st (Good κ a b) λc=>HJ κ a b (x+1) c.1 c.2.1 c.2.2.1) ⟨hK,rfl,hL⟩ ?_ λc Qn h=>⟨h.1,.inr h.2⟩) ?_)
   .rintro y ⟨c,na,nb,out,g,ac,bc⟩ Qn hy ⟨hK,rfl,hL⟩;obtain⟨hL,h1,Uh,h2,TL,h3⟩:=(show HJ κ a b (x+1) na nb out from hL)
    obtain⟨xb,eb,TY⟩:=el hb (show nb-1<b.size by lia)
    extract_lets -underBinder s1 o1 s2 i1 s3 j1 s4 g1 s5 a1 b1 jp
    subst s1 o1 s2 i1 s3 j1 s4 g1 s5 a1 b1;refine H0 (jp:=jp) λg'=>U4 (uD hK λQn hK=>?_);clear jp;refine U4 (bG eb (U4 (uR hA (hK.kind.trans hk) TY (by show 0+na<=_;lia) ha (by show na-1<na;lia) (sa.mono (UZ _) (by show 0+na<=_;lia)) λm hm R8 Sm=>?_)));have hm:m<=na:=hm;have L1:=hL.ga sa hm Uh λi x i1 i2 i3 j y j1 j2=>le_trans (sb j (nb-1) _ _ ⋯ ⋯ (fY eb) j2 eb) (Sm i x ⋯ (by show i<0+na;lia) i3).le;have RZ:∀i y,i<m->a[i]?=some y->le κ y xb:=λi y i1 i2=>R8 i y ⋯ ⋯ i2;dsimp -zeta only
    extract_lets -underBinder k1 c1 jp
    subst k1 c1;have J:∀i o,HI κ a b o i nb->0<i->i<=na->(∀j y,j<i->a[j]?=some y->le κ y xb)->wpS ↑11 A E s (jp () i o) (L_ (Im st λc=>HJ κ a b (x+1) c.1 c.2.1 c.2.2.1) (Qm st (Good κ a b) λc=>HJ κ a b (x+1) c.1 c.2.1 c.2.2.1)) Qn:=by
     intro i o L1 h1 Uw RZ;refine U4 (bG eb ?_);clear jp;have L2:=L1.pb sb ⋯ eb RZ;refine eK (λe=>U_ ⟨hK,.inl ⟨_,rfl,L2.fb sa bot e ⋯⟩⟩) λe=>?_;have e:nb-1≠1:=e;obtain⟨xa,ea,TX⟩:=el ha (show i-1<a.size by lia);refine U4 (bG ea (U4 (ux hA (hK.kind.trans hk) TX (by show 0+(nb-1)<=_;lia) hb (by show nb-1-1<nb-1;lia) (sb.mono (UZ _) (by show 0+(nb-1)<=_;lia)) λm hm R8 Sm=>?_)));have hm:m<=nb-1:=hm;have L3:=L2.gb sb hm ⋯ λl x i1 i2 i3 j y j1 j2=>le_trans (sa j (i-1) _ _ ⋯ ⋯ (fY ea) j2 ea) (Sm l x ⋯ (by show l<0+(nb-1);lia) i3);have hm2:m≠0:=λh0=>by
      subst h0;exact abc (Sm 0 y0 ⋯ (by show 0<0+(nb-1);lia) ey) (bot _ _ _ ea ey)
     dsimp -zeta only
     extract_lets -underBinder k1 c1 jp
     subst k1 c1;have J:∀j o,HI κ a b o i j->1<j->j<=nb-1->(∀l y,l<j->b[l]?=some y->le κ y xa)->wpS ↑11 A E s (jp () j o) (L_ (Im st λc=>HJ κ a b (x+1) c.1 c.2.1 c.2.2.1) (Qm st (Good κ a b) λc=>HJ κ a b (x+1) c.1 c.2.1 c.2.2.1)) Qn:=by
      intro j o L3 h2 hjn RZ;refine U4 (bG ea ?_);have L4:=L3.pa sa h1 ea RZ;have hJ:i-1≠0->HJ κ a b (x+1) (i-1) j (o.push xa):=λe=>⟨L4,by lia,by lia,h2,by lia,by lia⟩
      exact eK (λe=>U_ ⟨hK,.inl ⟨_,rfl,L4.dn sb e ⋯⟩⟩) λe=>dH (λ_=>U_ ⟨hK,.inr ⟨rfl,hJ e⟩⟩) λ_=>U_ ⟨hK,rfl,hJ e⟩
     have RZ:∀l y,l<m->b[l]?=some y->le κ y xa:=λl y i1 i2=>(R8 l y ⋯ ⋯ i2).le;refine dH (λR4=>eK (λe=>U_ ⟨hK,.inl ⟨_,rfl,L3.fb sa bot e ⋯⟩⟩) λe=>eK (λe=>absurd e hm2) λ_=>J _ _ L3 ⋯ hm RZ) λR4=>?_;have R4:m=nb-1:=by lia
     subst R4;rw[Cy] at L3;exact J _ _ L3 ⋯ (UZ _) RZ
    clear_value jp
    refine dH (λR4=>eK (λe=>U_ ⟨hK,.inl ⟨_,rfl,L1.dn sb e TL⟩⟩) λe=>J _ _ L1 (Nat.pos_of_ne_zero e) hm RZ) λR4=>?_;have R4:m=na:=by lia
    subst R4;rw[Cy] at L1;exact J _ _ L1 h1 (UZ _) RZ
   .rintro⟨c,na,nb,out,g,ac,bc⟩ Qn ⟨hK,⟨r,rfl,hr⟩|⟨rfl,hL⟩⟩
    .exact U_ ⟨hK,.inl ⟨r,rfl,hr⟩⟩
    .exact U4 (uD hK λRa hK=>U_ ⟨hK,rfl,hL⟩)
 .rintro c Qn ⟨hK,_,hL,h1,Uh,h2,TL,h3⟩;lia
 .rintro⟨c,t⟩ Qn ⟨hK,⟨r,rfl,hr⟩|⟨_,h⟩⟩
  .exact U_ (h r Qn hK hr)
  .exact h.elim
end
end Srt
local macro_rules|`(tactic| walk_at "u4")=>`(tactic| unfold $(Lean.mkIdent (Lean.mkPrivateNameCore `PySem.Builtin.List.W1All `PySem.Builtin.countRun)):ident)
local macro_rules|`(tactic| walk_at "u5")=>`(tactic| unfold $(Lean.mkIdent (Lean.mkPrivateNameCore `PySem.Builtin.List.W1All `PySem.Builtin.binarySort)):ident)
namespace Srt
open PySem PyProof.Rows
def KS(κ:KeyKind)(a:Array Keyed)(lo hi:Nat):Prop:=∀i j,lo<=i->i<=j->j<hi->κ.kle (KK κ a i) (KK κ a j)
def KD(κ:KeyKind)(a:Array Keyed)(lo hi:Nat):Prop:=∀i j,lo<=i->i<=j->j<hi->κ.kle (KK κ a j) (KK κ a i)
structure Ch (st Qn:SortSt) (lo hi:Nat):Prop where
 kind:kindOf Qn=kindOf st
 pend:pendingOf Qn=pendingOf st
 fail:failedOf Qn=failedOf st
 perm:(arrOf Qn).Perm (arrOf st)
 out:∀i,(i<lo\/hi<=i)->(arrOf Qn)[i]?=(arrOf st)[i]?
variable{lo:Nat}
variable{i j:Nat}
section
variable{κ:KeyKind}{st Qn Qz:SortSt}{hi:Nat}
def Ch.rfl:Ch st st lo hi:=⟨.refl _,.refl _,.refl _,.refl _,λ_ _=>.refl _⟩
theorem Ch.trans(h:Ch st Qn lo hi)(h':Ch Qn Qz lo hi):Ch st Qz lo hi :=
 ⟨h'.kind.trans h.kind,h'.pend.trans h.pend,h'.fail.trans h.fail,h'.perm.trans h.perm,λi hi=>(h'.out i hi).trans (h.out i hi)⟩
theorem Ch.size(h:Ch st Qn lo hi):(arrOf Qn).size=(arrOf st).size:=h.perm.size_eq
def Ch.has(h:Ch st Qn lo hi)(ha:∀p∈(arrOf st).toList,kW κ p):∀p∈(arrOf Qn).toList,kW κ p :=
 λp hp=>ha p ((Xv.mp h.perm).mem_iff.mp hp)
theorem Ch.rev(h:Ch st Qn lo hi)(h1:lo<=i)(h2:j<=hi)(h3:j<=(arrOf Qn).size):Ch st (setArr Qn (mirror (arrOf Qn) i j ((j-i)/2))) lo hi :=
 h.trans ⟨.refl _,.refl _,.refl _,mirror_perm _ _ _ _,λm hm=>by
  show (mirror (arrOf Qn) i j ((j-i)/2))[m]?=_;rw[getElem?_mirror_all h3,if_neg ⋯]⟩
theorem Ch.P_(h:Ch st Qn lo hi)(h0:i<=j)(h1:lo<=i)(h2:j<hi)(h3:j<(arrOf Qn).size):Ch st (setArr Qn (bubble (arrOf Qn) j (j-i))) lo hi :=
 h.trans ⟨.refl _,.refl _,.refl _,bubble_perm _ _ _,λm hm=>by
  show (bubble (arrOf Qn) j (j-i))[m]?=_;rw[getElem?_bubble h3 _ ⋯,if_neg ⋯,if_neg ⋯]⟩
def yw{a:Array Keyed}{x:Keyed}(e:a[i]?=some x):KK κ a i=ky κ x:=by unfold KK;rw[e];rfl
def KS.si{a:Array Keyed}(h:KS κ a lo hi):SI κ a lo hi:=λi j x y h1 h2 h3 e1 e2=>by
 have:=h i j h1 h2 h3;rwa[yw e1,yw e2] at this
end
section
variable{prog:Program}{w:World}{A:Around}{E:Value->Shared->Prop}{s:Shared}{κ:KeyKind}{k:SortKind}
def wp_at(hA:lD prog w A s κ k){st:SortSt}{Q:Option Bool->SortSt->Prop}(hk:kindOf st=k)(ha:∀p∈(arrOf st).toList,kW κ p)(hi:i<(arrOf st).size)(hj:j<(arrOf st).size)(h:Q (some (κ.blt (KK κ (arrOf st) i) (KK κ (arrOf st) j))) st):wpS ↑11 A E s (ltAt' i j) Q st:=by
 obtain⟨x,ex,hx⟩:=el ha hi;obtain⟨y,ey,hy⟩:=el ha hj;refine GN hA hk ex ey hx hy ?_;rwa[<- yw ex,<- yw ey]
def uc{st:SortSt}{Q:Unit->SortSt->Prop}(h:Q () (setArr st (mirror (arrOf st) i j ((j-i)/2)))):wpS ↑11 A E s (reverseSlice' i j) Q st:=by
 rw[reverseSlice'_eq];exact Zj h
def Me:Nat->Nat->Nat->StateT SortSt Sem Bool:=sortPriv% PySem.Builtin.binarySort
def cnt:Nat->Nat->StateT SortSt Sem (Option Nat):=sortPriv% PySem.Builtin.countRun
theorem Fn(hA:lD prog w A s κ k){st:SortSt}{n ok:Nat}{Q:Bool->SortSt->Prop}(hk:kindOf st=k)(ha:∀p∈(arrOf st).toList,kW κ p)(hn:lo+n<=(arrOf st).size)(bq:ok<=n)(hs:KS κ (arrOf st) lo (lo+ok))(h:∀Qn,Ch st Qn lo (lo+n)->KS κ (arrOf Qn) lo (lo+n)->Q true Qn):wpS ↑11 A E s (Me lo n ok) Q st:=by
 unfold Me;walk_at "u5";dsimp only;refine U4 (Xu (W8 (I:=λj c Qn=>c=(none,())/\Ch st Qn lo (lo+n)/\KS κ (arrOf Qn) lo (lo+min j n))
  (Q:=λc Qn=>c=(none,())/\Ch st Qn lo (lo+n)/\KS κ (arrOf Qn) lo (lo+n)) ?step ?fin ?init) ?post)
 case post =>
  rintro c Qn ⟨rfl,hC,R_⟩;exact U_ (h Qn hC R_)
 case init =>
  refine⟨rfl,Ch.rfl,λi j h1 hij hj=>?_⟩
  by_cases h0:ok=0
  .have:i=j:=by lia
   subst this;exact WD _
  .exact hs i j h1 hij ⋯
 case fin =>
  rintro c Qn ⟨hc,hC,R_⟩;refine⟨hc,hC,?_⟩
  rwa [show min (max (max ok 1) n) n=n by lia] at R_
 case step =>
  rintro j c Qn hj1 hj2 ⟨rfl,hC,R_⟩;rw[show min j n=j by lia] at R_;have hz:=hC.size;have Ui:=hC.has ha;refine U4 (Xu (W8 (I:=λx c Qz=>Qz=Qn/\∃l r,c=(none,l,r)/\l<=r/\r<=j/\r-l<=j-x ∧
    (∀i,lo<=i->i<lo+l->κ.kle (KK κ (arrOf Qn) i) (KK κ (arrOf Qn) (lo+j)))/\(∀i,lo+r<=i->i<lo+j->κ.klt (KK κ (arrOf Qn) (lo+j)) (KK κ (arrOf Qn) i)))
   (Q:=λc Qz=>Qz=Qn/\∃l r,c=(none,l,r)/\l<=j ∧
    (∀i,lo<=i->i<lo+l->κ.kle (KK κ (arrOf Qn) i) (KK κ (arrOf Qn) (lo+j)))/\(∀i,lo+l<=i->i<lo+j->κ.klt (KK κ (arrOf Qn) (lo+j)) (KK κ (arrOf Qn) i))) ?s1 ?f1
   ⟨rfl,0,j,rfl,by lia,by lia,by lia,λi _ hi=>by lia,λi h1 h2=>by lia⟩) ?p1)
  case f1 =>
   rintro c Qz ⟨rfl,l,r,rfl,hlr,hrk,hm,h1,h2⟩;have:l=r:=by lia
   subst this;exact⟨rfl,l,l,rfl,hrk,h1,h2⟩
  case s1 =>
   rintro x c Qz _ hx ⟨rfl,l,r,rfl,hlr,hrk,hm,h1,h2⟩;dsimp only
   by_cases hge:l>=r
   .rw[if_pos hge];have:l=r:=by lia
    subst this;exact U_ ⟨rfl,l,l,rfl,hrk,h1,h2⟩
   .rw[if_neg hge];refine U4 (wp_at hA (hC.kind.trans hk) Ui ⋯ ⋯ ?_);dsimp only;cases hb:κ.blt (KK κ (arrOf Qz) (lo+j)) (KK κ (arrOf Qz) (lo+(l+r)/2))
    .exact U_ ⟨rfl,(l+r)/2+1,r,rfl,by lia,by lia,by lia,λi i1 i2=>Yq (R_ i (lo+(l+r)/2) i1 ⋯ ⋯) hb,h2⟩
    .exact U_ ⟨rfl,l,(l+r)/2,rfl,by lia,by lia,by lia,h1,λi i1 i2=>aaq hb (R_ _ _ ⋯ i1 i2)⟩
  case p1 =>
   rintro c Qz ⟨rfl,l,r,rfl,hl,h1,h2⟩;show wpS _ _ _ _ (do moveDown' (lo+j) (lo+l);pure (aa2 (none,()))) _ _;rw[moveDown'_eq];refine U4 (Zj (U_ ⟨rfl,hC.P_ ⋯ ⋯ ⋯ ⋯,?_⟩));rw[show min (j+1) n=j+1 by lia];have hks:lo+j<(arrOf Qz).size:=by lia
   intro i i' i1 i2 i3;show κ.kle (KK κ (bubble (arrOf Qz) (lo+j) (lo+j-(lo+l))) i) (KK κ (bubble (arrOf Qz) (lo+j) (lo+j-(lo+l))) i');rw[KK_bubble hks ⋯,KK_bubble hks ⋯,show lo+j-(lo+j-(lo+l))=lo+l by lia]
   repeat' split
   all_goals first
    | (exfalso;lia)
    | exact WD _
    | exact h1 _ ⋯ ⋯
    | exact X_ (h2 _ ⋯ ⋯)
    |exact R_ _ _ ⋯ ⋯ ⋯
theorem Pt{r:κ.α->κ.α->Prop}(rr:∀x,r x x)(rt:∀x y z,r x y->r y z->r x z){a:Array Keyed}{x:Nat}(h:∀i j,lo<=i->i<=j->j<lo+x->r (KK κ a i) (KK κ a j))(h1:1<=x)(hb:r (KK κ a (lo+x-1)) (KK κ a (lo+x))):∀i j,lo<=i->i<=j->j<lo+(x+1)->r (KK κ a i) (KK κ a j):=by
 intro i j i1 i2 i3
 by_cases hj:j<lo+x
 .exact h i j i1 i2 hj
 .have:j=lo+x:=by lia
  subst this
  by_cases hi:i=lo+x
  .subst hi;exact rr _
  .exact rt _ _ _ (h i (lo+x-1) i1 ⋯ ⋯) hb
def KS.next{a:Array Keyed}{x:Nat}(h:KS κ a lo (lo+x))(h1:1<=x)(hb:κ.kle (KK κ a (lo+x-1)) (KK κ a (lo+x))):KS κ a lo (lo+(x+1)):=Pt WD (λ_ _ _=>Yq) h h1 hb
def KD.next{a:Array Keyed}{x:Nat}(h:KD κ a lo (lo+x))(h1:1<=x)(hb:κ.kle (KK κ a (lo+x)) (KK κ a (lo+x-1))):KD κ a lo (lo+(x+1)):=Pt (r:=λx y=>κ.kle y x) WD (λ_ _ _ p q=>Yq q p) h h1 hb
theorem IT(hA:lD prog w A s κ k){st:SortSt}{QH:Nat}{Q:Option Nat->SortSt->Prop}(hk:kindOf st=k)(ha:∀p∈(arrOf st).toList,kW κ p)(hn:lo+QH<=(arrOf st).size)(h1:1<=QH)(h:∀m Qn,Ch st Qn lo (lo+QH)->1<=m->m<=QH->KS κ (arrOf Qn) lo (lo+m)->Q (some m) Qn):wpS ↑11 A E s (cnt lo QH) Q st:=by
 have up:∀(n:Nat)(RD:SortSt)(f:Nat->Option (Option Nat)×Nat->StateT SortSt Sem (ForInStep (Option (Option Nat)×Nat))){R:Option (Option Nat)×Nat->SortSt->Prop},
   1<=n->n<=QH->Ch st RD lo (lo+QH)->KS κ (arrOf RD) lo (lo+n) ->
   (∀x i {R':ForInStep (Option (Option Nat)×Nat)->SortSt->Prop},1<=x->x<QH->(κ.blt (KK κ (arrOf RD) (lo+x)) (KK κ (arrOf RD) (lo+x-1))=true->R' (.done (none,x)) RD) ->
    (κ.blt (KK κ (arrOf RD) (lo+x)) (KK κ (arrOf RD) (lo+x-1))=false->R' (.yield (none,x+1)) RD)->wpS ↑11 A E s (f i (none,x)) R' RD) ->
   (∀x,1<=x->x<=QH->KS κ (arrOf RD) lo (lo+x)->(x=QH\/κ.klt (KK κ (arrOf RD) (lo+x)) (KK κ (arrOf RD) (lo+x-1)))->R (none,x) RD) ->
   wpS ↑11 A E s (forIn [n:QH] (none,n) f) R RD:=by
  intro n RD f R n1 n2 hC hs hf hR;refine W8 (I:=λx c Qn=>Qn=RD/\c=(none,x)/\KS κ (arrOf RD) lo (lo+x)) ?_ ?_ ⟨rfl,rfl,hs⟩
  .rintro x c Qn TH Rz ⟨rfl,rfl,hs⟩;exact hf x x ⋯ Rz (λhb=>hR x ⋯ ⋯ hs (.inr hb)) λhb=>⟨rfl,rfl,hs.next ⋯ hb⟩
  .rintro c Qn ⟨rfl,rfl,hs⟩;rw[show max n QH=QH by lia] at hs ⊢;exact hR QH h1 (UZ _) hs (.inl rfl)
 unfold cnt;walk_at "u4";refine U4 (up 1 st _ (UZ _) h1 Ch.rfl (λi j i1 i2 i3=>by have:i=j:=⋯;subst this;exact WD _) (λx i R' x1 x2 r1 r2=>?_) λn hn1 SE hs hor=>?_)
 .refine U4 (wp_at hA hk ha (by show lo+x<_;lia) (by show lo+x-1<_;lia) (dH (λhb=>U_ (r1 hb)) λhb=>U_ (r2 (by simpa using hb))))
 refine eK (λe=>U_ (h n _ Ch.rfl hn1 SE hs)) λe=>?_;have QW:=hor.resolve_left e;have e:n≠QH:=e;dsimp -zeta only
 extract_lets -underBinder jp
 have J:∀u RD,Ch st RD lo (lo+QH)->KD κ (arrOf RD) lo (lo+(n+1))->wpS ↑11 A E s (jp u) Q RD:=by
  intro u RD hC hD;refine U4 (aaw (W0 ⟨rfl,?_⟩));clear jp;refine U4 (Xu (W8 (I:=λx c Qz=>∃R0,c=(none,x,R0)/\Ch st Qz lo (lo+QH)/\KD κ (arrOf Qz) lo (lo+x)/\R0+1<=x ∧
    (∀i,lo+x-(R0+1)<=i->i<lo+x->KK κ (arrOf Qz) i=KK κ (arrOf Qz) (lo+x-1)))
   (Q:=λc Qz=>∃x R0,c=(none,x,R0)/\1<=x/\x<=QH/\Ch st Qz lo (lo+QH)/\KD κ (arrOf Qz) lo (lo+x)/\R0+1<=x ∧
    (∀i,lo+x-(R0+1)<=i->i<lo+x->KK κ (arrOf Qz) i=KK κ (arrOf Qz) (lo+x-1))) ?s2 ?f2 ⟨0,rfl,hC,hD,by lia,λi i1 i2=>by congr 1;lia⟩) ?p2)
  case f2 =>
   rintro c Qz ⟨R0,rfl,hC2,hD2,hq,he⟩;rw[show max (n+1) QH=QH by lia] at hD2 hq he ⊢;exact⟨QH,R0,rfl,by lia,UZ _,hC2,hD2,hq,he⟩
  case s2 =>
   rintro x c Qz TH Rz ⟨R0,rfl,hC2,hD2,hq,he⟩;have hz:=hC2.size;have ha2:=hC2.has ha;refine U4 (wp_at hA (hC2.kind.trans hk) ha2 (by show lo+x<_;lia) (by show lo+x-1<_;lia) (dH (λhb=>?_) λhb=>?_))
   .have N:=hD2.next ⋯ (X_ hb);refine dH (λTR=>U4 (uc (U_ ⟨0,rfl,hC2.rev (by show lo<=lo+x-(R0+1);lia) (by show lo+x<=_;lia) (by show lo+x<=_;lia),λi j i1 i2 i3=>?_,by lia,λi i1 i2=>by congr 1;lia⟩))) λTR=>U_ ⟨0,rfl,hC2,N,by lia,λi i1 i2=>by congr 1;lia⟩;show κ.kle (KK κ (mirror (arrOf Qz) (lo+x-(R0+1)) (lo+x) ((lo+x-(lo+x-(R0+1)))/2)) j) (KK κ (mirror (arrOf Qz) (lo+x-(R0+1)) (lo+x) ((lo+x-(lo+x-(R0+1)))/2)) i);rw[X8 ⋯ he,X8 ⋯ he];exact N i j i1 i2 i3
   .refine U4 (wp_at hA (hC2.kind.trans hk) ha2 (by show lo+x-1<_;lia) (by show lo+x<_;lia) (dH (λ_=>U_ ⟨x,R0,rfl,by lia,by lia,hC2,hD2,hq,he⟩) λhb2=>?_));have eqx:KK κ (arrOf Qz) (lo+x)=KK κ (arrOf Qz) (lo+x-1):=abx (XA hb2) (XA hb);refine U_ ⟨R0+1,rfl,hC2,hD2.next ⋯ (by rw[eqx];exact WD _),by lia,λi i1 i2=>?_⟩;rw[show lo+(x+1)-1=lo+x by lia,eqx]
    by_cases hi:i=lo+x
    .subst hi;exact eqx
    .exact he i ⋯ ⋯
  case p2 =>
   rintro c Qz ⟨m,R0,rfl,hm1,hm2,hC2,hD2,hq,he⟩;have hz:=hC2.size
   extract_lets -underBinder r1 s1 n1 q1
   subst r1 s1 n1 q1;dsimp -zeta only
   extract_lets -underBinder jp
   have J:∀u RT,Ch st RT lo (lo+QH)->KD κ (arrOf RT) lo (lo+m)->wpS ↑11 A E s (jp u) Q RT:=by
    intro u RT Tx hD3;refine U4 (uc ?_);clear jp;have UI:=Tx.size;have S4:KS κ (arrOf (setArr RT (mirror (arrOf RT) lo (lo+m) ((lo+m-lo)/2)))) lo (lo+m):=by
     intro i j i1 i2 i3;show κ.kle (KK κ (mirror (arrOf RT) _ _ _) i) (KK κ (mirror (arrOf RT) _ _ _) j);rw[KK_mirror ⋯,KK_mirror ⋯,if_pos ⋯,if_pos ⋯];exact hD3 _ _ ⋯ ⋯ ⋯
    have T7:=Tx.rev (i:=lo) (j:=lo+m) (UZ _) ⋯ ⋯;generalize setArr RT (mirror (arrOf RT) lo (lo+m) ((lo+m-lo)/2))=Ra at S4 T7 ⊢;have hz4:=T7.size;refine U4 (up m Ra _ hm1 hm2 T7 S4 (λx i R' x1 x2 r1 r2=>?_) λx x1 x2 hs _=>U_ (h x _ T7 x1 x2 hs));exact U4 (wp_at hA (T7.kind.trans hk) (T7.has ha) (by show lo+x<_;lia) (by show lo+x-1<_;lia) (dH (λhb=>U_ (r1 hb)) λhb=>U_ (r2 (by simpa using hb))))
   clear_value jp
   refine dH (λTR=>U4 (uc (J _ _ (hC2.rev (i:=lo+m-(R0+1)) (j:=lo+m) ⋯ ⋯ ⋯) λi j i1 i2 i3=>?_))) λTR=>J _ _ hC2 hD2;show κ.kle (KK κ (mirror (arrOf Qz) _ _ _) j) (KK κ (mirror (arrOf Qz) _ _ _) i);rw[X8 ⋯ he,X8 ⋯ he];exact hD2 i j i1 i2 i3
 clear_value jp
 refine dH (λhg=>U4 (wp_at hA hk ha ⋯ (by show lo+n-1<_;lia) (dH (λ_=>U_ (h n _ Ch.rfl hn1 SE hs)) λhr=>U4 (uc (J _ _ ((Ch.rfl (st:=st) (lo:=lo) (hi:=lo+QH)).rev (i:=lo) (j:=lo+n) (UZ _) ⋯ ⋯) λi j i1 i2 i3=>?_))))) λhg=>J _ _ Ch.rfl (KD.next (λi j i1 i2 i3=>by have:i=j:=⋯;subst this;exact WD _) hn1 (X_ QW));have heq:∀m,lo<=m->m<lo+n->KK κ (arrOf st) m=KK κ (arrOf st) (lo+n-1):=λm m1 m2 =>
  abx (hs m (lo+n-1) m1 ⋯ ⋯) (Yq (XA hr) (hs lo m ⋯ m1 m2))
 show κ.kle (KK κ (mirror (arrOf st) _ _ _) j) (KK κ (mirror (arrOf st) _ _ _) i);rw[X8 ⋯ heq,X8 ⋯ heq]
 by_cases hj:j<lo+n
 .rw[heq i i1 ⋯,heq j ⋯ hj];exact WD _
 .have:j=lo+n:=by lia
  subst this
  by_cases hi:i=lo+n
  .subst hi;exact WD _
  .rw[heq i i1 ⋯];exact X_ QW
end
end Srt
local macro_rules|`(tactic| walk_at "u6")=>`(tactic| unfold $(Lean.mkIdent (Lean.mkPrivateNameCore `PySem.Builtin.List.W1All `PySem.Builtin.mergeAt)):ident)
namespace Srt
open PySem PyProof.Rows
theorem yN(b:Nat)(S:List Keyed):∀(l O P:List Keyed)(off:Nat)(arr:Array Keyed),arr.toList=P++O++S->O.length=l.length->P.length=b+off ->((l.zipIdx off).foldl (λ(a:Array Keyed) (x:Keyed×Nat)=>a.setIfInBounds (b+x.2) x.1) arr).toList=P++l++S
 | [],O,P,off,arr,h,hl,hp=>by
  have:O=[]:=aay.mp hl;subst this;simpa using h
 | x::l,[],P,off,arr,h,hl,hp=>by simp at hl
 | x::l,o::O,P,off,arr,h,hl,hp=>by
  rw[Xn,acP,yN b S l O (P++[x]) (off+1) _ _ (by simpa using hl) (by simp[hp];lia)]
  .simp
  .rw[aaa,h,<- hp];simp[acR]
def Jx{a:Array Keyed}{P O S:List Keyed}(h:a.toList=P++O++S):(a.extract P.length (P.length+O.length)).toList=O:=by
 rw[Array.toList_extract,h];simp[List.extract]
def GR{P O O' S:List Keyed}(h:O.length=O'.length)(i:Nat)(hi:i<P.length\/P.length+O.length<=i):(P++O++S)[i]?=(P++O'++S)[i]?:=by
 rw[VG,VG];rcases hi with hi|hi
 .rw[VX hi,VX hi]
 .rw[Vp ⋯,Vp ⋯,Vp ⋯,Vp ⋯,h]
def D8{κ:KeyKind}{a:Array Keyed}{lo hi:Nat}(h:(a.extract lo hi).toList.Pairwise (le κ)):SI κ a lo hi:=by
 intro i j x y h1 h2 h3 e1 e2;have b1:=fY e1;have b2:=fY e2;rcases VH i j with QW|hge
 .have hz:(a.extract lo hi).toList.length=min hi a.size-lo:=by rw[Vt,Wr]
  have q:∀m z,lo<=m->m<hi->m<a.size->a[m]?=some z->(a.extract lo hi).toList[m-lo]?=some z:=by
   intro m z m1 m2 m3 e;rwa[VO,Wj,if_pos ⋯,show lo+(m-lo)=m by lia]
  have p1:=q i x h1 ⋯ b1 e1;have p2:=q j y ⋯ h3 b2 e2;rw[aaf] at h;obtain⟨b1,p1⟩:=VW.mp p1;obtain⟨b2,p2⟩:=VW.mp p2;have:=h (i-lo) (j-lo) b1 b2 ⋯;rwa[p1,p2] at this
 .have:i=j:=by lia
  subst this;rw[e1] at e2;cases e2;exact le_refl _
def jo{a:Array Keyed}{i j:Nat}(h:j<=a.size):(a.extract i j).toList.length=j-i:=by
 rw[Vt,Wr];lia
section
variable{prog:Program}{w:World}{A:Around}{E:Value->Shared->Prop}{s:Shared}{κ:KeyKind}{k:SortKind}
def OZ:Nat->StateT SortSt Sem Bool:=sortPriv% PySem.Builtin.mergeAt
theorem CS{p:Array (Nat×Nat×Nat)}{L1 L2:List (Nat×Nat×Nat)}{x y v:Nat×Nat×Nat}(h:p.toList=L1++x::y::L2):((p.setIfInBounds L1.length v).eraseIdxIfInBounds (L1.length+1)).toList=L1++v::L2:=by
 have hz:L1.length+1<(p.setIfInBounds L1.length v).size:=by
  rw[Array.size_setIfInBounds,<- Vt,h];simp
 unfold Array.eraseIdxIfInBounds;rw[dif_pos hz,Array.toList_eraseIdx,aaa,h];simp[acR,List.eraseIdx_append];intro h';lia
theorem merged{arr:Array Keyed}{m na nb j l:Nat}{r:Array Keyed}(hz:m+na+nb<=arr.size)(s1:SI κ arr m (m+na))(s2:SI κ arr (m+na) (m+na+nb))(hj:j<=na)(hl:l<=nb)(n1:j<na)(n2:0<l)(lo1:∀i y z,m<=i->i<m+j->arr[i]?=some y->arr[m+na]?=some z->le κ y z)(hi2:∀i y z,m+na+l<=i->i<m+na+nb->arr[i]?=some y->arr[m+na-1]?=some z->le κ z y)(hr:Good κ (arr.extract (m+j) (m+na)) (arr.extract (m+na) (m+na+l)) r):∀ Sa:Array Keyed,Sa=r.toList.zipIdx.foldl (λa (x:Keyed×Nat)=>a.setIfInBounds (m+j+x.2) x.1) arr ->Sa.Perm arr/\(∀i,i<m\/m+na+nb<=i->Sa[i]?=arr[i]?)/\SI κ Sa m (m+na+nb):=by
 rintro Sa rfl;have d1:arr.toList=(arr.extract 0 (m+j)).toList++((arr.extract (m+j) (m+na)).toList++(arr.extract (m+na) (m+na+l)).toList)++(arr.extract (m+na+l) arr.size).toList:=by
  rw[<- k9 arr ⋯ ⋯,<- k9 arr ⋯ ⋯,<- k9 arr ⋯ ⋯];simp
 have hlen:((arr.extract (m+j) (m+na)).toList++(arr.extract (m+na) (m+na+l)).toList).length=r.toList.length:=hr.2.length_eq.symm;have TC:r.toList.length=na-j+l:=by
  rw[<- hlen,Vb,jo ⋯,jo ⋯];lia
 have d2:=yN (m+j) (arr.extract (m+na+l) arr.size).toList r.toList _ (arr.extract 0 (m+j)).toList 0 arr d1 hlen (by rw[jo ⋯];lia);generalize r.toList.zipIdx.foldl (λa (x:Keyed×Nat)=>a.setIfInBounds (m+j+x.2) x.1) arr=Sa at d2 ⊢;refine⟨?_,?_,?_⟩
 .refine Xv.mpr ?_;rw[d1,d2];exact YZ _ (X9 _ hr.2)
 .intro i hi;rw[<- VO,<- VO,d1,d2];refine GR hlen.symm i ?_;rw[jo ⋯,TC];lia
 .have d3:Sa.toList=(arr.extract 0 m).toList++((arr.extract m (m+j)).toList++r.toList++(arr.extract (m+na+l) (m+na+nb)).toList)++(arr.extract (m+na+nb) arr.size).toList:=by
   rw[d2,k9 arr (show 0<=m by lia) (show m<=m+j by lia),k9 arr (show m+na+l<=m+na+nb by lia) hz];simp only[VG]
  have d4:=Jx d3;rw[jo ⋯] at d4;have hl4:((arr.extract m (m+j)).toList++r.toList++(arr.extract (m+na+l) (m+na+nb)).toList).length=na+nb:=by
   rw[Vb,Vb,jo ⋯,jo ⋯,TC];lia
  rw[hl4,show m-0+(na+nb)=m+na+nb by lia,show m-0=m by lia] at d4;refine D8 ?_;rw[d4];obtain⟨z0,e0⟩:∃z,arr[m+na]?=some z:=⟨_,getElem?_pos arr (m+na) ⋯⟩
  obtain⟨zl,el⟩:∃z,arr[m+na-1]?=some z:=⟨_,getElem?_pos arr (m+na-1) ⋯⟩
  have X0:∀y∈(arr.extract m (m+j)).toList,∀i z,m+j<=i->i<m+na+nb->arr[i]?=some z->le κ y z:=by
   intro y hy i z i1 i2 i3;obtain⟨i',a1,a2,a3⟩:=cJ.mp hy;rcases VH i (m+na) with QW|hge
   .exact s1 i' i y z a1 ⋯ QW a3 i3
   .exact le_trans (lo1 i' y z0 a1 a2 a3 e0) (s2 (m+na) i z0 z ⋯ hge i2 e0 i3)
  have Y1:∀y∈(arr.extract (m+na+l) (m+na+nb)).toList,∀i z,m<=i->i<m+na+l->arr[i]?=some z->le κ z y:=by
   intro y hy i z i1 i2 i3;obtain⟨i',a1,a2,a3⟩:=cJ.mp hy;rcases VH i (m+na) with QW|hge
   .exact le_trans (s1 i (m+na-1) z zl i1 ⋯ ⋯ i3 el) (hi2 i' y zl a1 a2 a3 el)
   .exact s2 i i' z y hge ⋯ a2 i3 a3
  have hm:∀y∈r.toList,∃i,m+j<=i/\i<m+na+l/\arr[i]?=some y:=by
   intro y hy;rcases V7.mp (hr.2.mem_iff.mp hy) with hy|hy
   .obtain⟨i,a1,a2,a3⟩:=cJ.mp hy;exact⟨i,a1,by lia,a3⟩
   .obtain⟨i,a1,a2,a3⟩:=cJ.mp hy;exact⟨i,by lia,a2,a3⟩
  rw[VG,WK,WK];refine⟨s1.pw (UZ _) ⋯,⟨hr.1,s2.pw ⋯ (UZ _),λx hx y hy=>?_⟩,λx hx y hy=>?_⟩
  .obtain⟨i,a1,a2,a3⟩:=hm x hx;exact Y1 y hy i x ⋯ a2 a3
  .rcases V7.mp hy with hy|hy
   .obtain⟨i,a1,a2,a3⟩:=hm y hy;exact X0 x hx i y a1 ⋯ a3
   .obtain⟨i,a1,a2,a3⟩:=cJ.mp hy;exact X0 x hx i y ⋯ ⋯ a3
theorem SI.join{a:Array Keyed}{l m h:Nat}(s1:SI κ a l m)(s2:SI κ a m h)(c:∀i j x y,l<=i->i<m->m<=j->j<h->a[i]?=some x->a[j]?=some y->le κ x y):SI κ a l h:=by
 intro i j x y h1 h2 h3 e1 e2
 by_cases hj:j<m
 .exact s1 i j x y h1 h2 hj e1 e2
 .by_cases hi:i<m
  .exact c i j x y h1 hi ⋯ h3 e1 e2
  .exact s2 i j x y ⋯ h2 h3 e1 e2
def kn{a:Array Keyed}{i j:Nat}(ha:∀p∈a.toList,kW κ p):∀p∈(a.extract i j).toList,kW κ p:=λp hp=>by
 obtain⟨m,_,_,e⟩:=cJ.mp hp;exact ha p (by rw[abb];exact⟨m,by rwa[VO]⟩)
theorem yQ{a:Array Keyed}{i j:Nat}(h:SI κ a i j):SI κ (a.extract i j) 0 (a.extract i j).size:=by
 intro m n x y h1 h2 h3 e1 e2;rw[Wj] at e1 e2;rw[Wr] at h3;rw[if_pos ⋯] at e1 e2;exact h _ _ x y ⋯ ⋯ ⋯ e1 e2
def Lo{st RD:SortSt}{Q:PUnit->SortSt->Prop}(h:Q ⟨⟩ RD):wpS ↑11 A E s (set RD:StateT SortSt Sem PUnit) Q st:=by
 unfold wpS;rw[StateT.run_set];exact UX ⟨rfl,h⟩
set_option maxHeartbeats 1000000 in
def Ld(hA:lD prog w A s κ k){st:SortSt}{L1 L2:List (Nat×Nat×Nat)}{m na nb pw TJ:Nat}{Q:Bool->SortSt->Prop}(hk:kindOf st=k)(ha:∀p∈(arrOf st).toList,kW κ p)(hf:failedOf st=none)(hp:(pendingOf st).toList=L1++(m,na,pw)::(m+na,nb,TJ)::L2)(n1:1<=na)(n2:1<=nb)(hz:m+na+nb<=(arrOf st).size)(s1:SI κ (arrOf st) m (m+na))(s2:SI κ (arrOf st) (m+na) (m+na+nb))(h:∀Qn,kindOf Qn=k->(arrOf Qn).Perm (arrOf st)->failedOf Qn=none->(pendingOf Qn).toList=L1++(m,na+nb,pw)::L2 ->(∀i,i<m\/m+na+nb<=i->(arrOf Qn)[i]?=(arrOf st)[i]?)->SI κ (arrOf Qn) m (m+na+nb)->Q true Qn):wpS ↑11 A E s (OZ L1.length) Q st:=by
 unfold OZ;walk_at "u6";dsimp only;refine U4 (ZS ?_);have p1:(pendingOf st)[L1.length]?=some (m,na,pw):=by rw[<- VO,hp];simp
 have p2:(pendingOf st)[L1.length+1]?=some (m+na,nb,TJ):=by rw[<- VO,hp];simp
 have pn:=CS (v:=(m,na+nb,pw)) hp;have hg:∀i,i<(arrOf st).size->∃x,(arrOf st)[i]?=some x/\kW κ x:=λi hi=>el ha hi;rw[show (_,_)=(some (m,na,pw),some (m+na,nb,TJ)) from Prod.ext p1 p2];dsimp only;refine U4 (Lo ?_);obtain⟨z0,e0,hz0⟩:=hg (m+na) ⋯;obtain⟨zl,el',hzl⟩:=hg (m+na-1) ⋯;refine U4 (bG e0 (U4 (uR hA hk hz0 (by show m+na<=(arrOf st).size;lia) ha ⋯ s1 λj hj R8 Sm=>?_)));dsimp only
 by_cases ej:na-j=0
 .rw[if_pos (by simpa using ej)];refine U_ (h _ hk (.refl _) hf pn (λ_ _=>rfl) ?_);exact s1.join s2 λi i' x y a1 a2 a3 a4 b1 b2=>le_trans (R8 i x a1 ⋯ b1) (s2 (m+na) i' z0 y ⋯ a3 a4 e0 b2)
 rw[if_neg (by simpa using ej)];refine U4 (bG (p:=zl) (by rw[show m+j+(na-j)-1=m+na-1 by lia];exact el') (U4 (ux hA hk hzl (by show m+na+nb<=(arrOf st).size;lia) ha ⋯ s2 λl hl hlo2 Uu=>?_)));dsimp only
 by_cases el0:l=0
 .rw[if_pos (by simpa using el0)];refine U_ (h _ hk (.refl _) hf pn (λ_ _=>rfl) ?_);exact s1.join s2 λi i' x y a1 a2 a3 a4 b1 b2=>le_trans (s1 i (m+na-1) x zl a1 ⋯ ⋯ b1 el') (Uu i' y ⋯ a4 b2)
 rw[if_neg (by simpa using el0)];have M:=λr (hr:Good κ _ _ r)=>merged (r:=r) hz s1 s2 hj hl ⋯ ⋯ (λi y z a1 a2 b1 b2=>by rw[e0] at b2;cases b2;exact R8 i y a1 a2 b1)
  (λi y z a1 a2 b1 b2=>by rw[el'] at b2;cases b2;exact Uu i y a1 a2 b1) hr _ rfl
 have q1:1<=((arrOf st).extract (m+j) (m+na)).size:=by rw[Wr];lia
 have q2:1<=((arrOf st).extract (m+na) (m+na+l)).size:=by rw[Wr];lia
 have q3:∀x y,((arrOf st).extract (m+j) (m+na))[0]?=some x->((arrOf st).extract (m+na) (m+na+l))[0]?=some y->lt κ y x:=by
  intro x y a1 a2;rw[Wj,if_pos ⋯] at a1 a2;rw[aaO] at a1 a2;rw[e0] at a2;cases a2;exact Sm _ x ⋯ ⋯ a1
 have q4:∀(i i':Nat)(x y:Keyed),i+1=((arrOf st).extract (m+j) (m+na)).size->((arrOf st).extract (m+j) (m+na))[i]?=some x->((arrOf st).extract (m+na) (m+na+l))[i']?=some y->lt κ y x:=by
  intro i i' x y a0 a1 a2;have a3:=fY a2;rw[Wr] at a0 a3;rw[Wj,if_pos ⋯] at a1 a2;rw[show m+j+i=m+na-1 by lia,el'] at a1;cases a1;exact hlo2 _ y ⋯ ⋯ a2
 by_cases hle:na-j<=l
 all_goals first
  | (rw[if_pos hle];refine U4 (K6 hA hk (kn ha) (kn ha) (yQ (s1.mono ⋯ ⋯)) (yQ (s2.mono ⋯ ⋯)) q1 q2 q3 q4 λr Qn hK hr=>?_))
  | (rw[if_neg hle];refine U4 (Lp hA hk (kn ha) (kn ha) (yQ (s1.mono ⋯ ⋯)) (yQ (s2.mono ⋯ ⋯)) q1 q2 q3 q4 λr Qn hK hr=>?_))
 all_goals
  obtain⟨r1,r2,r3⟩:=M r hr;refine U4 (Zj (U4 (ZS ?_)));have hf':failedOf Qn=none:=hK.fail.trans hf;have Ui:arrOf Qn=arrOf st:=hK.arr;have Ut:(failedOf Qn).isNone=true:=by rw[hf'];rfl
  refine U_ (Q:=Q) ?_;show Q (failedOf Qn).isNone _;rw[Ut];refine h _ (hK.kind.trans hk) ?_ hf' ((congrArg abV hK.pend).trans pn) ?_ ?_
  .show (r.toList.zipIdx.foldl (λa (x:Keyed×Nat)=>a.setIfInBounds (m+j+x.2) x.1) (arrOf Qn)).Perm _;rwa[Ui]
  .show ∀i,_->(r.toList.zipIdx.foldl (λa (x:Keyed×Nat)=>a.setIfInBounds (m+j+x.2) x.1) (arrOf Qn))[i]?=_;rwa[Ui]
  .show SI κ (r.toList.zipIdx.foldl (λa (x:Keyed×Nat)=>a.setIfInBounds (m+j+x.2) x.1) (arrOf Qn)) _ _;rwa[Ui]
end
end Srt
local macro_rules|`(tactic| walk_at "u7")=>`(tactic| unfold $(Lean.mkIdent (Lean.mkPrivateNameCore `PySem.Builtin.List.W1All `PySem.Builtin.sortRuns)):ident)
namespace Srt
open PySem PyProof.Rows
def Pn(κ:KeyKind)(a:Array Keyed):Nat->List (Nat×Nat×Nat)->Nat->Prop
 | lo,[],hi=>lo=hi
 |lo,e::L,hi=>e.1=lo/\1<=e.2.1/\SI κ a lo (lo+e.2.1)/\Pn κ a (lo+e.2.1) L hi
section
variable{κ:KeyKind}{a a':Array Keyed}
theorem Pn.app:∀{L L':List (Nat×Nat×Nat)}{lo m hi:Nat},Pn κ a lo L m->Pn κ a m L' hi->Pn κ a lo (L++L') hi
 | [],L',lo,m,hi,h,h'=>by cases h;exact h'
 |e::L,L',lo,m,hi,⟨h1,h2,h3,h4⟩,h'=>⟨h1,h2,h3,Pn.app h4 h'⟩
theorem Pn.le:∀{L:List (Nat×Nat×Nat)}{lo hi:Nat},Pn κ a lo L hi->lo+L.length<=hi
 | [],lo,hi,h=>by cases h;exact UZ _
 |e::L,lo,hi,⟨h1,h2,h3,h4⟩=>by have:=Pn.le h4;simp only[Vw];lia
theorem Pn.congr:∀{L:List (Nat×Nat×Nat)}{lo hi:Nat},Pn κ a lo L hi->(∀i,lo<=i->i<hi->a'[i]?=a[i]?)->Pn κ a' lo L hi
 | [],lo,hi,h,_=>h
 | e::L,lo,hi,⟨h1,h2,h3,h4⟩,hc=>⟨h1,h2,λi j x y i1 i2 i3 e1 e2=>by
   have:=Pn.le h4;rw[hc i i1 ⋯] at e1;rw[hc j ⋯ ⋯] at e2;exact h3 i j x y i1 i2 i3 e1 e2,Pn.congr h4 λi i1 i2=>hc i ⋯ i2⟩
theorem Pn.map:∀{L L':List (Nat×Nat×Nat)}{lo hi:Nat},L'.map (λe=>(e.1,e.2.1))=L.map (λe=>(e.1,e.2.1))->Pn κ a lo L hi->Pn κ a lo L' hi
 | [],[],_,_,_,h=>h
 | [],_::_,_,_,hm,_=>by simp at hm
 | _::_,[],_,_,hm,_=>by simp at hm
 | e::L,e'::L',lo,hi,hm,⟨h1,h2,h3,h4⟩=>by
  rw[Vg,Vg] at hm;obtain⟨hx,hm⟩:=List.cons.inj hm;obtain⟨q1,q2⟩:=acI hx;exact⟨q1.trans h1,by rwa[q2],by rwa[q2],by rw[q2];exact Pn.map hm h4⟩
theorem qk{α β:Type}(g:α->β)(f:α->α)(hf:∀x,g (f x)=g x):∀(L:List α)(i:Nat),(L.modify i f).map g=L.map g
 | [],i=>by cases i<;>rfl
 | x::L,0=>by simp[List.modify,List.modifyTailIdx,acY,List.modifyHead,hf]
 |x::L,i+1=>by rw[List.modify_succ_cons,Vg,Vg,qk g f hf L i]
theorem Pn.at:∀{L:List (Nat×Nat×Nat)}{j lo hi:Nat},Pn κ a lo L hi->j+1<L.length->∃L1 L2 m na nb pw TJ,L=L1++(m,na,pw)::(m+na,nb,TJ)::L2/\L1.length=j ∧1<=na/\1<=nb/\SI κ a m (m+na)/\SI κ a (m+na) (m+na+nb)/\Pn κ a lo L1 m/\Pn κ a (m+na+nb) L2 hi
 | [],j,lo,hi,h,hj=>by simp at hj
 | [_],j,lo,hi,h,hj=>by simp at hj
 | (x1,x2,x3)::(y1,y2,y3)::L,0,lo,hi,⟨h1,h2,h3,h4,h5,h6,h7⟩,hj=>by
  cases h1;cases h4;exact⟨[],L,x1,x2,y2,x3,y3,rfl,rfl,h2,h5,h3,h6,rfl,h7⟩
 | (x1,x2,x3)::y::L,j+1,lo,hi,⟨h1,h2,h3,h4⟩,hj=>by
  obtain⟨L1,L2,m,na,nb,pw,TJ,e,hl,b1,b2,b3,b4,b5,b6⟩:=Pn.at (j:=j) h4 (by simpa using hj);exact⟨(x1,x2,x3)::L1,L2,m,na,nb,pw,TJ,by rw[e];rfl,by simp[hl],b1,b2,b3,b4,⟨h1,h2,h3,b5⟩,b6⟩
end
structure Ok (κ:KeyKind) (k:SortKind) (a0:Array Keyed) (st:SortSt):Prop where
 kind:kindOf st=k
 perm:(arrOf st).Perm a0
 fail:failedOf st=none
section
variable{prog:Program}{w:World}{A:Around}{E:Value->Shared->Prop}{s:Shared}{κ:KeyKind}{k:SortKind}{a0:Array Keyed}
theorem Ok.size{st:SortSt}(h:Ok κ k a0 st):(arrOf st).size=a0.size:=h.perm.size_eq
def Ok.has{st:SortSt}(h:Ok κ k a0 st)(ha:∀p∈a0.toList,kW κ p):∀p∈(arrOf st).toList,kW κ p :=
 λp hp=>ha p ((Xv.mp h.perm).mem_iff.mp hp)
def CJ(hA:lD prog w A s κ k)(ha:∀p∈a0.toList,kW κ p){st:SortSt}{j hi:Nat}{Q:Bool->SortSt->Prop}(hO:Ok κ k a0 st)(hP:Pn κ (arrOf st) 0 (pendingOf st).toList hi)(hj:j+1<(pendingOf st).size)(hz:hi<=a0.size)(h:∀Qn,Ok κ k a0 Qn->Pn κ (arrOf Qn) 0 (pendingOf Qn).toList hi->(pendingOf Qn).size+1=(pendingOf st).size->(∀i,hi<=i->(arrOf Qn)[i]?=(arrOf st)[i]?)->Q true Qn):wpS ↑11 A E s (OZ j) Q st:=by
 obtain⟨L1,L2,m,na,nb,pw,TJ,e,rfl,b1,b2,b3,b4,b5,b6⟩:=hP.at (j:=j) hj;have hm:=b6.le;refine Ld hA hO.kind (hO.has ha) hO.fail e b1 b2 (by rw[hO.size];lia) b3 b4 λQn c1 c2 c3 c4 c5 c6=>h Qn ⟨c1,c2.trans hO.perm,c3⟩ ?_ ?_ λi hi=>c5 i ⋯
 .rw[c4];exact(b5.congr λi _ i2=>c5 i (.inl i2)).app ⟨rfl,by show 1<=na+nb;lia,by rwa[Nat.add_assoc] at c6,by
   show Pn κ _ (m+(na+nb)) L2 hi;rw[<- Nat.add_assoc];exact b6.congr λi i1 _=>c5 i (.inr i1)⟩
 .rw[<- Vt,<- Vt,c4,e];simp only[Vb,Vw];lia
theorem ix{c:Prop}[Decidable c]{n:Nat}(h:2<=n):(if c then n-2-1 else n-2)+1<n:=by split<;>lia
def Py:StateT SortSt Sem Unit:=sortPriv% PySem.Builtin.sortRuns
def JK(hA:lD prog w A s κ k)(ha:∀p∈a0.toList,kW κ p){st:SortSt}{Q:Unit->SortSt->Prop}(hO:Ok κ k a0 st)(hp:pendingOf st=#[])(h1:1<=a0.size)(h:∀Qn,Ok κ k a0 Qn->SI κ (arrOf Qn) 0 a0.size->Q () Qn):wpS ↑11 A E s Py Q st:=by
 unfold Py;walk_at "u7";dsimp only;refine U4 (ZS ?_);have hsz:=hO.size;rw[show (PyProof.Rows.arrOf st).size=a0.size from hsz];refine U4 (Xu (W8 (I:=λx c Qn=>∃lo,c=(none,lo)/\Ok κ k a0 Qn/\Pn κ (arrOf Qn) 0 (pendingOf Qn).toList lo/\lo<=a0.size/\(x<=lo\/lo=a0.size))
  (Q:=λc Qn=>c=(none,a0.size)/\Ok κ k a0 Qn/\Pn κ (arrOf Qn) 0 (pendingOf Qn).toList a0.size) ?step ?fin ⟨0,rfl,hO,by rw[hp];rfl,by lia,.inl ⋯⟩) ?post)
 case fin =>
  rintro c Qn ⟨lo,rfl,hO',hP,h2,h3⟩;have:lo=a0.size:=by lia
  subst this;exact⟨rfl,hO',hP⟩
 case step =>
  rintro x c Qn _ hx ⟨lo,rfl,hO',hP,h2,h3⟩;dsimp only
  by_cases hge:lo>=a0.size
  .rw[if_pos hge];have:lo=a0.size:=by lia
   subst this;exact U_ ⟨rfl,hO',hP⟩
  rw[if_neg hge];have hz:=hO'.size;refine U4 (IT hA hO'.kind (hO'.has ha) ⋯ ⋯ λn Qz hC n1 n2 hS=>?_);dsimp only;generalize (sortPriv% PySem.Builtin.minRun) a0.size a0.size 0=M;have O2:Ok κ k a0 Qz:=⟨hC.kind.trans hO'.kind,hC.perm.trans hO'.perm,hC.fail.trans hO'.fail⟩
  have P2:Pn κ (arrOf Qz) 0 (pendingOf Qz).toList lo:=by
   rw[hC.pend];exact hP.congr λi _ i2=>hC.out i (.inl i2)
  by_cases QW:n<M
  all_goals first
   | (rw[if_pos QW];refine U4 (aaw (W0 ⟨rfl,?_⟩));have Sq:=O2.size;refine U4 (Fn hA O2.kind (O2.has ha) ⋯ ⋯ hS λRT Tx hS3=>?_);rw[if_neg ↑13];have O3:Ok κ k a0 RT:=⟨Tx.kind.trans O2.kind,Tx.perm.trans O2.perm,Tx.fail.trans O2.fail⟩;have P3:Pn κ (arrOf RT) 0 (pendingOf RT).toList lo:=(by rw[Tx.pend];exact P2.congr λi _ i2=>Tx.out i (.inl i2));have S3:=hS3.si;have m1:1<=min (a0.size-lo) M:=⋯;have m2:lo+min (a0.size-lo) M<=a0.size:=⋯;generalize min (a0.size-lo) M=n3 at S3 m1 m2 ⊢)
   | (rw[if_neg QW];have O3:=O2;have P3:=P2;have S3:=hS.si;have m1:=n1;have m2:lo+n<=a0.size:=⋯)
  all_goals
   refine U4 (ZS ?_);have F:∀(Ra:SortSt)(v:Nat),Ok κ k a0 Ra->∀L:Array (Nat×Nat×Nat),Pn κ (arrOf Ra) 0 L.toList lo->1<=v->lo+v<=a0.size->SI κ (arrOf Ra) lo (lo+v) ->
     ∃l,((none:Option Unit),lo+v)=(none,l)/\Ok κ k a0 (setPending Ra (L.push (lo,v,0)))/\Pn κ (arrOf Ra) 0 (L.push (lo,v,0)).toList l/\l<=a0.size/\(x+1<=l\/l=a0.size) :=
    λRa v o4 L p4 v1 v2 s4=>⟨lo+v,rfl,⟨o4.kind,o4.perm,o4.fail⟩,by rw[aal];exact p4.app ⟨rfl,v1,s4,rfl⟩,v2,.inl ⋯⟩
   rcases hb:(pendingOf _).back? with _|⟨s1,w1,pw⟩
   .exact U4 (Zj (U_ (F _ _ O3 _ P3 m1 m2 S3)))
   dsimp only;refine U4 (Xu (W8 (I:=λ_ c Ra=>c=(none,())/\Ok κ k a0 Ra/\Pn κ (arrOf Ra) 0 (pendingOf Ra).toList lo/\SI κ (arrOf Ra) lo _)
    (Q:=λc Ra=>c=(none,())/\Ok κ k a0 Ra/\Pn κ (arrOf Ra) 0 (pendingOf Ra).toList lo/\SI κ (arrOf Ra) lo _) ?s1 (λ_ _ h=>h) ⟨rfl,O3,P3,S3⟩) ?p1)
   case s1 =>
    rintro y c Ra _ hy ⟨rfl,o4,p4,s4⟩;refine U4 (ZS ?_)
    by_cases A7:(pendingOf Ra).size>1
    .rw[if_pos A7];obtain⟨⟨u1,u2,u3⟩,hu⟩:∃u,(pendingOf Ra)[(pendingOf Ra).size-2]?=some u:=⟨_,getElem?_pos (pendingOf Ra) ((pendingOf Ra).size-2) ⋯⟩
     rw[hu];dsimp only
     split
     .exact U_ ⟨rfl,o4,p4,s4⟩
     .refine U4 (CJ hA ha o4 p4 (by show (pendingOf Ra).size-2+1<(pendingOf Ra).size;lia) ⋯ λTK o5 p5 _ q5=>?_);exact U_ ⟨rfl,o5,p5,λi j a b i1 i2 i3 e1 e2=>by rw[q5 i i1] at e1;rw[q5 j ⋯] at e2;exact s4 i j a b i1 i2 i3 e1 e2⟩
    .rw[if_neg A7];exact U_ ⟨rfl,o4,p4,s4⟩
   case p1 =>
    rintro c Ra ⟨rfl,o4,p4,s4⟩;dsimp only;refine U4 (Zj (U4 (Zj (U_ ?_))));exact F Ra _ o4 _ (Pn.map (by rw[Array.toList_modify];refine qk _ _ ?_ _ _;exact λ_=>rfl) p4) m1 m2 s4
 case post =>
  rintro c Qn ⟨rfl,hO',hP⟩;dsimp only;have hl:=hP.le;rw[Vt] at hl;refine U4 (Xu (W8 (I:=λx c Qz=>c=(none,())/\Ok κ k a0 Qz/\Pn κ (arrOf Qz) 0 (pendingOf Qz).toList a0.size/\(pendingOf Qz).size<=max 1 (a0.size-x))
   (Q:=λc Qz=>c=(none,())/\Ok κ k a0 Qz/\Pn κ (arrOf Qz) 0 (pendingOf Qz).toList a0.size/\(pendingOf Qz).size<=1) ?s2 ?f2 ⟨rfl,hO',hP,by lia⟩) ?p2)
  case f2 =>
   rintro c Qz ⟨rfl,o2,p2,z2⟩;exact⟨rfl,o2,p2,by lia⟩
  case s2 =>
   rintro x c Qz _ hx ⟨rfl,o2,p2,z2⟩;refine U4 (ZS ?_)
   by_cases hs1:(pendingOf Qz).size<=1
   .rw[if_pos hs1];exact U_ ⟨rfl,o2,p2,hs1⟩
   rw[if_neg hs1];refine U4 (CJ hA ha o2 p2 ?_ (UZ _) λRT o3 p3 z3 _=>?_)
   .exact ix (n:=(pendingOf Qz).size) ⋯
   .exact U_ ⟨rfl,o3,p3,by lia⟩
  case p2 =>
   rintro c Qz ⟨rfl,o2,p2,z2⟩;refine U_ (h Qz o2 ?_);rw[<- Vt] at z2;revert p2 z2;cases (pendingOf Qz).toList with
   | nil=>intro p2 _;have:0=a0.size:=p2;lia
   | cons e L =>
    cases L with
    | nil=>rintro⟨q1,q2,q3,q4⟩ _;have:0+e.2.1=a0.size:=q4;rwa[this] at q3
    |cons e' L=>intro _ z;simp at z
end
end Srt
local macro_rules|`(tactic| walk_at "u8")=>`(tactic| unfold $(Lean.mkIdent (Lean.mkPrivateNameCore `PySem.Builtin.List.W1All `PySem.Builtin.keyLt)):ident)
namespace Srt
open PySem PyProof.Rows
theorem xr:∀a:List Int,HT.lexLt a a=false
 | []=>rfl
 |x::a=>by rw[HT.dW,if_pos rfl];exact xr a
theorem CP:∀a b c:List Int,HT.lexLt a b=true->HT.lexLt b c=true->HT.lexLt a c=true
 | [],[],_,h,_=>by cases h
 | [],_::_,[],_,h=>by cases h
 | [],_::_,_::_,_,_=>rfl
 | _::_,[],_,h,_=>by cases h
 | _::_,_::_,[],_,h=>by cases h
 | x::a,y::b,z::c,h,h'=>by
  rw[HT.dW] at h h' ⊢
  by_cases e:x=y
  .subst e;rw[if_pos rfl] at h
   split
   .rename_i e;rw[if_pos e] at h';exact CP a b c h h'
   .rename_i e;rw[if_neg e] at h';exact h'
  .rw[if_neg e] at h;have h:=of_decide_eq_true h
   by_cases e':y=z
   .subst e';rw[if_neg e];exact decide_eq_true h
   .rw[if_neg e'] at h';have h':=of_decide_eq_true h';rw[if_neg ⋯];exact decide_eq_true ⋯
theorem xv:∀a b c:List Int,HT.lexLt a c=true->HT.lexLt a b=true\/HT.lexLt b c=true
 | [],[],_::_,_=>.inr rfl
 | [],_::_,_,_=>.inl rfl
 | [],[],[],h=>by cases h
 | _::_,_,[],h=>by cases h
 | _::_,[],_::_,_=>.inr rfl
 | x::a,y::b,z::c,h=>by
  rw[HT.dW] at h;rw[HT.dW,HT.dW]
  by_cases e:x=z
  .subst e;rw[if_pos rfl] at h
   by_cases e':x=y
   .subst e';rw[if_pos rfl,if_pos rfl];exact xv a b c h
   .rw[if_neg e',if_neg (λz=>e' z.symm)]
    by_cases q:x<y
    .exact .inl (decide_eq_true q)
    .exact .inr (decide_eq_true ⋯)
  .rw[if_neg e] at h;have h:=of_decide_eq_true h
   by_cases e':x=y
   .subst e';rw[if_neg e];exact .inr (decide_eq_true h)
   .by_cases q:x<y
    .rw[if_neg e'];exact .inl (decide_eq_true q)
    .rw[if_neg (show ¬ y=z by lia)];exact .inr (decide_eq_true ⋯)
theorem xq:∀a b:List Int,HT.lexLt a b=false->HT.lexLt b a=false->a=b
 | [],[],_,_=>rfl
 | [],_::_,h,_=>by cases h
 | _::_,[],_,h=>by cases h
 | x::a,y::b,h,h'=>by
  rw[HT.dW] at h h'
  by_cases e:x=y
  .subst e;rw[if_pos rfl] at h h';rw[xq a b h h']
  .rw[if_neg e] at h;rw[if_neg (λz=>e z.symm)] at h';have h:=of_decide_eq_false h;have h':=of_decide_eq_false h';lia
def TI(h:Heap)(v:Value)(ns:List Int):Prop:=∃a Qi,v=.ref a/\h.IsTuple a Qi/\IntsAre Qi.toList ns/\ns≠[]
theorem wk:∀{vs:List Value}{ns ms:List Int},IntsAre vs ns->IntsAre vs ms->ns=ms
 | _,_,_,.nil,h=>by cases h;rfl
 |_,_,_,.cons n t h,h'=>by cases h' with|cons _ _ h'=>rw[wk h h']
variable{ns:List Int}{v:Value}{h:Heap}
def TI.one{ms:List Int}(a:TI h v ns)(b:TI h v ms):ns=ms:=by
 obtain⟨a,i,rfl,⟨o,h1,_,n,h2⟩,h3,_⟩:=a;obtain⟨b,j,e,⟨p,g1,_,m,g2⟩,g3,_⟩:=b;cases e;rw[h1] at g1;cases g1;rw[h2] at g2;cases g2;exact wk h3 g3
open Classical in
def kt(h:Heap):KeyKind where
 α:=List Int
 blt:=HT.lexLt
 irrefl:=xr
 trans:=CP
 negTrans:=xv
 total:=xq
 keyOf v:=if hx:∃ns,TI h v ns then some (choose hx) else none
 dflt:=[]
open Classical in
def BQ(t:TI h v ns):(kt h).keyOf v=some ns:=by
 show (if hx:∃ns,TI h v ns then some (acB hx) else none)=some ns;rw[dif_pos ⟨ns,t⟩];exact congrArg some ((abe (⟨ns,t⟩:∃ns,TI h v ns)).one t)
open Classical in
def HG(t:(kt h).keyOf v=some ns):TI h v ns:=by
 have t:(if hx:∃ns,TI h v ns then some (acB hx) else none)=some ns:=t
 split at t
 .rename_i hx;cases t;exact abe hx
 .cases t
variable{Q:Bool->Shared->Prop}{b:Bool}
section
variable{prog:Program}{w:World}{A:Around}{E:Value->Shared->Prop}{s:Shared}
def Fq{a c:Int}{t u:Tok}(h:Q (decide (a<c)) s):wpAny ↑11 A (oneLt' b (.int a t) (.int c u)) Q E s:=by
 cases b
 .rw[oneLt'_eq];simp only[V5,if_false];refine TR (HT.Eb A s a t c u prog w _ _ ?_);exact Xc h
 .exact oneLt_int h
theorem Lk{x y:Value}{ms:List Int}(hx:TI s.heap x ns)(hy:TI s.heap y ms)(h:Q (HT.lexLt ns ms) s):wpAny ↑11 A (keyLt' (tuples' b) x y) Q E s:=by
 unfold keyLt';walk_at "u8";dsimp only;obtain⟨a,i,rfl,⟨o,h1,_,n,h2⟩,h3,_⟩:=hx;obtain⟨c,j,rfl,⟨p,g1,_,m,g2⟩,g3,_⟩:=hy;refine TR (aaP h1 h2 (TR (aaP g1 g2 ?_)));have z1:i.size=ns.length:=by rw[<- h3.length];simp
 have z2:j.size=ms.length:=by rw[<- g3.length];simp
 refine TR (Wu (wpAny_forIn_list _ (λrest z s'=>z=(none,())/\s'=s/\∃(vs ws:List Value)(UQ UN:List Int)(k:Nat),rest=(vs.zip ws).zipIdx k/\IntsAre vs UQ/\IntsAre ws UN ∧
   UQ.length+ms.length=UN.length+ns.length/\HT.lexLt UQ UN=HT.lexLt ns ms) (λz s'=>s'=s/\(z.1=some (HT.lexLt ns ms)\/z.1=none/\decide (i.size<j.size)=HT.lexLt ns ms)) ?_ ?_ _ _
   ⟨rfl,rfl,i.toList,j.toList,ns,ms,0,rfl,h3,g3,aaK _ _,rfl⟩) (λz s' q=>?_) λ_ _ q=>q)
 .rintro⟨⟨p,q⟩,k'⟩ rest z s' ⟨rfl,rfl,vs,ws,UQ,UN,k,e,i1,i2,hl,hx⟩;cases i1 with
  | nil=>rw[List.zip_nil_left] at e;cases e
  | cons a t i1 =>
   cases i2 with
   | nil=>rw[List.zip_nil_right] at e;cases e
   | cons c u i2 =>
    rw[Xw,Xn] at e;injection e with e er
    injection e with e ek
    injection e with e1 e2
    subst e1 e2;rw[HT.dW] at hx;simp only[Vw] at hl;obtain⟨v,hv,Uv⟩:=HT.CL A s' a t c u;refine TR (hv prog w _ _ ?_);cases v with
    | true =>
     rw[if_pos (Uv.mp rfl)] at hx;exact UX ⟨rfl,rfl,_,_,_,_,_,er,i1,i2,by lia,hx⟩
    | false =>
     rw[if_neg (λq=>VD (Uv.mpr q))] at hx;exact TR (Fq (UX ⟨rfl,.inl (congrArg some hx)⟩))
 .rintro z s' ⟨rfl,rfl,vs,ws,UQ,UN,k,e,i1,i2,hl,hx⟩;refine⟨rfl,.inr ⟨rfl,?_⟩⟩;rw[z1,z2,<- hx];cases i1 with
  | nil =>
   cases i2 with
   | nil=>exact decide_eq_false (by simp only[YD] at hl;lia)
   | cons _ _ i2=>exact decide_eq_true (by simp only[YD,Vw] at hl;lia)
  | cons _ _ i1 =>
   cases i2 with
   | nil=>exact decide_eq_false (by simp only[YD,Vw] at hl;lia)
   | cons _ _ i2=>rw[Xw,Xn] at e;cases e
 .obtain⟨rfl,q|⟨q,q'⟩⟩:=q
  .rw[q];exact UX h
  .rw[q];dsimp only;rw[q'];exact UX h
def JC:lD prog w A s (kt s.heap) (tuples' b):=⟨λ_ _ _ _ _ _ hx hy h=>Lk (HG hx) (HG hy) h⟩
theorem wp_map{α β:Type}{f:α->Sem β}{R:α->β->Prop}:∀(l:List α){Q:List β->Shared->Prop},(∀v∈l,∀(Q':β->Shared->Prop),(∀r,R v r->Q' r s)->wpAny ↑11 A (f v) Q' E s) ->(∀rs,(∀r∈rs,∃v∈l,R v r)->rs.length=l.length->Q rs s)->wpAny ↑11 A (l.mapM f) Q E s
 | [],_,_,h=>by rw[List.mapM_nil];exact UX (h [] (λ_ q=>nomatch q) rfl)
 | x::l,Q,hf,h=>by
  rw[List.mapM_cons];refine TR (hf x (.head _) _ λr hr=>TR (wp_map l (R:=R) (λv hv=>hf v (.tail _ hv)) λrs hrs hl=>UX (h _ (λr' q=>?_) (by simp[hl]))));rcases U9.mp q with rfl|q
  .exact⟨x,.head _,hr⟩
  .obtain⟨v,hv,q⟩:=hrs r' q;exact⟨v,.tail _ hv,q⟩
def JF{vs:List Value}{Q:SortKind->Shared->Prop}(hv:∀v∈vs,∃ns,TI s.heap v ns)(h:∀b,Q (tuples' b) s):wpAny ↑11 A (keyKind' vs.toArray) Q E s:=by
 rw[keyKind'_eq,ab_,map_eq_pure_bind];refine TR (TR (wp_map (R:=λ_ r=>∃n t,r=some (Zb n t)) _ (λv Tp Q' q=>?_) λrs hrs _=>UX ?_))
 .obtain⟨ns,a,i,rfl,⟨o,h1,hc,n,h2⟩,h3,h4⟩:=hv v Tp;rw[PySem.W.kas_first_eq];refine TR (YW (T := "tuple") ⟨o,h1,hc⟩ ?_);rw[if_neg (by rw[bne_self_eq_false'];exact VD)];refine TR (aaP h1 h2 (UX (q _ ?_)));generalize hi:i.toList=l at h3;cases h3 with
  | nil=>exact absurd rfl h4
  | cons n t _=>exact⟨n,t,by rw[<- VO,hi];rfl⟩
 .rw[if_pos (by
   simp only[List.all_toArray,Wd];intro r hr;obtain⟨_,_,n,t,rfl⟩:=hrs r hr;rfl)]
  refine TR (W0 ?_);rw[oneTypeOnly'_eq,List.filterMap_toArray,ab_,map_eq_pure_bind];refine TR (TR (TR (wp_map (R:=λ_ _=>True) _ (λv Tp Q' q=>?_) λrs' _ _=>UX ?_)))
  .obtain⟨x,hx,e⟩:=Z0.mp Tp;obtain⟨_,_,n,t,rfl⟩:=hrs x hx;cases e;exact UX (q _ trivial)
  .split
   .exact UX (UX (h _))
   .exact UX (UX (h _))
end
end Srt
namespace Srt
open PySem PyProof.Rows
def pG(vs:List Value):(pairsOf vs).toList=vs.map λv=>(v,v):=by
 unfold pairsOf;simp only[List.zip_toArray,List.toList_toArray]
 induction vs with
 | nil=>rfl
 |cons v vs ih=>rw[Xw,ih];rfl
def Up(h:Heap)(l:List Value):Prop:=l.Pairwise λv w=>∀ns ms,TI h v ns->TI h w ms->HT.lexLt ms ns=false
variable{vs:List Value}
def K7{h:Heap}{xs:Array Keyed}(hp:xs.Perm (pairsOf vs))(hs:SI (kt h) xs 0 xs.size):(xs.map (·.2)).toList.Perm vs/\Up h (xs.map (·.2)).toList:=by
 have hp:=Xv.mp hp;rw[pG] at hp;have hm:∀p∈xs.toList,p.1=p.2:=λp Tg=>by
  obtain⟨v,_,rfl⟩:=VI.mp (hp.mem_iff.mp Tg);rfl
 rw[Array.toList_map];constructor
 .have:=hp.map (·.2);rw[VB] at this;refine this.trans ?_;rw[show ((λx:Value×Value=>x.2)∘λv=>(v,v))=id from rfl,aam]
 .unfold Up;rw[XG];have hw:=hs.pw (i:=0) (j:=xs.size) (Va _) (UZ _);rw[Array.extract_size] at hw;refine Wz (λ{p q} h1 h2 hpq ns ms t1 t2=>?_) hw;rw[<- hm p h1] at t1;rw[<- hm q h2] at t2;have:HT.lexLt (ky (kt h) q) (ky (kt h) p)=false:=hpq;rwa[show ky (kt h) q=ms from by unfold ky;rw[BQ t2];rfl,show ky (kt h) p=ns from by unfold ky;rw[BQ t1];rfl] at this
def TI.keep{h h':Heap}{v:Value}{ns:List Int}(k:∀b o,h.get? b=some o->o.cls=.type "tuple" -> h'.get? b=some o)(t:TI h v ns):TI h' v ns:=by
 obtain⟨a,i,e,⟨o,h1,hc,n,h2⟩,r⟩:=t;exact⟨a,i,e,⟨o,k a o h1 hc,hc,n,h2⟩,r⟩
section
variable{prog:Program}{w:World}{A:Around}{E:Value->Shared->Prop}{s:Shared}
theorem FQ{a:Addr}{n:Nat}{P:PySem.Fin->Shared->Prop}(ho:s.heap.get? a=some (seqObj "list" vs.toArray n))(hv:∀v∈vs,∃ns,TI s.heap v ns)(hz:vs.length<=sizeLine)(h:∀out:Array Value,out.toList.Perm vs->Up s.heap out.toList->P (.done (.ret .none)) { s with heap:=sortedHeap s.heap a vs out }):wpAny ↑11 A (Builtin.«list.sort» ⟨[.ref a],[]⟩) P E s:=by
 rw[list_sort_plain];have la:a<s.heap.objs.size:=U3 ho;have hsz:vs.toArray.size=vs.length:=U6;refine TR (aaP ho rfl (TR (abC ho rfl ?_ (by rwa[hsz]))));obtain⟨e1,o1⟩:∃e,(s.heap.update a (Wo λ_=>#[])).get? a=some (seqObj "list" #[] e):=⟨_,get?_update_seq ho _⟩
 refine TR (seqEpoch_at o1 rfl (TR (abl (TR (wpAny_newList (Wx ?_))))));show wpAny ↑11 A _ P E { s with heap:=((s.heap.update a (Wo λ_=>#[])).push (seqObj "tuple" vs.toArray 0)).push (seqObj "list" #[] 0) };generalize hh6:((s.heap.update a (Wo λ_=>#[])).push (seqObj "tuple" vs.toArray 0)).push (seqObj "list" #[] 0)=h6;have o6:h6.get? a=some (seqObj "list" #[] e1):=by rw[<- hh6];exact UT _ (UT _ o1)
 have k6:∀b o,s.heap.get? b=some o->o.cls=.type "tuple" -> h6.get? b=some o:=λb o e c=>by
  rw[<- hh6];refine UT _ (UT _ ((Vy _ _ (λz=>?_)).trans e));subst z;rw[ho] at e;cases e;exact absurd c ↑13
 have hv6:∀v∈vs,∃ns,TI h6 v ns:=λv q=>(hv v q).imp λns t=>t.keep k6;have end_:∀st:SortSt,(arrOf st).Perm (pairsOf vs)->SI (kt h6) (arrOf st) 0 (arrOf st).size->P (.done (.ret .none)) { s with heap:=sortedHeap s.heap a vs ((arrOf st).map (·.2)) }:=λst p q=>by
  obtain⟨r1,r2⟩:=K7 p q;refine h _ r1 (Y0 (λ{v w} q ns ms t1 t2=>q ns ms (t1.keep k6) (t2.keep k6)) r2)
 dsimp only
 by_cases h2:vs.toArray.size<2
 .rw[if_pos h2,if_pos h2];refine TR (UX ?_);rw[StateT.run_pure];refine TR (UX ?_);dsimp only;refine TR (seqEpoch_at o6 rfl (TR (abC o6 rfl ?_ (Va _) (by
   rw[acV];show (pairsOf vs).size<=_;rw[aaQ];exact acd hz))))
  simp only[bne_self_eq_false,V5,if_false];refine UX ?_;rw[<- hh6] at end_ ⊢;exact end_ (SortSt.mk' general' (vs.toArray.zip vs.toArray) #[] 7 none) (acS _) (λi j x y i1 i2 i3 ex ey=>by
   have:i=j:=by
    have:(pairsOf vs).size=vs.length:=aaQ vs;have i3:j<(pairsOf vs).size:=i3;lia
   subst this;rw[ex] at ey;cases ey;exact le_refl _)
 .rw[if_neg h2,if_neg h2];refine TR (JF hv6 λb=>?_);refine TR (Wu (JK (s:={ s with heap:=h6 }) (κ:=kt h6) (k:=tuples' b) (a0:=pairsOf vs) (st:=SortSt.mk' (tuples' b) (vs.toArray.zip vs.toArray) #[] 7 none)
   (Q:=λ_ st=>failedOf st=none/\(arrOf st).Perm (pairsOf vs)/\SI (kt h6) (arrOf st) 0 (pairsOf vs).size) JC (λp hp=>?_) ⟨rfl,acS _,rfl⟩ rfl (by rw[aaQ];lia)
   λst o q=>⟨o.fail,o.perm,q⟩) (λr s' q=>?_) λ_ _ e=>e)
  .rw[pG] at hp;obtain⟨v,q,rfl⟩:=VI.mp hp;obtain⟨ns,t⟩:=hv6 v q;exact⟨ns,BQ t⟩
  .obtain⟨⟨⟩,st⟩:=r;obtain⟨rfl,f,p,q⟩:=q;dsimp only;refine TR (seqEpoch_at o6 rfl (TR (abC o6 rfl ?_ (Va _) (by
    refine VM (aaD ((acV ..).trans (p.size_eq.trans (aaQ _)))) ?_;exact acd hz))))
   rw[show failedOf st=none from f];simp only[bne_self_eq_false,V5,if_false];refine UX ?_;rw[<- p.size_eq] at q;rw[<- hh6] at end_ q ⊢;exact end_ st p q
def Ck{l:Addr}{Q:Value->Shared->Prop}(hl:s.heap.IsList l vs.toArray)(hv:∀v∈vs,∃ns,TI s.heap v ns)(hz:vs.length<=sizeLine)(h:∀out:Array Value,out.toList.Perm vs->Up s.heap out.toList->Q (.ref (s.heap.objs.size+1)) { s with heap:=sortedAll s.heap vs out }):wpAny ↑11 A (call (.builtin "sorted") [.ref l]) Q E s:=by
 refine Calls.call_function_entry kind_sorted plain_sorted entry_sorted (args_sorted1 _) ?_;unfold Builtin.«sorted»;refine TR (m:=checkCount "sorted" 1 1 _) (UX (TR (collect_list hl (TR (wpAny_newList ?_)) hz)));have z:((s.heap.push (seqObj "list" #[] 0)).update s.heap.objs.size (Wo (·++vs.toArray))).objs.size=s.heap.objs.size+1:=(Heap.size_update ..).trans (size_push' ..);generalize hg:((s.heap.push (seqObj "list" #[] 0)).update s.heap.objs.size (Wo (·++vs.toArray))).push (seqObj "list" vs.toArray 0)=g;have og:g.get? (s.heap.objs.size+1)=some (seqObj "list" vs.toArray 0):=by rw[<- hg,<- z];exact U1 _ rfl
 have kg:∀b o,s.heap.get? b=some o->g.get? b=some o:=λb o e=>by
  rw[<- hg];exact UT _ ((Vy _ _ (WB (U3 e))).trans (UT _ e))
 show wpAny _ _ _ _ _ { s with heap:=g };rw[z];refine TR (Wx (V8 slot_list_sort ⟨_,og,rfl⟩ entry_list_sort (FQ (s:={ s with heap:=g }) og (λv q=>(hv v q).imp λns t=>t.keep λb o e _=>kg b o e) hz λout p q=>⟨_,rfl,?_⟩) (args_list_sort _)));refine UX ⟨_,rfl,?_⟩;have:=h out p (Y0 (λ{v w} q ns ms t1 t2=>q ns ms (t1.keep λb o e _=>kg b o e) (t2.keep λb o e _=>kg b o e)) q);unfold sortedAll at this;rwa[hg] at this
end
end Srt
namespace L2
open PySem PySem.Spec PyProof.Rows
variable{x:Str}{i:Nat}{f:af->M PV}{e:Expr}{X:Cx}
variable{px:Pos}
section
variable{E:XK}{pos:Pos}
def A9(i:Nat)(f:af->M PV):af->M Out:=λenv=>match env[i]? with
 | some (some (.ow xs))=>(f env).bind λp=>match p with
  | .lst ys=>if xs.length+ys.length<=sizeLine then M.ok (.nx (env.set i (some (.ow (xs++ys))))) else none
  | _=>none
 |_=>none
def zK{apos Qu:Pos}(hi:X.N[i]?=some x)(hv:xh X.env.scope x)(he:PE X e (tE (λ_=>E) f))(hd:autoParam ↑7 aD._auto_1)(QP:autoParam ↑6 aD._auto_1)(Rb:autoParam (attributeBase (.Name x px) "extend" X.env (eval (.Name x px) X.env)=eval (.Name x px) X.env) aR._auto_1)(SW:autoParam (((backTo Qu (starEach [e] X.env)).all (λx=>!x.1)&&(backToKw Qu (keywordEach [] X.env)).all (λx=>x.1.isSome) && decide (([e]:List Expr).length+([]:List Keyword).length+(if ([]:List Keyword).isEmpty then 0 else 1)<30))=true) aR._auto_1)(Rf:autoParam ((apos.endLine==Qu.line)=true) aR._auto_1)(QO:autoParam (starEach [e] X.env=(false,eval e X.env)::starEach [] X.env) aR._auto_1)(RI:autoParam ((backTo Qu (starEach [] X.env)).any (·.1)=false) aR._auto_1)(hs:autoParam (swapsWith (.Call (.Attribute (.Name x px) "extend" apos) [e] [] Qu) none pos.line X.env=pure false) aR._auto_1):PS X (.Expr (.Call (.Attribute (.Name x px) "extend" apos) [e] [] Qu) pos) (tS E (A9 i f)):=by
 refine(lO (HE YM PySem.F.slot_list_extend PySem.F.type_list_extend zL (gN hi hv hd QP) (fq he lE QO) Rb SW Rf QO RI) hs).imp λD σ H q=>?_;obtain⟨B,H₀,Hs,env,sr,q⟩:=q;unfold A9 at q
 split at q
 .rename_i xs ex;obtain⟨a,vs,h1,h2,h3,h4,h5⟩:=sr.ow i xs ex;refine⟨.ref a,h1,.inl ⟨rfl,vs,g9.of h2⟩,B,H₀,Hs,env,sr,(ao.bind q).imp (λp hp v Ql H' g r=>?_) λe he=>he.grow sr.gr⟩
  split at hp
  .rename_i ys
   by_cases hz:xs.length+ys.length<=sizeLine
   .rw[if_pos hz] at hp;have Ru:=sr.grow g;cases r with
    | lst hb r =>
     have r5:=(h5.mono g.st).append r;exact⟨a,_,vs,_,rfl,rfl,g.al _ _ h2,g.sub _ _ hb,by rwa[<- h5.length,<- r.length],hp σ Ql _ (Ru.put ex h1 r5)⟩
   .rw[if_neg hz] at hp;exact hp.elim
  .exact hp.elim
 .exact q.elim
end
def Ce(K:UU):List V->Hp->VK->Prop:=λxs H Q=>∃(l:Addr)(as:List Addr),xs=[.ref l]/\g9 K H l (as.map V.ref)/\(∀a∈as,∃ns:List Int,H a=some (.tup (ns.map V.int))/\ns≠[]) ∧
 ∀(p:Addr)(bs:List Addr),H p=none->bs.Perm as->(bs.Pairwise λa b=>∀ns ms:List Int,H a=some (.tup (ns.map V.int))->H b=some (.tup (ms.map V.int))->HT.lexLt ms ns=false)->Q (.ref p) (upd H p (.lst (bs.map V.ref)))
def adr:Value->Addr
 | .ref a=>a
 |_=>default
theorem tj:∀{as:List Addr}{us:List Value},Vals (as.map V.ref) us->us=as.map U5
 | [],_,.nil=>rfl
 |_::_,_,.cons h t=>by cases h;rw[tj t];rfl
theorem tN:∀(as:List Addr),Vals (as.map V.ref) (as.map U5)
 | []=>.nil
 |_::as=>.cons rfl (tN as)
def sR:du X (.builtin "sorted") (Ce X.K):=by
 intro Qg s σ H xs us Q I r h;obtain⟨l,as,rfl,hq,hn,q⟩:=h;obtain⟨u,rfl,rx⟩:=vals1 r;cases rx;obtain⟨Qo,r',pl,hz⟩:=I.list hq;have hus:=tj r';subst hus;have tu:∀(a:Addr)(ns:List Int),H a=some (.tup (ns.map V.int))->ns≠[]->Srt.TI s.heap (.ref a) ns:=λa ns e ne=>by
  obtain⟨Qo,r1,p1,_⟩:=I.tuple (gR.of e);exact⟨a,_,rfl,p1,intsAre_of r1,ne⟩
 refine Srt.Ck pl.isList (λv hv=>?_) (by rw[U0] at hz ⊢;exact hz) λout p up=>?_
 .obtain⟨a,ha,rfl⟩:=VI.mp hv;obtain⟨ns,e,ne⟩:=hn a ha;exact⟨ns,tu a ns e ne⟩
 .have pa:(out.toList.map adr).Perm as:=by
   have:=p.map adr
   rwa [VB,show adr∘U5=id from rfl,aam] at this
  have eo:out.toList=(out.toList.map adr).map U5:=by
   rw[VB];refine(aam _).symm.trans (aby λv hv=>?_);obtain⟨a,_,rfl⟩:=VI.mp (p.mem_iff.mp hv);rfl
  obtain⟨c,e⟩:=sortedAll_at s.heap (as.map U5) out;have hl:(out.toList.map adr).length=as.length:=pa.length_eq;refine⟨.ref (s.heap.objs.size+1),_,I.laid (t':=s.toks) (λb o e=>sortedAll_old e) (Yg _) (show bw X.prog X.w _ _ _ (.lst ((out.toList.map adr).map V.ref)) from
   ⟨by rw[U0,hl];rwa[U0] at hz,(out.toList.map adr).map U5,c,tN _,by rwa[<- eo]⟩),rfl,q _ _ (I.bq.fresh (Yg _)) pa ?_⟩
  rw[eo] at up;have up:=XG.mp up;refine Wz (λ{a b} ha hb up ns ms e1 e2=>?_) up;have ne:∀a∈out.toList.map adr,∀ns:List Int,H a=some (.tup (ns.map V.int))->ns≠[]:=λa ha ns e=>by
   obtain⟨ms,e',ne⟩:=hn a (pa.mem_iff.mp ha);rw[e] at e';rintro rfl;cases ms with
   | nil=>exact ne rfl
   | cons _ _=>cases e'
  exact up ns ms (tu _ _ e1 (ne a ha ns e1)) (tu _ _ e2 (ne b hb ms e2))
noncomputable def qq:List PV->Option (List (List Int))
 | []=>some []
 | p::ps=>match Bq p,qq ps with
  | some (n::ns),some ks=>some ((n::ns)::ks)
  |_,_=>none
noncomputable def eV(ks:List (List Int)):List (List Int):=ks.mergeSort λa b=>!HT.lexLt b a
def HW(E:St->XK)(r:List V->Hp->VK->Prop)(o:List PV->M (List PV)):Prop:=∀(σ:St)(Hs H:Hp)(ps:List PV)(vs:List V)(Q:VK),bf Hs H->aL Hs ps vs->ao (o ps) (KO Q Hs H) (XW (E σ) Hs H)->r vs H Q
noncomputable def vL:List PV->M (List PV)
 | [.lst xs]=>match qq xs with
  | some ks=>M.ok ((eV ks).map λns=>.tup (ns.map PV.int))
  | _=>none
 |_=>none
noncomputable def vX:List PV->M PV
 | [.lst xs]=>match qq xs with
  | some ks=>M.ok (.lst ((eV ks).map λns=>.tup (ns.map PV.int)))
  | _=>none
 |_=>none
def Cp(a b c:List Int):(!HT.lexLt b a)=true->(!HT.lexLt c b)=true->(!HT.lexLt c a)=true:=by
 intro h1 h2;cases h:HT.lexLt c a
 .rfl
 .rcases Srt.xv c b a h with q|q
  .rw[q] at h2;exact h2
  .rw[q] at h1;exact h1
def BL(a b:List Int):((!HT.lexLt b a)||(!HT.lexLt a b))=true:=by
 cases h:HT.lexLt b a
 .rfl
 .cases h':HT.lexLt a b
  .rfl
  .have:=Srt.CP _ _ _ h h';rw[Srt.xr] at this;cases this
def fP(ks:List (List Int)):(eV ks).Perm ks:=List.mergeSort_perm _ _
def kE(ks:List (List Int)):(eV ks).Pairwise λa b=>HT.lexLt b a=false :=
 Y0 (λ{a b} h=>by simpa using h) (List.pairwise_mergeSort Cp BL ks)
theorem uU:∀{l l':List (List Int)},l.Perm l'->(l.Pairwise λa b=>HT.lexLt b a=false)->(l'.Pairwise λa b=>HT.lexLt b a=false)->l=l'
 | [],_,p,_,_=>p.nil_eq
 | x::l,[],p,_,_=>absurd p.length_eq ↑13
 | x::l,y::l',p,h,h'=>by
  rw[List.pairwise_cons] at h h';have e:x=y:=by
   rcases U9.mp (p.mem_iff.mp (.head _)) with e|e
   .exact e
   .rcases U9.mp (p.symm.mem_iff.mp (.head _)) with e'|e'
    .exact e'.symm
    .exact Srt.xq _ _ (h'.1 x e) (h.1 y e')
  subst e;rw[uU p.cons_inv h.2 h'.2]
theorem sY{Hs:Hp}:∀{xs:List PV}{vs:List V}{ks:List (List Int)},aL Hs xs vs->qq xs=some ks->∃as:List Addr,vs=as.map V.ref/\as.length=ks.length/\(∀a k,(a,k)∈as.zip ks->Hs a=some (.tup (k.map V.int))/\k≠[])
 | _,_,_,.nil,e=>by cases e;exact⟨[],rfl,rfl,λ_ _ h=>nomatch h⟩
 | _,_,_,.cons (p:=p) (ps:=ps) h t,e=>by
  unfold qq at e
  split at e
  .rename_i n ns ks h1 h2;cases e;obtain⟨a,rfl,ea⟩:=Ak h h1;obtain⟨as,rfl,hl,hk⟩:=sY t h2;refine⟨a::as,rfl,by simp[hl],λb k q=>?_⟩;rw[Xw] at q;rcases U9.mp q with e|q
   .cases e;exact⟨ea,List.cons_ne_nil _ _⟩
   .exact hk b k q
  .cases e
theorem sX{Hs:Hp}:∀{as:List Addr}{ks:List (List Int)},as.length=ks.length->(∀a k,(a,k)∈as.zip ks->Hs a=some (.tup (k.map V.int)))->aL Hs (ks.map λns=>.tup (ns.map PV.int)) (as.map V.ref)
 | [],[],_,_=>.nil
 |a::as,k::ks,hl,h=>.cons (.tup (h a k (.head _)) (repL_ints _ k)) (sX (by simpa using hl) λb m q=>h b m (.tail _ q))
where repL_ints (Hs:Hp):∀ns:List Int,aL Hs (ns.map PV.int) (ns.map V.int)
 | []=>.nil
 |n::ns=>.cons (.int n) (repL_ints Hs ns)
noncomputable def B8:List V->List Int
 | .int i::t=>i::B8 t
 |_=>[]
theorem sv:∀ns:List Int,B8 (ns.map V.int)=ns
 | []=>rfl
 |n::ns=>congrArg (n::·) (sv ns)
noncomputable def Bc(H:Hp)(a:Addr):List Int:=match H a with
 | some (.tup vs)=>B8 vs
 |_=>[]
variable{H:Hp}
def yW{a:Addr}{ns:List Int}(h:H a=some (.tup (ns.map V.int))):Bc H a=ns:=by
 unfold Bc;rw[h];exact sv ns
theorem keys_map{H:Hp}:∀{as:List Addr}{ks:List (List Int)},as.length=ks.length->(∀a k,(a,k)∈as.zip ks->H a=some (.tup (k.map V.int))/\k≠[])->as.map (Bc H)=ks
 | [],[],_,_=>rfl
 |a::as,k::ks,hl,h=>by rw[Vg,yW (h a k (.head _)).1,keys_map (by simpa using hl) λb m q=>h b m (.tail _ q)]
variable{E:St->XK}
theorem yJ{K:UU}:HW E (Ce K) vL:=by
 intro σ Hs H ps vs Q s r h;unfold vL at h
 split at h
 .rename_i xs;obtain⟨v,rfl,rp⟩:=r.one
  split at h
  .rename_i ks hk;cases rp with
   | lst hl rl =>
    obtain⟨as,rfl,hlen,hz⟩:=sY rl hk;refine⟨_,as,rfl,g9.of (s _ _ hl),λa ha=>?_,λp bs np pb up=>?_⟩
    .obtain⟨i,hi,rfl⟩:=Vn.mp ha;have:=hz as[i] (ks[i]'(by lia)) (Vn.mpr ⟨i,by simp;lia,by simp⟩);exact⟨_,s _ _ this.1,this.2⟩
    .have ka:∀a∈as,∃ns:List Int,Hs a=some (.tup (ns.map V.int)):=λa ha=>by
      obtain⟨i,hi,rfl⟩:=Vn.mp ha;exact⟨_,(hz as[i] (ks[i]'(by lia)) (Vn.mpr ⟨i,by simp;lia,by simp⟩)).1⟩
     have kb:∀b∈bs,Hs b=some (.tup ((Bc Hs b).map V.int)):=λb hb=>by
      obtain⟨ns,e⟩:=ka b (pb.mem_iff.mp hb);rwa[yW e]
     have e:bs.map (Bc Hs)=eV ks:=by
      refine uU ((pb.map _).trans ?_) ?_ (kE ks)
      .rw[keys_map hlen hz];exact(fP ks).symm
      .rw[XG];exact Wz (λ{a b} ha hb q=>q _ _ (s _ _ (kb a ha)) (s _ _ (kb b hb))) up
     refine h _ p _ _ (.refl s) ?_ np;rw[<- e];refine sX ↑13 λa k q=>?_;obtain⟨i,hi,q⟩:=Vn.mp q;rw[aaz,Xo] at q;cases q;exact kb _ (VP _)
  .exact h.elim
 .exact h.elim
def GV{K:UU}:nU E (Ce K) vX:=by
 intro σ Hs H ps vs Q s r h;refine yJ (E:=E) σ Hs H ps vs Q s r ?_;unfold vX at h;unfold vL
 split at h
 .split at h
  .intro vs' p Ql H' g r' n;have gn:=bg.new (o:=.lst vs') g.sub n;exact h _ _ _ (g.trans gn) (.lst av (r'.mono gn.st))
  .exact h.elim
 .exact h.elim
def tM:bootBuiltins "sorted"=some (.builtin "sorted"):=by decide +kernel
variable{d:Addr}{s:Shared}{w:World}{prog:Program}
variable{Q:Option Value->Shared->Prop}
section
variable{A:Around}{E:Value->Shared->Prop}{it:Addr}{es:Array DictEntry}{ep:Nat}
def m9(h:Heap)(d:Addr)(es:Array DictEntry)(ep:Nat):Prop:=∃o,h.get? d=some o/\o.ExactDict/\o.data=.dict es ep
def m9.ty(x:m9 s.heap d es ep):s.TypeIs (.ref d) "dict" := by
 obtain⟨o,a,b,_⟩:=x;exact⟨o,a,b.1⟩
def m9.keep{h h':Heap}(x:m9 h d es ep)(k:∀o,h.get? d=some o->h'.get? d=some o):m9 h' d es ep:=by
 obtain⟨o,a,b⟩:=x;exact⟨o,k o a,b⟩
def yh{Q:Value->Shared->Prop}(nd:(d==sysModules)=false)(x:m9 s.heap d es ep)(q:Q (.ref s.heap.objs.size) { s with heap:=s.heap.push { cls:=.type "dict_keyiterator",data:=.fields #[.ref d,.int 0 0,.int es.size 0,.int ep 0] } }):wpAny ↑11 A (pyIter (.ref d)) Q E s:=by
 have ty:=x.ty;obtain⟨o,x1,x2,x3⟩:=x;refine wpAny_pyIter_slot ty F.slot_dict_iter (V8 F.slot_dict_iter ty F.entry_dict_iter ?_ (F.args_dict_iter_1 _));unfold Builtin.«dict.__iter__»;refine TR ?_;unfold Builtin.Dict.dictSlotNone;refine TR (wpAny_notOrdered_dict ty ?_);show wpAny _ _ (pure (U5 d)) _ _ s;refine UX ?_;show wpAny _ _ (abf d >>= _) _ _ s;unfold abf;rw[if_neg (by rw[nd];exact VD)];refine TR (UX ?_);refine TR (aan x1 x3 (TR (aa5 x1 x3 ?_)));refine TR (Wi (UX ⟨_,rfl,"dict_keyiterator",_,⟨_,U1 _ rfl,rfl⟩,F.slot_dict_keyiterator_next.lookup,?_⟩));simpa [rawInt] using q
theorem ym(y:s.heap.IsKeyIter it d i es.size ep)(x:m9 s.heap d es ep)(lt:i<es.size)(q:∀h',h'.IsKeyIter it d (i+1) es.size ep->XE it s.heap h'->Q (some es[i].key) { s with heap:=h' }):wpAny ↑11 A (pyNext (.ref it)) Q E s:=by
 have yt:=y.typeIs;obtain⟨o,y1,y2,y3⟩:=y;obtain⟨p,x1,x2,x3⟩:=x;unfold pyNext;refine TR (W7 (VL (name:=VF "__next__") yt F.slot_dict_keyiterator_next (V8 F.slot_dict_keyiterator_next yt F.entry_dict_keyiterator_next ?_ (F.args_dict_keyiterator_next_1 _))));refine TR (UX (TR (TR ?_)))
 first|refine TR (W_ yt (UX ?_))|refine TR (XM yt (UX ?_))
 refine TR (wpAny_fieldsOf y1 y3 ?_);simp only[show ZE "dict_keyiterator"=false by decide,V5,if_false];show wpAny _ _ (if (U5 d==VC)=true then _ else _) _ _ s;rw[if_neg (show ¬ ((U5 d==VC)=true) from VD)];refine TR (UX (TR (aan x1 x3 ?_)));rw[if_neg ↑13];refine TR (UX (TR (aa5 x1 x3 ?_)));rw[if_neg ↑13];refine UX ?_;simp only[show ¬ ((i:Int)<0) from by lia,if_false,VE,Yv lt];refine TR ?_
 first|refine TR (W_ yt (UX ?_))|refine TR (XM yt (UX ?_))
 refine TR (abg yt ?_);show wpAny _ _ (setField (.ref it) 1 (rawInt ((i:Int)+1)) >>= _) _ _ s;refine TR (XU y1 y3 ↑13 ?_);have y':(s.heap.update it (WM (·.setIfInBounds 1 (rawInt ((i:Int)+1))))).IsKeyIter it d (i+1) es.size ep:=⟨_,VS _ y1 (Xy (WI y3 _)),(ab6 ..).trans y2,by rw[WI y3];simp[rawInt]⟩
 refine TR (Wx (TR (abg (s:={ s with heap:=s.heap.update it (WM (·.setIfInBounds 1 (rawInt ((i:Int)+1)))) }) y'.typeIs ?_)));show wpAny _ _ (pure es[i].key) _ _ _;exact UX (UX ⟨_,rfl,UX (q _ y' (XQ ..))⟩)
theorem Eo(hh:A.handled=none)(y:s.heap.IsKeyIter it d i es.size ep)(x:m9 s.heap d es ep)(ge:es.size<=i)(q:∀h',acH it s.heap h'->Q none { s with heap:=h' }):wpAny ↑11 A (pyNext (.ref it)) Q E s:=by
 have yt:=y.typeIs;obtain⟨o,y1,y2,y3⟩:=y;obtain⟨p,x1,x2,x3⟩:=x;unfold pyNext;refine TR (W7 (VL (name:=VF "__next__") yt F.slot_dict_keyiterator_next (V8 F.slot_dict_keyiterator_next yt F.entry_dict_keyiterator_next ?_ (F.args_dict_keyiterator_next_1 _))));refine TR (UX (TR (TR ?_)))
 first|refine TR (W_ yt (UX ?_))|refine TR (XM yt (UX ?_))
 refine TR (wpAny_fieldsOf y1 y3 ?_);simp only[show ZE "dict_keyiterator"=false by decide,V5,if_false];show wpAny _ _ (if (U5 d==VC)=true then _ else _) _ _ s;rw[if_neg (show ¬ ((U5 d==VC)=true) from VD)];refine TR (UX (TR (aan x1 x3 ?_)));rw[if_neg ↑13];refine TR (UX (TR (aa5 x1 x3 ?_)));rw[if_neg ↑13];refine UX ?_;simp only[show ¬ ((i:Int)<0) from by lia,if_false,VE,Xi ge];refine TR ?_
 first|refine TR (W_ yt (UX ?_))|refine TR (XM yt (UX ?_))
 show wpAny _ _ (setField (.ref it) 0 .none >>= _) _ _ s;refine TR (XU y1 y3 ↑13 ?_);show wpAny _ _ (newExc (.type "StopIteration") [] >>= _) _ _ _;refine TR ?_;simp only[newExc,newTuple];refine TR (Wi (TR (m:=firstArgMember _ _) (wpAny_of_eq (a:=VC) (by first|rfl|(simp only[firstArgMember];rfl)) (Wi ?_ (by size_fits)))) (by size_fits));simp only[raiseNew];refine TR (wpAny_handled ?_);rw[show A.in1.handled=none from hh];refine TR (UX (wpAny_throw ?_));refine TR (Yp (T := "StopIteration") (b:=true) ⟨_,U1 _ rfl,rfl⟩ Z6 ?_);exact UX (q _ (((XQ ..).extBut.push _).push _))
def Cr(hh:A.handled=none)(I d:Addr)(ne:d≠I)(es:Array DictEntry)(ep:Nat):Walks prog w A I [I,d] [I] es.size (λi v=>∃h:i<es.size,v=es[i].key) (λi h=>h.IsKeyIter I d i es.size ep/\m9 h d es ep) where
 sub:=λb hb=>by simp at hb;simp[hb]
 frame:=λ_ _ _ st hk=>⟨st.1.at λo e=>hk I ↑13 o e,st.2.keep λo e=>hk d ↑13 o e⟩
 item:=λi s Q E hi st q=>ym st.1 st.2 hi λh' y' sb=>q _ h' s.toks ⟨hi,rfl⟩ ⟨y',st.2.keep λo e=>sb.extBut _ _ ne e⟩ λb o hb e=>sb.extBut b o (λz=>hb (by simp[z])) e
 done:=λs Q E st q=>Eo hh st.1 st.2 (UZ _) λh' sb=>q h' s.toks λb o hb e=>sb b o (λz=>hb (by simp[z])) e
 self:=λ_ _ _ _ st q=>abo st.1 q
def vO:typeLookup (.type "dict") "__len__"=pure (some (.builtin "dict.__len__")):=by rw[typeLookup_type,builtinLookup_eq_fast];kernel_rfl
def z6{R:Result->Shared->Prop}(hh:A.handled=none)(nd:(d==sysModules)=false)(x:m9 s.heap d es ep)(S:Addr)(res:Value)(c:Nat)(hS:s.heap.get? S=some { cls:=.type "list",data:=.seq #[] c })(ne:S≠d)(q:∀h' tk RX c',(∀b o,b≠S->s.heap.get? b=some o->h'.get? b=some o)->h'.get? S=some { cls:=.type "list",dict:=none,data:=.seq RX c',slots:=#[] }->ItemsOf (λi v=>∃h:i<es.size,v=es[i].key) RX es.size->R (.ok (.ret res)) { s with heap:=h',toks:=tk })(hn:es.size<=sizeLine):wpAny ↑11 A.in1 (Xj (.ref S) (.ref d) res) (λfin s'=>match fin with|.done f=>R (.ok f) s'|.again c'=>c'.quiet=true/\codeAny ↑11 A c' R s') (λe s'=>R (.error e) s') s:=by
 have lS:=U3 hS;have ld:d<s.heap.objs.size:=by obtain⟨o,a,_⟩:=x;exact U3 a
 unfold Xj;refine TR (YW x.ty ?_);simp only[show aar (.ref S) (.ref d)=false by simp[aar,ne],show (Wm "dict" == Wm "list")=false by decide,show (Wm "dict" == Wm "tuple")=false by decide,Bool.or_false,V5,if_false];refine TR (yh nd x ?_);have x':m9 (s.heap.push { cls:=.type "dict_keyiterator",data:=.fields #[.ref d,.int 0 0,.int es.size 0,.int ep 0] }) d es ep:=x.keep λo e=>UT _ e;have y':(s.heap.push { cls:=.type "dict_keyiterator",data:=.fields #[.ref d,.int 0 0,.int es.size 0,.int ep 0] }).IsKeyIter s.heap.objs.size d 0 es.size ep:=⟨_,U1 _ rfl,rfl,rfl⟩
 have t':=m9.ty (s:={ s with heap:=s.heap.push { cls:=.type "dict_keyiterator",data:=.fields #[.ref d,.int 0 0,.int es.size 0,.int ep 0] } }) x';refine TR (Wx ?_);unfold Builtin.List.listLengthHint;refine TR (wpAny_specialOf t' vO ?_)
 wp_delta
 refine TR (Yp (T := "dict") (b:=true) t' (by rw[isSubtype_type];kernel_rfl) ?_);show wpAny _ _ (typeOf (U5 d) >>= _) _ _ _;refine TR (YW t' (UX ?_));rw[if_pos ↑12];refine TR (W0 (TR ?_));show wpAny _ A.in1 (updateSeq S (·.push .none) >>= λ_=>updateSeq S (·.pop)) _ _ _;have e1:(s.heap.push { cls:=.type "dict_keyiterator",data:=.fields #[.ref d,.int 0 0,.int es.size 0,.int ep 0] }).get? S=some { cls:=.type "list",data:=.seq #[] c }:=UT _ hS;refine TR (ZC e1 rfl ?_);have e2:=VS (Wo (·.push VC)) e1 rfl;refine ZC (hz:=by seq_fits) e2 rfl ?_;have e3:=VS (Wo (·.pop)) e2 rfl;have kp:∀b o,b≠S->(s.heap.push { cls:=.type "dict_keyiterator",data:=.fields #[.ref d,.int 0 0,.int es.size 0,.int ep 0] }).get? b=some o->(((s.heap.push { cls:=.type "dict_keyiterator",data:=.fields #[.ref d,.int 0 0,.int es.size 0,.int ep 0] }).update S (Wo (·.push VC))).update S (Wo (·.pop))).get? b=some o:=λb o hb e=>(Vy _ _ hb.symm).trans ((Vy _ _ hb.symm).trans e);have sf:S ∉ [s.heap.objs.size,d]:=λm=>by
  rcases U9.mp m with z|z
  .exact Vh lS z
  .exact ne (Vr.mp z)
 have W:=Cr (prog:=prog) (w:=w) (A:=A.in1) hh s.heap.objs.size d (Vh ld) es ep;refine UX ⟨plainId_quiet F.plain_extend_loop _,codeAny_extend_loopS W.toS hn _ sf _ es.size 0 _ _ _ rfl (Va _) ?_ e3 (ItemsOf.nil _) λs' RX c' hm hS' SK=>?_⟩
 .exact⟨y'.at λo e=>kp _ o (WB lS) e,x'.keep λo e=>kp _ o ne.symm e⟩
 .rw[Moved.eq_with hm];refine q s'.heap s'.toks RX c' (λb ob hb e=>hm.heap b ob (λmem=>?_) (kp b ob hb (UT _ e))) hS' SK;rcases U9.mp mem with z|z
  .exact hb z
  .have:=U3 e;rw[Vr.mp z] at this;exact Xl _ this
def Fy{Q:Value->Shared->Prop}(hh:A.handled=none)(nd:(d==sysModules)=false)(x:m9 s.heap d es ep)(q:∀h' tk RX c',(∀b o,s.heap.get? b=some o->h'.get? b=some o)->h'.get? s.heap.objs.size=some { cls:=.type "list",dict:=none,data:=.seq RX c',slots:=#[] }->ItemsOf (λi v=>∃h:i<es.size,v=es[i].key) RX es.size->Q (.ref s.heap.objs.size) { s with heap:=h',toks:=tk })(hn:es.size<=sizeLine):wpAny ↑11 A (call (.type "list") [.ref d]) Q E s:=by
 have ld:d<s.heap.objs.size:=by obtain⟨o,a,_⟩:=x;exact U3 a
 refine callType_codes (Q₁:=λob s₁=>ob=.ref s.heap.objs.size/\s₁={ s with heap:=s.heap.push { cls:=.type "list",data:=.seq #[] } }) F.called_list (F.typeCall_list_1 _) F.entry_list_init (code_list_new _ ⟨rfl,rfl⟩) λob s₁ e=>?_;obtain⟨rfl,rfl⟩:=e;have e0:(s.heap.push { cls:=.type "list",data:=.seq #[] }).get? s.heap.objs.size=some { cls:=.type "list",data:=.seq #[] }:=U1 _ rfl;refine⟨⟨_,e0,rfl⟩,F.args_list_init_2 _ _,?_⟩;show wpAny _ _ (do let old <- aaR (.ref s.heap.objs.size);Builtin.List.listUpdate (.ref s.heap.objs.size) (λ_=>#[]);letGo old.toList.reverse;Xj (.ref s.heap.objs.size) (.ref d) .none) _ _ _;refine TR ?_;unfold aaR;refine TR (VZ e0 rfl (UX ?_));show wpAny _ _ (updateSeq s.heap.objs.size (λ_=>#[]) >>= λ_=>letGo (#[]:Array Value).toList.reverse >>= λ_=>Xj (.ref s.heap.objs.size) (.ref d) .none) _ _ _;refine TR (ZC e0 rfl (TR (XZ ?_)));have e1:=VS (Wo (λ_=>(#[]:Array Value))) e0 rfl;have kp:∀b o,b≠s.heap.objs.size->(s.heap.push { cls:=.type "list",data:=.seq #[] }).get? b=some o->((s.heap.push { cls:=.type "list",data:=.seq #[] }).update s.heap.objs.size (Wo (λ_=>(#[]:Array Value)))).get? b=some o:=λb o hb e=>(Vy _ _ hb.symm).trans e;refine z6 (A:=A.in1) (s:={ s with heap:=(s.heap.push { cls:=.type "list",data:=.seq #[] }).update s.heap.objs.size (Wo (λ_=>(#[]:Array Value))) }) hh nd (x.keep λo e=>kp _ o (Vh ld) (UT _ e)) _ _ _ e1 (WB ld) (λh' tk RX c' hk hS' SK=>?_) hn;exact⟨rfl,q h' tk RX c' (λb o e=>hk b o (Vh (U3 e)) (kp b o (Vh (U3 e)) (UT _ e))) hS' SK⟩
end
structure Tw (iL iS:Nat) (a b0 b1:Addr) (B H₀ Hs H:Hp) (σ:St) (env:af) (xs ys:List PV) (vs ws:List V):Prop where
 sr:SR B H₀ Hs H σ env
 no:qo env
 sl:σ[iL]?=some (some (.ref a))
 nL:env[iL]?=some none
 nS:env[iS]?=some none
 ha:H a=some (.lst [.ref b0,.ref b1])
 h0:H b0=some (.lst vs)
 h1:H b1=some (.lst ws)
 sa:Hs a=none
 s0:Hs b0=none
 s1:Hs b1=none
 oa:H₀ a=none
 o0:H₀ b0=none
 o1:H₀ b1=none
 d0:a≠b0
 d1:a≠b1
 d2:b0≠b1
 rx:aL Hs xs vs
 ry:aL Hs ys ws
variable{ws:List V}{xs:List PV}{σ:St}{Hs:Hp}
section
variable{iL iS ic:Nat}{a b0 b1:Addr}{B H₀:Hp}{env:af}{ys:List PV}{vs:List V}
end
section
variable{E:XK}{RD Qz:Stmt}{rest:List Stmt}{iL iS ic:Nat}{wi:TI}{it:af->M (List PV)}{fi fv:af->M PV}{g:af->M Out}
end
theorem KT.at{H:Hp}:∀{Qk:List (List Key×V)}{xs:List (List Key×Addr×Value)},KT H Qk xs->∀i (h:i<Qk.length) (h':i<xs.length),H xs[i].2.1=some (.tup (Qk[i].1.map kV))
 | _,_,.nil,i,h,_=>absurd h (Nat.not_lt_zero i)
 | _,_,.cons a t,0,_,_=>a.2.1
 |_,_,.cons a t,i+1,h,h'=>KT.at t i (aaS h) (aaS h')
def La(tk tv:TE):TE:=fun σ H Q=>∀p,H p=none->xU [(tk,tv)] σ (upd H p (.dT [])) λps H2=>∃v b k,ps=[(.ref b,v)]/\H2 b=some (.tup (k.map kV))/\H2 p=some (.dT [])/\Q (.ref p) (upd H2 p (.dT [(k,v)]))
def Cj{k v:Expr}{tk tv:TE}{pos:Pos}(hu:X.A.units<cLine)(hk:PE X k tk)(hv:PE X v tv):PE X (.Dict [some k] [v] pos) (La tk tv):=by
 intro Qg s σ H Q I q;have hn:=I.bq.fresh (UZ s.heap.objs.size);have I1:=I.laid (a:=s.heap.objs.size) (o:=.dT []) (h':=s.heap.push { cls:=.type "dict",data:=.dict #[] }) (t':=s.toks) (λ_ _ q=>UT _ q) (UZ _) (B_ s.heap I.big);refine wpAny_Dict_any rfl rfl (λz=>nomatch z) (show 1<=15 by decide) (ck ((Cf hk hv Hb) Qg _ σ _ _ I1 (q _ hn)) λws s2 h=>?_);obtain⟨_,H2,I2,rel,x,b,ks,rfl,hb,hp,q2⟩:=h;obtain⟨u1,u2⟩:∃w1 w2,ws=[(w1,w2)]/\RelV (.ref b) w1/\RelV x w2:=by
  cases rel with
  | cons a t=>cases t;exact⟨_,_,rfl,a.1,a.2⟩
 obtain⟨w2,rfl,r1,r2⟩:=u2;cases (show u1=U5 b from r1);obtain⟨z,nd,xs,rl,dd⟩:=HP I2.bq hp;cases rl;unfold storeAll;rw[YE];refine TR (TR (wpAny_dictSet_heap (hsz:=Va _) (knd:=tupleKind (cz X.prog X.w)) hu (uL I2.bq hb) dd λh' T4 hs=>UX ?_));show wpAny _ _ (forIn [] PUnit.unit _) _ _ _;rw[YY];refine UX ⟨.ref s.heap.objs.size,_,?_,rfl,q2⟩;obtain⟨o,es,ep,hq,h2,h3,h4,_,h5⟩:=T4;have:=oJ (t':=s2.toks+(tupleKind (cz X.prog X.w)).draws ks) (ob:=.dT [(ks,x)]) I2 (by rw[hp];exact Wn) hs ⟨o,hq⟩ ⟨by show 1<=sizeLine;decide,nd,_,?_,o,es,ep,hq,h2,h3,h4,h5⟩
 .exact this
 .exact .cons ⟨rfl,by rwa[au (Du hb hp (λz=>nomatch z))],r2⟩ .nil
noncomputable abbrev ky(A:List Int):List Key:=A.map YN
def DW(A:List Int):(ky A).map kV=A.map V.int:=by rw[VB];rfl
def EJ{A B:List Int}(h:ky A=ky B):A=B:=(List.map_inj_right λa b h=>Sum.inl.inj h).mp h
section
variable{κ:Type}[DecidableEq κ]
end
section
variable(sm:List Int->List Int->List Int)(z r:List Int)
noncomputable def El:Nat->List Int
 | 0=>r
 |j+1=>sm (El j) r
noncomputable def oV:Nat->List Int
 | 0=>z
 |j+1=>sm (oV j) r
def Nx(m:Nat)(S:List Int->Prop):List Int->Prop:=λB=>S B\/∃A j,S A/\j<m/\B=sm A (oV sm z r (j+1))
end
section
variable{p:Addr}{H':Hp}{Qk kvs':List (List Key×V)}{vs vs':List Int}
end
variable{sem:List PV->M PV}
section
variable{K:UU}{sm:List Int->List Int->List Int}{S:List Int}
def M_:V->V->Hp->VK->Prop:=λo i H Q=>∃p xs v,o=.ref p/\i=.int (-1)/\H p=some (.lst xs)/\nW xs (-1)=some v/\Q v H
end
theorem CD:L9 X M_:=by
 intro Qg s σ H o i ov iv Q I ro ri h;obtain⟨p,xs,v,rfl,rfl,hp,he,q⟩:=h;cases ro;obtain⟨t,rfl⟩:=ri;obtain⟨Qo,r,pl,hz⟩:=I.list (g9.of hp);obtain⟨j,h1,h2,h3,h4,h5⟩:=oP he;obtain⟨w,ew,RS⟩:=r.get h2;have hl:=r.length;have hn:=k4;have hj:((-1:Int)+(Qo.toArray.size:Int)).toNat=j:=by
  rw[aaF ⋯ h4] at h1;rw[U6,<- hl];exact Vf h1
 exact aaH pl.isList ⋯ (by rw[U6]<;>lia) ⋯ (by rw[hj];simpa using ew) ⟨v,H,I,RS,q⟩
variable{base:Heap}{mg:Str->Option Value}{P:Program}
section
variable{K:UU}
end
variable{k:Nat}
theorem bO.u1{A:Around}(r:bO k A):A.units+1<cLine:=by have:=r.units;lia
abbrev KD:=List (List Int×PV)
noncomputable def md(Qk:KD)(k:List Int):Option PV:=(Qk.find? λz=>decide (z.1=k)).map (·.2)
noncomputable def putD(Qk:KD)(k:List Int)(p:PV):KD:=if (Qk.any λz=>decide (z.1=k))=true then Qk.map (λz=>if z.1=k then (z.1,p) else z) else Qk++[(k,p)]
def qW:List PV->Option (List Int)
 | []=>some []
 | .int i::r=>(qW r).map (i::·)
 |_=>none
def Aa:PV->Option (List Int)
 | .tup xs=>qW xs
 |_=>none
theorem tH:∀ns:List Int,qW (ns.map PV.int)=some ns
 | []=>rfl
 |n::r=>by show (qW (r.map PV.int)).map (n::·)=_;rw[tH r];rfl
theorem vy:∀{xs:List PV}{ns:List Int},qW xs=some ns->xs=ns.map PV.int
 | [],_,h=>by cases h;rfl
 | .int i::r,ns,h=>by
  obtain⟨ms,e,rfl⟩:=Vo.mp (show (qW r).map (i::·)=some ns from h);rw[vy e];rfl
variable{v:V}{p:PV}
def uk{k:List Int}(r:Rep Hs p v)(e:Aa p=some k):∃b,v=.ref b/\Hs b=some (.tup ((ky k).map kV)):=by
 cases r with
 | @tup a xs vs h rl =>
  have:=vy (show qW xs=some k from e);subst this;rw[DW,<- rl.ints];exact⟨a,rfl,h⟩
 |_=>cases e
theorem dP.length{H:Hp}:∀{Qk:KD}{us:List (List Key×V)},dP H Qk us->Qk.length=us.length
 | _,_,.nil=>rfl
 |_,_,.cons _ r=>by simp[r.length]
theorem dP.val{H:Hp}:∀{Qk:KD}{us:List (List Key×V)}(k:List Int),dP H Qk us->(∀p,md Qk k=some p->∃v,kO us (ky k)=some v/\Rep H p v)/\(md Qk k).isSome=(kO us (ky k)).isSome
 | _,_,k,.nil=>⟨λp h=>(by cases h),rfl⟩
 | _,_,k,.cons (k:=l) (p:=q) (v:=v) (ps:=ps) (vs:=vs) h r=>by
  obtain⟨i1,i2⟩:=r.val k
  by_cases e:l=k
  .subst e;have e1:md ((l,q)::ps) l=some q:=by simp[md,WC]
   have e2:kO ((ky l,v)::vs) (ky l)=some v:=l8 rfl;rw[e1];exact⟨λp hp=>by cases hp;exact⟨v,e2,h⟩,by rw[show ((l.map YN,v)::vs)=(ky l,v)::vs from rfl,e2];rfl⟩
  .have e1:md ((l,q)::ps) k=md ps k:=by simp[md,WC,e]
   have e2:kO ((ky l,v)::vs) (ky k)=kO vs (ky k):=lQ (λz=>e (EJ z));rw[e1,show ((l.map YN,v)::vs)=(ky l,v)::vs from rfl,e2];exact⟨i1,i2⟩
def qA(k:List Int)(Qk:KD):(Qk.any λz=>decide (z.1=k))=(md Qk k).isSome:=by
 induction Qk with
 | nil=>rfl
 | cons z r ih =>
  rw[Zk]
  by_cases e:z.1=k
  .simp[md,WC,e]
  .rw[decide_eq_false e,Bool.false_or,ih];simp[md,WC,e]
theorem dP.map_put{H:Hp}{k:List Int}{p:PV}{v:V}(h:Rep H p v):∀{Qk:KD}{us:List (List Key×V)},dP H Qk us->dP H (Qk.map λz=>if z.1=k then (z.1,p) else z) (us.map λz=>if z.1=ky k then (z.1,v) else z)
 | _,_,.nil=>.nil
 | _,_,.cons (k:=l) (p:=q) (v:=u) h2 r=>by
  rw[Vg,Vg]
  by_cases e:l=k
  .rw[if_pos e,if_pos (show l.map YN=ky k by rw[e])];exact .cons h (r.map_put h)
  .rw[if_neg e,if_neg (λz=>e (EJ z))];exact .cons h2 (r.map_put h)
theorem dP.snoc{H:Hp}{k:List Int}{p:PV}{v:V}(h:Rep H p v):∀{Qk:KD}{us:List (List Key×V)},dP H Qk us->dP H (Qk++[(k,p)]) (us++[(ky k,v)])
 | _,_,.nil=>.cons h .nil
 |_,_,.cons h2 r=>.cons h2 (r.snoc h)
variable{us:List (List Key×V)}{Qk:KD}
def dP.put{k:List Int}(h:Rep H p v)(r:dP H Qk us):dP H (putD Qk k p) (putK us (ky k) v):=by
 unfold putD putK;have e:(Qk.any λz=>decide (z.1=k))=us.any λz=>decide (z.1=ky k):=by rw[qA,pU];exact(r.val k).2
 rw[e]
 split
 .exact r.map_put h
 .exact r.snoc h
def Fo{a:Addr}{k:List Int}(sm:bf Hs H)(hd:Rd H a (.dT us))(r:Rep Hs p v)(e:Aa p=some k):Jk H a v (kO us (ky k)):=by
 obtain⟨b,rfl,hb⟩:=uk r e;exact .inr ⟨us,ky k,b,hd,rfl,sm _ _ hb,rfl⟩
section
variable{a b:Expr}{pos:Pos}{g:af->M PV}
def KU(n:Bool):R2:=λy x H Q=>∃a o,x=.ref a/\Jk H a y o/\Q (.bl (n ^^ o.isSome)) H
def FD(hu:X.A.units+1<cLine):gQ X (compareOp .NotIn) (KU true):=by
 intro Qg s σ H y x iv u Q I ry rx h;obtain⟨a,o,rfl,g,q⟩:=h;cases rx;exact F3 hu I g ry λs3 I3=>⟨.bl (!o.isSome),H,I3,rfl,by rwa [Bool.true_xor] at q⟩
noncomputable def ND(n:Bool)(Qk:KD)(p:PV):M PV:=match Aa p with
 | some k=>M.ok (.bl (n ^^ (md Qk k).isSome))
 |none=>none
end
noncomputable def lX(i:Nat)(env:af):M KD:=match env[i]? with
 | some (some (.dw Qk))=>M.ok Qk
 |_=>none
theorem ao.lX{i:Nat}{env:af}{Q:KD->Prop}{E:EX->Prop}(h:ao (L2.lX i env) Q E):∃Qk,env[i]?=some (some (.dw Qk))/\Q Qk:=by
 unfold L2.lX at h
 split at h
 .exact⟨_,by assumption,h⟩
 .exact h.elim
def SR.Oy{B H₀:Hp}{env:af}{p:Addr}(r:SR B H₀ Hs H σ env)(hs:Hs p=none)(h0:H₀ p=none)(na:∀(j:Nat)(y:SV),env[j]?=some (some y)->gI y=true->σ[j]?≠some (some (.ref p)))(h:dP Hs Qk us):SR B H₀ Hs (upd H p (.dT us)) (σ.set i (some (.ref p))) (env.set i (some (.dw Qk))) :=
 r.chg (r.gr.jP hs h0) (λ_ _ q=>q) (λ_ e=>by cases e;exact⟨_,rfl,p,us,rfl,av,hs,h0,h⟩) (λj y a u _ ej o z h1 h2 _=>⟨by rwa[au (λw=>by subst w;exact na j y ej o z)],h2⟩) λ_ _ _ k z _=>na k z
def SR.Mw{B H₀:Hp}{env:af}{a:Addr}{xs ys:KD}(r:SR B H₀ Hs H σ env)(e:env[i]?=some (some (.dw xs)))(hi:σ[i]?=some (some (.ref a)))(h:dP Hs ys us):SR B H₀ Hs (upd H a (.dT us)) σ (env.set i (some (.dw ys))):=by
 obtain⟨a',vs,h1,h2,h3,h4,h5⟩:=r.dw i xs e;rw[hi] at h1;cases h1;exact r.BD hi (r.gr.jP h3 h4) (λ_ _ q=>q) (λ_ q=>by cases q;exact⟨_,rfl,a,us,rfl,av,h3,h4,h⟩) (λj y b u n ej o z q1 q2 _=>⟨by rwa[au (λw=>by subst w;exact r.ap i j _ y b n e ej rfl o hi z)],q2⟩) λ_ _ _ k z n ek o=>r.ap i k _ z a n e ek rfl o hi
section
variable{E:XK}{ie:Expr}{pos pos':Pos}{g h:af->M PV}
def IS(i:Nat)(f g:af->M PV):af->M Out:=λenv=>(f env).bind λp=>(g env).bind λq=>match Aa p with
 | some k=>M.ok (.nx (env.set i (some (.dw [(k,q)]))))
 |none=>none
def bg.side{p:Addr}{o:HO}(s:bf Hs H)(n:H p=none):bg Hs H Hs (upd H p o):=by
 have ne:∀c u,H c=some u->c≠p:=λc u e z=>by rw[z,n] at e;cases e
 exact⟨λ_ _ e=>e,λc u e=>by rwa[au (ne c u e)],λc u e=>by rw[au (ne c u (s c u e))];exact s c u e,λ_ _ e _ _=>e⟩
def G1{ke ve:Expr}(hu:X.A.units<cLine)(hN:X.N.Nodup)(hi:X.N[i]?=some x)(hx:Loc X.env.scope x)(hk:PE X ke (tE (λ_=>E) f))(hv:PE X ve (tE (λ_=>E) g))(hs:autoParam (swapsWith (.Dict [some ke] [ve] px) (some (.Name x pos')) pos.line X.env=pure false) aR._auto_1)(hf:autoParam ↑1 aF._auto_1):PS X (.Assign [.Name x pos'] (.Dict [some ke] [ve] px) pos) (tS E (IS i f g)):=by
 refine(xB hN hi hx (Cj hu hk hv) hs hf).imp λD σ H q=>?_;obtain⟨B,H₀,Hs,env,sr,q⟩:=q;intro p n;have sf:=sr.free n;have hd:=sr.held n;have g0:bg Hs H Hs (upd H p (.dT [])):=bg.side sr.gr.sub n;have sr0:=sr.grow g0;refine⟨B,H₀,Hs,env,sr0,(ao.bind q).imp (λpk hp v Qw H1 g1 rk=>?_) λe he=>he.grow sr0.gr⟩;have Td:=sr0.grow g1;refine⟨B,H₀,Qw,env,Td,(ao.bind hp).imp (λpv hq u Qx H2 g2 rv=>?_) λe he=>he.grow Td.gr⟩;have QN:=Td.grow g2
 split at hq
 .rename_i k hk;obtain⟨b,rfl,hb⟩:=uk (rk.mono g2.st) hk;have A7:H2 p=some (.dT []):=g2.al _ _ (g1.al _ _ av);have Rx:Qx p=none:=g2.nw _ _ (g1.nw _ _ sf.1 av (λ_=>nofun)) (g1.al _ _ av) (λ_=>nofun);exact⟨u,b,ky k,rfl,QN.gr.sub _ _ hb,A7,hq _ Qx _ (QN.Oy Rx sf.2 hd (.cons rv .nil))⟩
 .exact hq.elim
def EN(i:Nat)(g f:af->M PV):af->M Out:=λenv=>(f env).bind λp=>(lX i env).bind λQk=>(g env).bind λq=>match Aa q with
 | some k=>if Qk.length<sizeLine then M.ok (.nx (env.set i (some (.dw (putD Qk k p))))) else none
 |none=>none
def GU(hu:X.A.units+1<cLine)(hi:X.N[i]?=some x)(hv:xh X.env.scope x)(hk:PE X ie (tE (λ_=>E) g))(he:PE X e (tE (λ_=>E) f))(hd:autoParam ↑7 aD._auto_1)(QP:autoParam ↑6 aD._auto_1)(hs:autoParam (swapsWith e (some (.Subscript (.Name x px) ie pos')) pos.line X.env=pure false) aR._auto_1):PS X (.Assign [.Subscript (.Name x px) ie pos'] e pos) (tS E (EN i g f)):=by
 refine(G2 hu (gN hi hv hd QP) hk he hs).imp λD σ H q=>iH q λB H₀ Hs H1 env p v sr rp hp=>?_;obtain⟨Qk,ex,hp⟩:=ao.lX (ao.bind hp);obtain⟨a,us,h1,h2,h3,h4,h5⟩:=sr.dw i Qk ex;refine⟨.ref a,h1,B,H₀,Hs,env,sr,(ao.bind hp).imp (λkp hq w Qx H2 g2 rk=>?_) λe he=>he.grow sr.gr⟩;have QN:=sr.grow g2
 split at hq
 .rename_i k hk
  split at hq
  .rename_i hz;obtain⟨b,rfl,hb⟩:=uk rk hk;have TL:=g2.al _ _ h2;exact⟨a,_,rfl,DS.t TL (QN.gr.sub _ _ hb) (by rwa[<- h5.length]),hq _ Qx _ (QN.Mw ex h1 ((h5.mono g2.st).put (rp.mono g2.st)))⟩
  .exact hq.elim
 .exact hq.elim
end
section
variable{ie:Expr}{pos pos':Pos}{g h:af->M PV}
def Lz(n:Bool)(i:Nat)(f:af->M PV):af->M PV:=λenv=>(f env).bind λp=>(lX i env).bind λQk=>ND n Qk p
def Kb{n:Bool}{Q:VK}(q:tE E (Lz n i f) σ H Q):Ly (KU n) (tE E f) (L8 i) σ H Q:=by
 refine um q λB H₀ Hs H1 env p v sr rp hp=>?_;obtain⟨Qk,ex,hp⟩:=ao.lX (ao.bind hp);obtain⟨a,us,h1,h2,h3,h4,h5⟩:=sr.dw i Qk ex;unfold ND at hp
 split at hp
 .rename_i k hk;refine⟨.ref a,h1,a,_,rfl,Fo sr.gr.sub (.inl h2) rp hk,?_⟩;rw[<- (h5.val k).2];exact eU.flat hp sr.gr.sub (.bl _)
 .exact hp.elim
def Iy{op:CmpOp}{n:Bool}(ho:gQ X (compareOp op) (KU n))(hi:X.N[i]?=some x)(hv:xh X.env.scope x)(he:PE X e (tE E f))(hm:behindInMarks op (.Name x px)=false)(hd:autoParam ↑7 aD._auto_1)(QP:autoParam ↑6 aD._auto_1):PT X (.Compare e [op] [.Name x px] pos) (tT E (fL (Lz n i f))):=(yF ho he (gN hi hv hd QP) hm).imp fun σ H Q q=>Kb (pC q)
end
variable{Qg:List (Addr×Obj)}
def Inv.fz{a:Addr}(I:Inv X Qg σ H s)(e:H a=some (.dT us)):∃o,Inv X Qg σ (upd H a (.kX o (.dT us))) s:=by
 obtain⟨z,y,ks,rel,o,es,ep,h1,h2⟩:=(show bw X.prog X.w H s.heap a (.dT us) from I.bq a _ e)
 refine⟨o,oJ (t':=s.toks) I (by rw[e];exact Wn) ⟨rfl,λ_ _=>rfl⟩ ⟨o,h1⟩ ⟨h1,z,y,ks,?_,o,es,ep,h1,h2⟩⟩;exact(show KT H us ks from rel).keeps λc ys ec=>by rwa[au (Du ec e (λz=>nomatch z))]
noncomputable def Om(i:Nat)(env:af):af:=match env[i]? with
 | some (some (.dw Qk))=>env.set i (some (.sh (.rf Qk)))
 |_=>env
variable{o:Obj}
def SR.fz{B H₀:Hp}{env:af}{a:Addr}(r:SR B H₀ Hs H σ env)(e:env[i]?=some (some (.dw Qk)))(h1:σ[i]?=some (some (.ref a)))(h2:H a=some (.dT us))(h3:Hs a=none)(h4:H₀ a=none)(h5:dP Hs Qk us):SR B H₀ (upd Hs a (.kX o (.dT us))) (upd H a (.kX o (.dT us))) σ (env.set i (some (.sh (.rf Qk)))):=by
 obtain⟨g,st⟩:=(r.gr.jP (o:=.kX o (.dT us)) h3 h4).into av h3 h4;exact r.BD h1 g st (λ_ q=>by cases q;exact⟨_,rfl,.rf av (h5.mono st)⟩) (λj y b u n ej o z q1 q2 _=>by
  have nb:b≠a:=λw=>by subst w;exact r.ap i j _ y b n e ej rfl o h1 z
  rw[au nb,au nb];exact⟨q1,q2⟩) λ_ q o=>by cases q;cases o
def Nv(i:Nat)(f:af->M Out):af->M Out:=λenv=>f (Om i env)
def L5{E:XK}{st:Stmt}{g:af->M Out}(i:Nat)(hs:PS X st (tS E g)):PS X st (tS E (Nv i g)):=by
 intro Qg s σ H D I q;obtain⟨B,H₀,Hs,env,sr,q⟩:=q;unfold Nv Om at q
 split at q
 .rename_i Qk e;obtain⟨a,us,h1,h2,h3,h4,h5⟩:=sr.dw i Qk e;obtain⟨o,I2⟩:=I.fz h2;exact hs Qg s σ _ D I2 ⟨B,H₀,_,_,sr.fz e h1 h2 h3 h4 h5,q⟩
 .exact hs Qg s σ H D I ⟨B,H₀,Hs,env,sr,q⟩
def NI(d:Addr)(o:Obj)(us:List (List Key×V)):It:=⟨λi H=>i<us.length/\H d=some (.kX o (.dT us)),λi H x H'=>H'=H/\∃k b,us[i]?=some k/\x=.ref b/\H b=some (.tup (k.1.map kV)),λi H=>us.length<=i/\H d=some (.kX o (.dT us))⟩
def xo(I:Inv X Qg σ H s)(e:H d=some (.kX o (.dT us))):∃(es:Array DictEntry)(ep:Nat)(as:List Addr),o.data=.dict es ep/\s.heap.get? d=some o/\o.ExactDict/\(d==sysModules)=false/\us.length<=sizeLine/\es.size=us.length/\as.length=us.length ∧(∀i (h:i<es.size) (h':i<as.length),es[i].key=.ref as[i])/\∀i (h:i<as.length) (h':i<us.length),H as[i]=some (.tup (us[i].1.map kV)):=by
 obtain⟨e0,z,y,ks,rel,o',es,ep,h1,h2,h3,h4,h5⟩:=(show bw X.prog X.w H s.heap d (.kX o (.dT us)) from I.bq d _ e)
 rw[e0] at h1;cases h1;have hl:ks.length=us.length:=(Paired.length rel).symm;refine⟨es,ep,ks.map (·.2.1),h3,e0,h2,y,z,by rw[<- hl,<- Vt,h4,U0],by rw[U0,hl],λi h h'=>?_,λi h h'=>?_⟩
 .have hi:i<ks.length:=by rw[U0] at h';exact h'
  have e2:es.toList[i]'(by rwa[Vt])=entryOfKey (tupleKind (cz X.prog X.w)) ks[i]:=by
   have:=abP h4 (i:=i) (by rwa[Vt]);rw[this,Xo]
  rw[abp] at e2;rw[e2,Xo];rfl
 .rw[Xo];exact KT.at rel i h' (by rwa[U0] at h)
variable{tg:Expr}
def CH{K:UU}(it d:Addr)(o:Obj)(us:List (List Key×V))(es:Array DictEntry)(ep:Nat)(hd:o.data=.dict es ep)(hs:es.size=us.length):Turn P w K tg (NI d o us) [it] it (λi h=>h.IsKeyIter it d i es.size ep) where
 mem:=by simp
 obj:=λi h st b hb=>by
  have e:b=it:=by simpa using hb
  subst e;obtain⟨o,e,c,d⟩:=st;exact⟨o,e,λv z=>by rw[d] at z;cases z⟩
 keep:=λi h h' st k=>st.at λo e=>k it ↑13 o e
 item:=by
  intro X hP hw hK hc i Qg s σ H E I hf st hg;subst hP hw hK;obtain⟨f0,f1,f2,f3,f4,f5⟩:=hf it ↑13;obtain⟨T6,Ug,as,q1,q2,q3,q4,q5,q6,q7,q8,q9⟩:=xo I hg.2;rw[hd] at q1;cases q1;have lt:i<es.size:=by rw[hs];exact hg.1
  have la:i<as.length:=by rw[q7];exact hg.1
  refine ym st ⟨o,q2,q3,hd⟩ lt λh' y' sb=>?_;have I1:Inv X Qg σ H { s with heap:=h' }:=I.turned (t':=s.toks) (λb o hb e=>sb.extBut b o hb e) f0 f1 f3 f4 f5;refine⟨_,rfl,?_⟩;obtain⟨o2,e2,c2,d2⟩:=id y';refine vS (s:={ s with heap:=h' }) e2 c2 d2 ↑12 ⟨.ref as[i],H,I1,q8 i lt la,⟨rfl,us[i]'hg.1,as[i],UW hg.1,rfl,q9 i la hg.1⟩,y',λb hb=>(hf b hb).1⟩
 done:=by
  intro X hP hw hK hc i Qg s σ H E I hf st hg;subst hP hw hK;obtain⟨f0,f1,f2,f3,f4,f5⟩:=hf it ↑13;obtain⟨T6,Ug,as,q1,q2,q3,q4,q5,q6,q7,q8,q9⟩:=xo I hg.2;rw[hd] at q1;cases q1;exact Eo (I.ok.hd hc) st ⟨o,q2,q3,hd⟩ (by rw[hs];exact hg.1) λh' eb=>⟨rfl,I.turned (t':=s.toks) (λb o hb e=>eb b o hb e) f0 f1 f3 f4 f5⟩
 self:=λ_ _ _ _ _ st h=>abo st h
def MZ(tl:TE):TI:=fun σ H R=>tl σ H λx H1=>∃d o us,x=.ref d/\H1 d=some (.kX o (.dT us))/\R (NI d o us) H1
def Kh{l:Expr}{tl:TE}(hl:PE X l tl):PI X tg l (MZ tl):=by
 intro Qg s σ H R I h;refine ck (hl Qg s σ H _ I h) λv s1 ⟨x,H1,I1,r1,q1⟩=>?_;obtain⟨d,o,us,e,hd,q⟩:=q1;subst e;obtain rfl:v=U5 d:=r1;obtain⟨es,ep,as,q1,q2,q3,q4,q5,q6,q7,q8,q9⟩:=xo I1 hd;refine yh q4 ⟨o,q2,q3,q1⟩ ?_;have fp:∀(h':Heap) b,b∈[s1.heap.objs.size]->lp X Qg H1 b:=λh' b hb=>by
  have e:b=s1.heap.objs.size:=by simpa using hb
  subst e;exact I1.rn (UZ _) (I1.bq.fresh (UZ _))
 exact⟨s1.heap.objs.size,[s1.heap.objs.size],_,_,H1,rfl,I1.kept (t':=s1.toks) λb o e=>UT _ e,CH _ d o us es ep q1 q6,⟨_,U1 _ rfl,rfl,rfl⟩,fp s1.heap,q⟩
theorem dP.at{H:Hp}:∀{Qk:KD}{us:List (List Key×V)}{i:Nat}{k:List Key×V},dP H Qk us->us[i]?=some k->∃z,Qk[i]?=some z/\k.1=ky z.1
 | _,_,_,_,.nil,h=>by simp at h
 | _,_,0,_,.cons (k:=l) (p:=p) _ _,h=>by simp at h;subst h;exact⟨(l,p),rfl,rfl⟩
 | _,_,i+1,_,.cons _ r,h=>by
  obtain⟨z,e1,e2⟩:=dP.at (i:=i) r (by simpa using h);exact⟨z,by simpa using e1,e2⟩
theorem aL.w8{H:Hp}:∀ns:List Int,aL H (ns.map PV.int) (ns.map V.int)
 | []=>.nil
 |n::r=>.cons (.int n) (aL.w8 r)
def bg.P1{b:Addr}(s:bf Hs H)(h:H b=some (.tup ws)):bg Hs H (upd Hs b (.tup ws)) H:=by
 refine⟨λc u q=>?_,λ_ _ q=>q,λc u q=>?_,λc u q1 q2 q3=>?_⟩
 .by_cases z:c=b
  .subst z;rw[av];have:=s _ _ q;rwa[h] at this
  .rw[au z];exact q
 .by_cases z:c=b
  .subst z;rw[av] at q;rwa[h]
  .rw[au z] at q;exact s _ _ q
 .by_cases z:c=b
  .subst z;rw[h] at q2;cases q2;exact absurd rfl (q3 _)
  .rw[au z];exact q1
def B9{Qw:Hp}(hd:Qw d=some (.kX o (.dT us)))(r:dP Qw Qk us):i_ (NI d o us) Qw (Qk.map λz=>.tup (z.1.map PV.int)) where
 stop:=λi Hs H s1 s2 hi=>⟨by rw[<- r.length];simpa using hi,s2 _ _ (s1 _ _ hd)⟩
 go:=λi Hs H s1 s2 hi=>⟨by rw[<- r.length];simpa using hi,s2 _ _ (s1 _ _ hd)⟩
 vd:=λi Hs H x H2 s1 s2 hi y=>by
  obtain⟨rfl,k,b,e1,rfl,e2⟩:=y;obtain⟨z,e3,e4⟩:=r.at e1;rw[e4,DW] at e2;exact⟨.tup (z.1.map PV.int),_,by rw[Vu,e3];rfl,bg.P1 s2 e2,.tup av (aL.w8 _)⟩
def pT(Qk:KD):List PV:=Qk.map λz=>.tup (z.1.map PV.int)
def Hu:PV->M (List PV)
 | .rf Qk=>M.ok (pT Qk)
 |_=>none
def keysOf(f:af->M PV):af->M (List PV):=λenv=>(f env).bind Hu
def FG:yU E (MZ (tE E f)) (keysOf f):=by
 intro σ H R q;refine cw (K:=KI R) KI.g q λB H₀ Hs H1 env p v sr rp hp=>?_;cases rp with
 | @rf a o Qk us hd rd=>exact⟨a,o,us,rfl,sr.gr.sub _ _ hd,hp (NI a o us) Hs H1 (.refl sr.gr.sub) (B9 hd rd)⟩
 |_=>exact hp.elim
noncomputable def se(Hs H:Hp)(as:List Addr):Hp:=λc=>match Hs c with
 | some o=>some o
 |none=>if c∈as then H c else none
theorem bg.se{Hs H:Hp}{as:List Addr}(s:bf Hs H)(h:∀a∈as,∃ws,H a=some (.tup ws)):bg Hs H (L2.se Hs H as) H:=by
 refine⟨λc u q=>by unfold L2.se;rw[q],λ_ _ q=>q,λc u q=>?_,λc u q1 q2 q3=>?_⟩
 .unfold L2.se at q;cases e:Hs c with
  | some o=>rw[e] at q;cases q;exact s _ _ e
  | none =>
   rw[e] at q;have q':(if c∈as then H c else none)=some u:=q
   split at q'
   .exact q'
   .cases q'
 .unfold L2.se;rw[q1];show (if c∈as then H c else none)=none
  split
  .rename_i m;obtain⟨ws,e⟩:=h c m;rw[q2] at e;cases e;exact absurd rfl (q3 _)
  .rfl
def Ff{as:List Addr}{a:Addr}(s:bf Hs H)(m:a∈as)(h:H a=some (.tup ws)):se Hs H as a=some (.tup ws):=by
 unfold se;cases e:Hs a with
 | some o=>rw[<- h];exact(s _ _ e).symm
 |none=>show (if a∈as then H a else none)=_;rwa[if_pos m]
def Ju:List V->Hp->VK->Prop:=λxs H Q=>∃d us,xs=[.ref d]/\Rd H d (.dT us)/\∀(l:Addr)(as:List Addr),H l=none->as.length=us.length->(∀i (h:i<as.length) (h':i<us.length),H as[i]=some (.tup (us[i].1.map kV)))->Q (.ref l) (upd H l (.lst (as.map V.ref)))
theorem wY(hc:X.calm=true):du X (.type "list") Ju:=by
 intro Qg s σ H xs us Q I r h;obtain⟨d,Qk,rfl,hd,q⟩:=h;obtain⟨u,rfl,rx⟩:=vals1 r;cases rx;obtain⟨z,y,ks,rel,o,es,ep,h1,h2,h3,h4,h5⟩:=(show bw X.prog X.w H s.heap d (.dT Qk) from Bv I.bq hd)
 have hl:ks.length=Qk.length:=(Paired.length rel).symm;have he:es.size=Qk.length:=by rw[<- hl,<- Vt,h4,U0]
 refine Fy (I.ok.hd hc) y ⟨o,h1,h2,h3⟩ (λh' tk acc c kp e it=>?_) (by rwa[he]);have ac:acc.toList=(ks.map λx=>U5 x.2.1):=by
  refine aak λi=>?_;rw[VO,Vu];rcases VH i ks.length with lt|ge
  .have la:i<acc.size:=by rw[it.1,he];lia
   obtain⟨hi,ev⟩:=it.2 i acc[i] (Yv la);rw[Yv la,ev,UW lt];have:es[i]=entryOfKey (tupleKind (cz X.prog X.w)) ks[i]:=by
    have e2:es.toList[i]'(by rwa[Vt])=_:=abP h4 _;rwa[abp,Xo] at e2
   rw[this];rfl
  .rw[Xi (by rw[it.1,he];lia),Y_ ge];rfl
 refine⟨.ref s.heap.objs.size,_,I.laid (t':=tk) kp (UZ _) (show bw X.prog X.w _ h' _ (.lst ((ks.map (·.2.1)).map V.ref)) from ⟨by simp;lia,acc.toList,c,?_,e⟩),rfl,q _ (ks.map (·.2.1)) (I.bq.fresh (UZ _)) (by simp[hl]) λi h h'=>?_⟩
 .rw[ac,VB];have:∀l:List (List Key×Addr×Value),Vals (l.map (V.ref∘λx=>x.2.1)) (l.map λx=>U5 x.2.1):=λl=>by
   induction l with
   | nil=>exact .nil
   | cons a r ih=>exact .cons rfl ih
  exact this ks
 .rw[Xo];exact KT.at rel i h' ⋯
def AZ{Ql:Hp}{as:List Addr}(r:dP Ql Qk us)(hl:as.length=us.length)(h:∀i (h:i<as.length) (h':i<us.length),H as[i]=some (.tup (us[i].1.map kV)))(s:bf Hs H):aL (se Hs H as) (pT Qk) (as.map V.ref):=by
 have gen:∀(bs:List Addr)(Qk:KD)(us:List (List Key×V)),dP Ql Qk us->bs.length=us.length->(∀b∈bs,b∈as)->(∀i (h:i<bs.length) (h':i<us.length),H bs[i]=some (.tup (us[i].1.map kV)))->aL (se Hs H as) (pT Qk) (bs.map V.ref):=λbs=>by
  induction bs with
  | nil =>
   intro Qk us r hl _ _;cases r with
   | nil=>exact .nil
   | cons _ _=>cases hl
  | cons b bs ih =>
   intro Qk us r hl hm h;cases r with
   | nil=>cases hl
   | @cons k p v ps vs rp r =>
    have h0:=h 0 (ace _) (ace _);refine .cons (.tup (Ff s (hm b VA) ?_) (aL.w8 k)) (ih ps vs r (aaT hl) (λc hc=>hm c (Vm _ hc)) λi h1 h2=>h (i+1) (acC h1) (acC h2));have:(ky k).map kV=k.map V.int:=DW k;rwa[<- this]
 exact gen as Qk us r hl (λ_ h=>h) h
theorem Gf{as:List Addr}(hl:as.length=us.length)(h:∀i (h:i<as.length) (h':i<us.length),H as[i]=some (.tup (us[i].1.map kV))):∀a∈as,∃ws,H a=some (.tup ws):=λa m=>by
 obtain⟨i,hi,rfl⟩:=abv m;exact⟨_,h i hi ⋯⟩
section
variable{pos p:Pos}
def xp(i:Nat):af->M (List PV):=λenv=>(lX i env).bind λQk=>M.ok (pT Qk)
def AS(hc:X.calm=true)(hg:Gl X "list")(hm:X.mg "list"=none)(hi:X.N[i]?=some x)(hv:xh X.env.scope x)(hd:autoParam ↑7 aD._auto_1)(QP:autoParam ↑6 aD._auto_1)(h1:autoParam (starEach [.Name x px] X.env=(false,eval (.Name x px) X.env)::starEach [] X.env) aR._auto_1)(QG:autoParam ((backTo pos (starEach [] X.env)).any (·.1)=false) aR._auto_1):PE X (.Call (.Name "list" p) [.Name x px] [] pos) (tO E (xp i)):=(sP (wY hc) hg hm u6 (fq (gN hi hv hd QP) lE h1) ↑12 ↑12 h1 QG).imp fun σ H Q q=>by
 obtain⟨B,H₀,Hs,env,sr,q⟩:=q;obtain⟨Qk,ex,q⟩:=ao.lX (ao.bind q);obtain⟨a,us,h1,h2,h3,h4,h5⟩:=sr.dw i Qk ex;exact⟨.ref a,h1,a,us,rfl,.inl h2,λl as n hl hk=>q _ _ _ _ (bg.se sr.gr.sub (Gf hl hk)) (AZ h5 hl hk sr.gr.sub) n⟩
end
section
variable{A:Around}{E:Value->Shared->Prop}{es:Array DictEntry}{ep:Nat}
end
section
variable{E:XK}{pos p1 p2 Te:Pos}{j:Nat}
def LK:PV->M Int
 | .int a=>M.ok a
 |_=>none
theorem ao.LK{p:PV}{Q:Int->Prop}{E:EX->Prop}(h:ao (L2.LK p) Q E):∃n,p=.int n/\Q n:=by
 cases p with
 | int n=>exact⟨n,rfl,h⟩
 |_=>exact h.elim
noncomputable def BS(i:Nat)(xs:List PV)(r:PV)(env:af):M Out:=match AW xs.length (-1) with
 | some j=>M.ok (.nx (env.set i (some (.ow (xs.set j r)))))
 |none=>none
def GS(i:Nat)(f:af->M PV):af->M Out:=λenv=>(ownAt i env).bind λxs=>(fW (nW xs (-1))).bind λp=>(L2.LK p).bind λm=>(f env).bind λq=>(L2.LK q).bind λn=>BS i xs (.int (m+n)) env
def Fv(hi:X.N[i]?=some x)(hv:xh X.env.scope x)(he:PE X e (tE (λ_=>E) f))(hd:autoParam ↑7 aD._auto_1)(QP:autoParam ↑6 aD._auto_1)
  (ha:∀ov iv new,augStore (.UnaryOp .USub (.Constant (.int 1) j p1) p2) ov iv new=(do holding [new,ov,iv] (setItem ov iv new);release [new,ov,iv] [];pure .next):=by intros;rfl) :
  PS X (.AugAssign (.Subscript (.Name x px) (.UnaryOp .USub (.Constant (.int 1) j p1) p2) Te) .Add e pos) (tS E (GS i f)):=by
 refine(G8 (gN hi hv hd QP) (HV Ew BE) CD he Jf set_list ha).imp λD σ H q=>?_;obtain⟨B,H₀,Hs,env,sr,q⟩:=q;obtain⟨xs,ex,q⟩:=ao.own (ao.bind q);obtain⟨a,vs,h1,h2,h3,h4,h5⟩:=sr.ow i xs ex;obtain⟨y,ey,q⟩:=ao.opt (ao.bind q);obtain⟨v,ev,rv⟩:=h5.nW ey;obtain⟨m,rfl,q9⟩:=ao.LK (ao.bind q);cases rv;refine⟨.ref a,h1,⟨_,rfl,a,vs,.int m,rfl,rfl,h2,ev,B,H₀,Hs,env,sr,(ao.bind q9).imp (λp hp w Ql H' g r=>?_) λe he=>he.grow sr.gr⟩⟩;have Ru:=sr.grow g;obtain⟨n,rfl,hp9⟩:=ao.LK (ao.bind hp);cases r;unfold BS at hp9
 split at hp9
 .rename_i jj hj;exact⟨m,n,rfl,rfl,a,vs,-1,jj,rfl,rfl,g.al _ _ h2,by rwa[<- h5.length],hp9 σ Ql _ (Ru.put ex h1 ((h5.mono g.st).set (.int _) jj))⟩
 .exact hp9.elim
end
def tR(E:XK)(f:af->M (List PV)):TS:=λD σ H=>∃B H₀ Hs env,SR B H₀ Hs H σ env/\ao (f env) (KO D.rt B H₀) (XW E B H₀)
def Pk(g:af->M (List PV)):Out->M (List PV)
 | .nx env=>g env
 |_=>none
def rV(f:af->M Out)(g:af->M (List PV)):af->M (List PV):=λenv=>(f env).bind (Pk g)
section
variable{E:XK}{pos:Pos}{st:Stmt}{rest:List Stmt}{f:af->M Out}{g:af->M (List PV)}
def Ci(he:PE X e (tO (λ_=>E) g)):jE X [.Return (some e) pos] (tR E g):=(yL (Dr he)).imp λD σ H q=>by
 obtain⟨B,H₀,Hs,env,sr,q⟩:=q;exact⟨B,H₀,Hs,env,sr,q.imp (λps k=>KO.gr B H₀ Hs H ps k sr.gr) λe he=>he.grow sr.gr⟩
def iO(h1:PS X st (tS E f))(h2:jE X rest (tR E g)):jE X (st::rest) (tR E (rV f g)):=(pK h1 h2).imp λD σ H q=>by
 obtain⟨B,H₀,Hs,env,sr,q⟩:=q;refine⟨B,H₀,Hs,env,sr,(ao.bind q).imp (λo ho=>?_) λe he=>he⟩;cases o with
 | nx Qj=>exact fun σ' Ql H' Ru=>⟨B,H₀,Ql,Qj,Ru,ho⟩
 |_=>exact ho.elim
end
section
variable{E:XK}{st:List Stmt}{g:af->M (List PV)}
end
variable{N ps:List Str}{an:Option Addr}
def GJ{K:UU}{f:Addr}{name qual:Str}{params:Arguments}{body:List Stmt}{scope:Scope}{dV kV doc pm Qy ct oc:Value}{od:Option Addr}{Ss:Array (Option Value)}{g:af->M (List PV)}(lk:K.lookup f=some ⟨oc,od,.func (Wb name qual params body scope dV kV doc pm an Qy ct),Ss⟩)(QP:WN K Qy qual=true)(S:bS N ps scope)(hb:∀(A:Around)(outer:List Env)(s:Shared)(H:Hp)(E:XK),bO k (A.deeper (envOfC qual scope s.heap.objs.size f Qy))->jE ((jK (bQ P w) P w K mg base N qual scope f Qy A outer s H E).out λ_=>E) body (tR E g)):aV P w K mg base (bQ P w) (k+1) f (Wb name qual params body scope dV kV doc pm an Qy ct) ps (NK ps.length λps=>g (gU N.length ps)):=by
 refine uE lk QP S (λvs H Q E h=>h.1) λA outer s H vs Q E hr hs=>⟨_,hb A outer s H E hr,?_⟩
 obtain⟨_,Hs,RH,sm,r,h⟩:=hs;exact⟨Hs,H,Hs,_,SR.start sm r,h⟩
variable{es:List Expr}{fd:FuncData}{n:Nat}
section
variable{f:Addr}{sem:List PV->M (List PV)}{p pos:Pos}{fs:af->M (List PV)}
def jD(o:List PV->M (List PV))(fs:af->M (List PV)):af->M (List PV):=λenv=>(fs env).bind o
def Cd{r:List V->Hp->VK->Prop}{o:List PV->M (List PV)}{id:String}(hc:du X (.builtin id) r)(hv:HW E r o)(hg:Gl X x)(hm:X.mg x=none)(hx:bootBuiltins x=some (.builtin id))(ha:PA X (e::es) (tL E fs))(hn:autoParam (x ≠ "__name__") aD._auto_1)(QZ:autoParam ↑7 aD._auto_1)(he:autoParam ↑0 aR._auto_1)(QG:autoParam ↑2 aR._auto_1):PE X (.Call (.Name x p) (e::es) [] pos) (tO E (jD o fs)) :=
 (me hc hg hm hx ha hn QZ he QG).imp fun σ H Q q=>cP (K:=KO Q) KO.gr q λB H₀ Hs H1 env p v sr rp hp=>hv σ Hs H1 p v Q sr.gr.sub rp hp
end
def Jb(K:UU)(n:Nat)(t:ER):TG:=λv σ H Q=>∃a xs,v=.ref a/\g9 K H a xs/\xs.length=n/\t xs σ H Q
def Ir{pos:Pos}{t:ER}(hc:X.calm=true)(h:LP X es t)(hn:autoParam ((assignEach es X.env).length=n) aR._auto_1)(QO:autoParam ((assignEach es X.env).findIdx? (·.1)=none) aR._auto_1):PG X (.Tuple es k pos) (Jb X.K n t):=by
 intro Qg s σ H v u Q I r hw;obtain⟨a,xs,e1,hq,hl,hw⟩:=hw;subst e1;cases r;obtain⟨Qo,rv,ht,hz⟩:=I.list hq;rw[assign_Tuple];refine TR (Zl ?_);unfold unpack;rw[show (assignEach es X.env).length=Qo.toArray.size by simp[hn,<- hl,rv.length],QO];refine TR (Wx (PySem.W.kun_itemsOf (I.ok.hd hc) ht.isList λh' hx=>?_));have I1:Inv X Qg σ H { s with heap:=h' }:=I.kept (t':=s.toks) λb o e=>hx b o (Vh (U3 e)) e;exact h Qg _ σ H xs _ Q I1 (by simpa using rv) hw
def t8:List Nat->ER
 | []=>jY
 |i::is=>bK (aM i) (t8 is)
noncomputable def qH:List Nat->List PV->af->af
 | i::is,p::ps,env=>qH is ps (env.set i (some (.sh p)))
 |_,_,env=>env
noncomputable def E4(is:List Nat):PV->af->M af
 | .lst ps,env=>cQ (ps.length=is.length) (M.ok (qH is ps env))
 |_,_=>none
theorem sF{B H₀ Hs H:Hp}{Q:St->Hp->Prop}:∀{is:List Nat}{ps:List PV}{vs:List V}{σ:St}{env:af},SR B H₀ Hs H σ env->aL Hs ps vs->ps.length=is.length->(∀σ',SR B H₀ Hs H σ' (qH is ps env)->Q σ' H)->t8 is vs σ H Q
 | [],_,_,σ,_,sr,.nil,_,h=>⟨rfl,h σ sr⟩
 |i::is,_,_,σ,_,sr,.cons rp r,hl,h=>⟨_,_,rfl,sF (is:=is) (sr.set rp) r (by simpa using hl) h⟩
def Jg{E:XK}{K:UU}{is:List Nat}:AY E (Jb K is.length (t8 is)) (E4 is):=by
 intro B H₀ Hs H σ env p v Q Z sr r h;cases r with
 | @lst a xs vs ha hx =>
  obtain⟨hl,h⟩:=ao.cQ h;exact⟨a,vs,rfl,g9.of (sr.gr.sub _ _ ha),by rwa[<- hx.length],sF sr hx hl h⟩
 |_=>exact h.elim
section
variable{E:XK}{pos apos Qu:Pos}
def Ka(i:Nat):af->M Out:=λenv=>(ownAt i env).bind λ_=>M.ok (.nx (env.set i (some (.ow []))))
def J1(hi:X.N[i]?=some x)(hv:xh X.env.scope x)(hd:autoParam ↑7 aD._auto_1)(QP:autoParam ↑6 aD._auto_1)(Rb:autoParam (attributeBase (.Name x px) "clear" X.env (eval (.Name x px) X.env)=eval (.Name x px) X.env) aR._auto_1)(Rf:autoParam ((apos.endLine==Qu.line)=true) aR._auto_1)(hs:autoParam (swapsWith (.Call (.Attribute (.Name x px) "clear" apos) [] [] Qu) none pos.line X.env=pure false) aR._auto_1):PS X (.Expr (.Call (.Attribute (.Name x px) "clear" apos) [] [] Qu) pos) (tS E (Ka i)):=by
 refine(lO (Kg YM PySem.F.slot_list_clear PySem.F.type_list_clear BV (gN hi hv hd QP) Rb Rf) hs).imp λD σ H q=>?_;obtain⟨B,H₀,Hs,env,sr,q⟩:=q;obtain⟨xs,ex,hp⟩:=ao.own (ao.bind q);obtain⟨a,vs,h1,h2,h3,h4,h5⟩:=sr.ow i xs ex;exact⟨.ref a,h1,.inl ⟨rfl,vs,g9.of h2⟩,a,vs,rfl,rfl,h2,hp σ Hs _ (sr.put ex h1 .nil)⟩
end
noncomputable def CZ(n:Nat)(sem:List PV->M (List PV))(ps:List PV):M (List PV):=cQ (ps.length=n) (sem ps)
structure LD (P:Program) (w:World) (K:UU) (mg:Str->Option Value) (base:Heap) (n:Nat) (x:Str) (m:Nat) (sem:List PV->M (List PV)):Prop where
 ex:∃(f:Addr)(fd:FuncData)(ps:List Str),mg x=some (.ref f)/\V4 K (.ref f)=true/\ps.length=m/\Binds K fd ps []/\aV P w K mg base (bQ P w) n f fd ps (NK m sem)
def LD.y_{m:Nat}{sem:List PV->M (List PV)}{fs:af->M (List PV)}{p pos:Pos}(F:LD X.prog X.w X.K X.mg X.base n x m sem)(hr:bO k X.A)(hn:n<=k)(hg:Gl X x)(O:eg X E)(ha:PA X (e::es) (tL E fs))(QZ:autoParam ↑7 aD._auto_1)(he:autoParam ↑0 aR._auto_1)(QG:autoParam ↑2 aR._auto_1):PE X (.Call (.Name x p) (e::es) [] pos) (tO E (jD (CZ m sem) fs)):=by
 obtain⟨f,fd,ps,h1,h2,h3,h4,h5⟩:=F.ex;refine(wx h5 (hr.mono hn) hg h1 h2 h4 .nil O ha QZ he QG).imp fun σ H Q q=>cP (K:=KO Q) KO.gr q λB H₀ Hs H1 env RH v sr rp hp=>?_;obtain⟨hl,hp⟩:=ao.cQ hp;rw[VT];exact⟨by rwa[<- rp.length],Hs,RH,sr.gr.sub,rp,hp⟩
def bp.okN{K:UU}{qual:Str}{st:Stmt}{dv:Value}{f:Addr}{g:af->M (List PV)}(F:bp K x qual st dv f fd)(S:bS N ps (aT st))(hb:∀(Qy:Value)(A:Around)(outer:List Env)(s:Shared)(H:Hp)(E:XK),bO k (A.deeper (envOfC qual (aT st) s.heap.objs.size f Qy))->eg ((jK (bQ P w) P w K mg base N qual (aT st) f Qy A outer s H E).out λ_=>E) (λ_=>E)->jE ((jK (bQ P w) P w K mg base N qual (aT st) f Qy A outer s H E).out λ_=>E) (dO st) (tR E g)):aV P w K mg base (bQ P w) (k+1) f fd ps (NK ps.length λps=>g (gU N.length ps)):=by
 obtain⟨oc,od,kV,doc,pm,an,Qy,ct,Ss,rfl,lk,QP⟩:=F.ex;exact GJ lk QP S λA outer s H E hr=>hb Qy A outer s H E hr (yV rfl rfl)
variable{α β:Type}
variable{x0:Option SV}
variable{j:Int}
variable{body:af->M Out}
section
open PySem.SeqAt (shaped noMix noMixAll)
def M.aO(a:α)(f:α->M β):M.bind (M.ok a) f=f a:=Vz rfl rfl
def M.DB(e:EX)(f:α->M β):M.bind (some (Except.error e)) f=some (.error e):=Vz rfl rfl
def M.bind_none(f:α->M β):M.bind none f=none:=Vz rfl rfl
def M.bind_some(a:α)(f:α->M β):M.bind (some (Except.ok a)) f=f a:=Vz rfl rfl
def M.bind_assoc{γ:Type}(x:M α)(f:α->M β)(g:β->M γ):M.bind (M.bind x f) g=M.bind x λa=>M.bind (f a) g:=by
 cases x with
 | none=>rfl
 |some x=>cases x<;>rfl
def aq{c:Prop}[Decidable c]{x:M α}(h:c):cQ c x=x:=if_pos h
def JQ(a:α):BB (M.ok a)=M.ok a:=Vz rfl rfl
def zR(x:PV):fW (some x)=M.ok x:=Vz rfl rfl
def vU(g:af->M Out)(env:af):De g (.nx env)=g env:=Vz rfl rfl
def v9(g:af->M Out)(p:PV):De g (.rt p)=M.ok (.rt p):=Vz rfl rfl
def G5(b:Bool):xn (.bl b)=M.ok b:=Vz rfl rfl
def G_(p:PV):Kr (.rt p)=M.ok p:=Vz rfl rfl
def Fh(e:af):Kr (.nx e)=M.ok .c8:=Vz rfl rfl
def tI(xs:List Int):PV:=.tup (xs.map PV.int)
def lI(xs:List Int):PV:=.lst (xs.map PV.int)
def GZ(xs:List Int):bY (tI xs)=some (xs.map PV.int):=Vz rfl rfl
def He(xs:List Int):bY (lI xs)=some (xs.map PV.int):=Vz rfl rfl
def DM(xs:List PV):bY (.tup xs)=some xs:=Vz rfl rfl
def vI(xs:List PV):bY (.lst xs)=some xs:=Vz rfl rfl
def Bw(xs:List PV):bY (.jN xs)=some xs:=Vz rfl rfl
def Gy(xs:List Int):tZ (tI xs)=M.ok (.int xs.length):=by simp[tZ,tI,bY,fW]
def Gb(xs:List Int):tZ (lI xs)=M.ok (.int xs.length):=by simp[tZ,lI,bY,fW]
def Dv(xs:List PV):tZ (.tup xs)=M.ok (.int xs.length):=Vz rfl rfl
def Dh(xs:List PV):tZ (.lst xs)=M.ok (.int xs.length):=Vz rfl rfl
def Ez(xs:List PV):tZ (.jN xs)=M.ok (.int xs.length):=Vz rfl rfl
def vB(xs:List Bool):vq [.lst (xs.map PV.bl)]=M.ok (.bl (xs.all id)):=by simp[vq,all1,vJ,fW]
def eM{inj h:α->PV}{rest:af}(xs:List α)(H:∀a∈xs,f (some (.sh (inj a))::rest)=M.ok (h a)):bC (bA 0) none f (xs.map inj) (x0::rest)=M.ok (xs.map h):=by
 induction xs generalizing x0 with
 | nil=>rfl
 | cons a r ih =>
  rw[Vg,bC];show M.bind (M.ok ((x0::rest).set 0 (some (.sh (inj a))))) _=_;rw[M.aO,Xx];show M.bind (f _) _=_;rw[H a VA,M.aO,ih λb hb=>H b (Vm _ hb)];rfl
def jQ{p q h:α->PV}{rest:af}{x1:Option SV}(xs:List α)(H:∀a∈xs,f (some (.sh (p a))::some (.sh (q a))::rest)=M.ok (h a)):bC (dj 0 1) none f (xs.map λa=>.tup [p a,q a]) (x0::x1::rest)=M.ok (xs.map h):=by
 induction xs generalizing x0 x1 with
 | nil=>rfl
 | cons a r ih =>
  rw[Vg,bC];show M.bind (M.ok (((x0::x1::rest).set 0 (some (.sh (p a)))).set 1 (some (.sh (q a))))) _=_;rw[M.aO,Xx,YH,Xx];show M.bind (f _) _=_;rw[H a VA,M.aO,ih λb hb=>H b (Vm _ hb)];rfl
def Ih{p q s h:α->PV}{rest:af}{x1 x2:Option SV}(xs:List α)(H:∀a∈xs,f (some (.sh (p a))::some (.sh (q a))::some (.sh (s a))::rest)=M.ok (h a)):bC (nG 0 1 2) none f (xs.map λa=>.tup [p a,q a,s a]) (x0::x1::x2::rest)=M.ok (xs.map h):=by
 induction xs generalizing x0 x1 x2 with
 | nil=>rfl
 | cons a r ih =>
  rw[Vg,bC];show M.bind (M.ok ((((x0::x1::x2::rest).set 0 (some (.sh (p a)))).set 1 (some (.sh (q a)))).set 2 (some (.sh (s a))))) _=_;rw[M.aO,Xx,YH,Xx,YH,YH,Xx];show M.bind (f _) _=_;rw[H a VA,M.aO,ih λb hb=>H b (Vm _ hb)];rfl
def jM{f:α->PV}{g:β->PV}{q:PV}(xs:List α)(ys:List β)(hp:bY p=some (xs.map f))(hq:bY q=some (ys.map g)):zip2 [p,q]=M.ok ((xs.zip ys).map λz=>.tup [f z.1,g z.2]):=by
 simp only[zip2,hp,hq];congr 2;rw[List.zipWith_map,List.zip_eq_zipWith,List.map_zipWith]
def vv{γ:Type}{f:α->PV}{g:β->PV}{h:γ->PV}{q r:PV}(xs:List α)(ys:List β)(zs:List γ)(hp:bY p=some (xs.map f))(hq:bY q=some (ys.map g))(hr:bY r=some (zs.map h)):w4 [p,q,r]=M.ok ((xs.zip (ys.zip zs)).map λz=>.tup [f z.1,g z.2.1,h z.2.2]):=by
 simp only[w4,hp,hq,hr];congr 2;clear hp hq hr
 induction xs generalizing ys zs with
 | nil=>cases ys<;>cases zs<;>rfl
 | cons a r ih =>
  cases ys with
  | nil=>rfl
  | cons b s =>
   cases zs with
   | nil=>rfl
   |cons c t=>simp only[Vg,jA,Xw,ih]
def AO{f:α->PV}(xs:List α):hX (xs.map f)=(xs.zipIdx).map λz=>.tup [.int (z.2:Int),f z.1]:=by
 unfold hX;rw[List.mapIdx_eq_zipIdx_map,List.zipIdx_map,VB];rfl
theorem pM{set:PV->af->M af}{body:af->M Out}{α:Type}{inj:α->PV}(J:List α->af->Prop)(H:∀a r env,J (a::r) env->∃e' Qj,set (inj a) env=M.ok e'/\body e'=M.ok (.nx Qj)/\J r Qj):∀(xs:List α)(env:af),J xs env->∃Qj,jW set body (xs.map inj) env=M.ok (.nx Qj)/\J [] Qj
 | [],env,h=>⟨env,rfl,h⟩
 | a::r,env,h=>by
  obtain⟨e',Qj,h1,h2,h3⟩:=H a r env h;obtain⟨SH,h4,h5⟩:=pM J H r Qj h3;refine⟨SH,?_,h5⟩;rwa[Vg,jW,h1,M.aO,h2,M.aO]
theorem mO{u:af->M Bool}{b:af->M Out}(J:af->Prop)(m:af->Nat)(H:∀env,J env->(u env=M.ok false)\/(u env=M.ok true/\∃Qj,b env=M.ok (.nx Qj)/\J Qj/\m Qj<m env))(env:af)(h:J env):∃Qj,ji u b env=M.ok (.nx Qj)/\J Qj/\u Qj=M.ok false:=by
 have key:∀(n:Nat)(env:af),J env->m env<n->∃Qj,cO u b n env=M.ok (.nx Qj)/\J Qj/\u Qj=M.ok false:=by
  intro n
  induction n with
  | zero=>intro env _ hn;lia
  | succ n ih =>
   intro env h hn;rcases H env h with hu|⟨hu,Qj,hb,hj,hm⟩
   .exact⟨env,by rw[cO,hu,M.aO];rfl,h,hu⟩
   .obtain⟨SH,h1,h2,h3⟩:=ih Qj hj ⋯;exact⟨SH,by rwa[cO,hu,M.aO,if_pos rfl,hb,M.aO],h2,h3⟩
 obtain⟨Qj,h1,h2,h3⟩:=key (m env+1) env h (WZ _);refine⟨Qj,?_,h2,h3⟩;rw[zJ (n:=m env+1) (by rw[h1];exact λz=>nomatch z),h1]
theorem log2_small{i:Int}(h:i.natAbs<2^k)(hk:k<=9000):i.natAbs.log2<67108864:=by
 by_cases z:i.natAbs=0
 .rw[z];decide
 .have:=(Zu z).mpr h;lia
def bI{i:Int}{l:Nat}(hi:i.natAbs<2^k)(hj:j.natAbs<2^l)(hk:autoParam (k<=9000) aD._auto_1)(hl:autoParam (l<=9000) aD._auto_1):cA (.int i) (.int j)=M.ok (.int (i*j)):=by
 rw[cA,aq ⟨log2_small hi hk,log2_small hj hl⟩]
theorem sO{i:Int}(h0:j≠0)(h:j.natAbs<2^9000):cG (.int i) (.int j)=M.ok (.int (i.fdiv j)):=by
 show cQ _ _=_;refine aq (decide_eq_true ⟨h0,(Zu ⋯).mpr h⟩)
def DK{i:Int}(h0:j≠0):cD (.int i) (.int j)=M.ok (.int (i.fmod j)):=by
 show cQ _ _=_;exact aq (decide_eq_true h0)
theorem bo{i:Int}(h0:0<j)(h:j<2^64):cG (.int i) (.int j)=M.ok (.int (i/j)):=by
 rw[sO ⋯ (U8 (show j.natAbs<2^64 by lia) (WL ↑12 ↑12)),Yj _ ⋯]
theorem aA{i:Int}(h0:0<j):cD (.int i) (.int j)=M.ok (.int (i%j)):=by
 rw[DK ⋯,Int.fmod_eq_emod_of_nonneg _ ⋯]
def bu{j:Nat}{x:PV}(hs:bY p=some xs)(h:xs[j]?=some x):aJ p (.int (j:Int))=M.ok x:=by
 cases p with
 | tup ys=>cases hs;simp only[aJ,ug h,fW]
 | lst ys=>cases hs;simp only[aJ,ug h,fW]
 | jN ys=>cases hs;simp only[aJ,ug h,fW]
 |_=>cases hs
section
variable{b:String->Bool}{ob oe:Addr->Option Bool}
def JR(xs:List Int):Bj b ob oe (tI xs)=M.ok (.bl (b "tuple")):=Vz rfl rfl
def I_(xs:List Int):Bj b ob oe (lI xs)=M.ok (.bl (b "list")):=Vz rfl rfl
def GG(xs:List PV):Bj b ob oe (.tup xs)=M.ok (.bl (b "tuple")):=Vz rfl rfl
def Gi(xs:List PV):Bj b ob oe (.lst xs)=M.ok (.bl (b "list")):=Vz rfl rfl
def Fp(i:Int):Bj b ob oe (.int i)=M.ok (.bl (b "int")):=Vz rfl rfl
def K3(i:Bool):Bj b ob oe (.bl i)=M.ok (.bl (b "bool")):=Vz rfl rfl
def Gg:Bj b ob oe .c8=M.ok (.bl (b "NoneType")):=Vz rfl rfl
def FP(x:Str):Bj b ob oe (.str x)=M.ok (.bl (b "str")):=Vz rfl rfl
def EZ:Bj b ob oe .emp=M.ok (.bl (b "dict")):=Vz rfl rfl
end
def F8(i j:Int):vg (.int i) (.int j)=M.ok (.bl (!decide (i=j))):=by
 simp only[vg,o8,dat,HY,shaped,XX,Yr,noMix];rw[aq ⟨rfl,rfl,trivial⟩];unfold same;rw[M.aO];congr
def FE(i j:Int):uN (.int i) (.int j)=M.ok (.bl (decide (i=j))):=by
 simp only[uN,o8,dat,HY,shaped,XX,Yr,noMix];rw[aq ⟨rfl,rfl,trivial⟩];unfold same;rw[M.aO];congr
def Ll(i j:Bool):vg (.bl i) (.bl j)=M.ok (.bl (!decide (i=j))):=by
 simp only[vg,o8,dat,HY,shaped,XX,Yr,noMix];rw[aq ⟨rfl,rfl,trivial⟩];unfold same;rw[M.aO];congr
def IV(i j:Bool):uN (.bl i) (.bl j)=M.ok (.bl (decide (i=j))):=by
 simp only[uN,o8,dat,HY,shaped,XX,Yr,noMix];rw[aq ⟨rfl,rfl,trivial⟩];unfold same;rw[M.aO];congr
def AL(xs:List Int):mH (xs.map PV.int)=some (xs.map W2):=by
 induction xs with
 | nil=>rfl
 |cons a r ih=>simp[mH,dat,ih]
def vY(xs:List Int):Y3 (xs.map W2)=true:=by
 induction xs with
 | nil=>rfl
 |cons a r ih=>simp[Y3,XX,ih]
def xY(xs:List Int):ZF (xs.map W2)=0:=by
 induction xs with
 | nil=>rfl
 |cons a r ih=>simp[ZF,Yr,ih]
theorem noMix_ints:∀(xs ys:List Int),noMixAll (xs.map W2) (ys.map W2)=true
 | [],[]=>by simp[noMixAll]
 | [],_::_=>by simp[noMixAll]
 | _::_,[]=>by simp[noMixAll]
 |a::r,b::s=>by simp[noMixAll,noMix,noMix_ints r s]
theorem same_ints:∀(xs ys:List Int),sameAll (xs.map W2) (ys.map W2)=decide (xs=ys)
 | [],[]=>by simp[sameAll]
 | [],_::_=>by simp[sameAll]
 | _::_,[]=>by simp[sameAll]
 | a::r,b::s=>by
  simp only[Vg,sameAll,same_ints r s];unfold same;rw[ZA];simp
def zW(xs:List (List Int)):mH (xs.map tI)=some (xs.map λr=>.tuple (r.map W2)):=by
 induction xs with
 | nil=>rfl
 |cons a r ih=>simp[mH,dat,tI,AL] at ih ⊢;simp[ih]
def we(xs:List (List Int)):Y3 (xs.map λr=>.tuple (r.map W2))=true:=by
 induction xs with
 | nil=>rfl
 |cons a r ih=>simp[Y3,XX,ih,vY]
def qi(xs:List (List Int)):ZF (xs.map λr=>.tuple (r.map W2))<=1:=by
 induction xs with
 | nil=>exact Va _
 |cons a r ih=>simp[ZF,Yr,xY,ih]
theorem qQ:∀(xs ys:List (List Int)),noMixAll (xs.map λr=>.tuple (r.map W2)) (ys.map λr=>.tuple (r.map W2))=true
 | [],[]=>by simp[noMixAll]
 | [],_::_=>by simp[noMixAll]
 | _::_,[]=>by simp[noMixAll]
 |a::r,b::s=>by simp[noMixAll,noMix,noMix_ints,qQ r s]
theorem sC:∀(xs ys:List (List Int)),sameAll (xs.map λr=>.tuple (r.map W2)) (ys.map λr=>.tuple (r.map W2))=decide (xs=ys)
 | [],[]=>by simp[sameAll]
 | [],_::_=>by simp[sameAll]
 | _::_,[]=>by simp[sameAll]
 | a::r,b::s=>by
  simp only[Vg,sameAll,sC r s];unfold same;rw[same_ints,ZA];simp
def E3(i j:Int):FW (.int i) (.int j)=M.ok (.bl (decide (i<j))):=Vz rfl rfl
def GF(i j:Int):Fm (.int i) (.int j)=M.ok (.bl (decide (i<=j))):=Vz rfl rfl
def Fe(i j:Int):BN (.int i) (.int j)=M.ok (.bl (decide (j<i))):=Vz rfl rfl
def FO(i j:Int):LM (.int i) (.int j)=M.ok (.bl (decide (j<=i))):=Vz rfl rfl
def Cg(i j:Int):bU (.int i) (.int j)=M.ok (.int (i+j)):=Vz rfl rfl
def Dp(i j:Int):i8 (.int i) (.int j)=M.ok (.int (i-j)):=Vz rfl rfl
theorem dz{n:Int}(h:0<=n)(h2:n<2^62):jq [.int n]=M.ok ((Vc n.toNat).map λ(i:Nat)=>.int (i:Int)):=by
 show cQ (-(2^62)<=n/\n<2^62) _=_;rw[aq ⋯];simp
def dY{set:PV->af->M af}{inj:α->PV}{k:Out->M β}{r:M β}(xs:List α)(J:List α->af->Prop){env:af}(h:J xs env)(H:∀a r env,J (a::r) env->∃e' Qj,set (inj a) env=M.ok e'/\body e'=M.ok (.nx Qj)/\J r Qj)(hk:∀Qj,J [] Qj->k (.nx Qj)=r):M.bind (jW set body (xs.map inj) env) k=r:=by
 obtain⟨Qj,e,h'⟩:=pM J H xs env h;rw[e,M.aO];exact hk Qj h'
def aX(h:n<=1000):n<=sizeLine:=Xg (kG h)
def tupK(ps:List PV):M PV:=cQ (ps.length<=sizeLine) (M.ok (.tup ps))
def lstK(ps:List PV):M PV:=cQ (ps.length<=sizeLine) (M.ok (.lst ps))
def Fc(fs:af->M (List PV))(env:af):kN fs env=(fs env).bind tupK:=rfl
def Fl(fs:af->M (List PV))(env:af):e_ fs env=(fs env).bind lstK:=rfl
def Kd:tupK []=M.ok (.tup []):=aq (aX (show 0<=1000 by decide))
def Il:lstK []=M.ok (.lst []):=aq (aX (show 0<=1000 by decide))
def K2(a:PV):tupK [a]=M.ok (.tup [a]):=aq (aX (show 1<=1000 by decide))
def IY(a:PV):lstK [a]=M.ok (.lst [a]):=aq (aX (show 1<=1000 by decide))
def JB(a b:PV):tupK [a,b]=M.ok (.tup [a,b]):=aq (aX (show 2<=1000 by decide))
def IE(a b:PV):lstK [a,b]=M.ok (.lst [a,b]):=aq (aX (show 2<=1000 by decide))
def KA(a b c:PV):tupK [a,b,c]=M.ok (.tup [a,b,c]):=aq (aX (show 3<=1000 by decide))
def Lb(a b c:PV):lstK [a,b,c]=M.ok (.lst [a,b,c]):=aq (aX (show 3<=1000 by decide))
def J4(a b c d:PV):tupK [a,b,c,d]=M.ok (.tup [a,b,c,d]):=aq (aX (show 4<=1000 by decide))
def JG(a b c d:PV):lstK [a,b,c,d]=M.ok (.lst [a,b,c,d]):=aq (aX (show 4<=1000 by decide))
def KP(a b c d e:PV):tupK [a,b,c,d,e]=M.ok (.tup [a,b,c,d,e]):=aq (aX (show 5<=1000 by decide))
def Lh(a b c d e:PV):lstK [a,b,c,d,e]=M.ok (.lst [a,b,c,d,e]):=aq (aX (show 5<=1000 by decide))
def Ku(a b c d e f:PV):tupK [a,b,c,d,e,f]=M.ok (.tup [a,b,c,d,e,f]):=aq (aX (show 6<=1000 by decide))
def Lf(a b c d e f:PV):lstK [a,b,c,d,e,f]=M.ok (.lst [a,b,c,d,e,f]):=aq (aX (show 6<=1000 by decide))
end
def kc(m:M α)(Q:α->Prop):Prop:=∃a,m=M.ok a/\Q a
section
variable{γ:Type}{Q Q':α->Prop}{m:M α}
def kc.eq{a:α}(h:kc m λx=>x=a):m=M.ok a:=by obtain⟨b,e,rfl⟩:=h;exact e
def Tn(J:af->Prop)(B:af->Prop)(R:PV->Prop):Out->Prop
 | .nx e=>J e
 | .ct e=>J e
 | .bk e=>B e
 |.rt p=>R p
theorem kc.DC{set:PV->af->M af}{body:af->M Out}{inj:γ->PV}{B:af->Prop}{R:PV->Prop}(J:List γ->af->Prop)(H:∀a r env,J (a::r) env->kc (M.bind (set (inj a) env) body) (Tn (J r) B R)):∀(xs:List γ)(env:af),J xs env->kc (jW set body (xs.map inj) env) λo=>(∃e,o=.nx e/\(J [] e\/B e))\/∃p,o=.rt p/\R p
 | [],env,h=>⟨_,rfl,.inl ⟨_,rfl,.inl h⟩⟩
 | a::r,env,h=>by
  obtain⟨o,e,q⟩:=H a r env h;rw[Vg,jW,<- M.bind_assoc,e,M.aO];cases o with
  | nx e'=>exact kc.DC J H r e' q
  | ct e'=>exact kc.DC J H r e' q
  | bk e'=>exact⟨_,rfl,.inl ⟨_,rfl,.inr q⟩⟩
  |rt p=>exact⟨_,rfl,.inr ⟨_,rfl,q⟩⟩
def kc.loop{R:β->Prop}{set:PV->af->M af}{inj:γ->PV}{k:Out->M β}{xs:List γ}{env:af}(J:List γ->af->Prop)(h:J xs env)(H:∀a r env,J (a::r) env->kc (M.bind (set (inj a) env) body) (Tn (J r) (λ_=>False) λ_=>False))(hk:∀Qj,J [] Qj->kc (k (.nx Qj)) R):kc (M.bind (jW set body (xs.map inj) env) k) R:=by
 obtain⟨o,e,q⟩:=kc.DC J H xs env h;rw[e,M.aO];rcases q with ⟨e',rfl,q|q⟩|⟨p,_,q⟩
 .exact hk e' q
 .exact q.elim
 .exact q.elim
end
noncomputable def C1(i:Nat)(env:af)(xs:List PV)(p:PV):M Out:=if xs.length<sizeLine then M.ok (.nx (env.set i (some (.ow (xs++[p]))))) else none
def je(i:Nat)(f:af->M PV)(env:af):j6 i f env=(ownAt i env).bind λxs=>(f env).bind λp=>C1 i env xs p:=by
 unfold j6 ownAt;rcases env[i]? with _|_|(_|_|_)<;>rfl
def jd{env:af}(h:xs.length<1000):C1 i env xs p=M.ok (.nx (env.set i (some (.ow (xs++[p]))))):=if_pos (kG (Xg h))
def yk(C:Addr)(m:Str)(sem:List PV->M PV)(p:PV)(x:M (List PV)):M PV:=match p with
 | .obj C' fl=>cQ (C'=C/\fl.lookup m=none) (x.bind λps=>sem (.obj C' fl::ps))
 |_=>none
def eT(C:Addr)(m:Str)(sem:List PV->M PV)(g:af->M PV)(fs:af->M (List PV))(env:af):cM C m sem g fs env=(g env).bind λp=>yk C m sem p (fs env):=rfl
variable{C:Addr}
def sk{m:Str}{fl:List (Str×PV)}{x:M (List PV)}(h:fl.lookup m=none):yk C m sem (.obj C fl) x=x.bind λps=>sem (.obj C fl::ps):=aq ⟨rfl,h⟩
noncomputable def D6(ok:Addr->Bool)(f:Str)(p:PV):M PV:=match p with
 | .obj C fs=>cQ (ok C=true) (fW (fs.lookup f))
 |_=>none
def oI(ok:Addr->Bool)(f:Str)(g:af->M PV)(env:af):iA ok f g env=(g env).bind (D6 ok f):=rfl
def qu{ok:Addr->Bool}{f:Str}{fs:List (Str×PV)}{x:PV}(h:ok C=true)(hl:fs.lookup f=some x):D6 ok f (.obj C fs)=M.ok x:=by
 show cQ _ _=_;rw[aq h,hl];rfl
def kq(xs:List Int)(x:Int):xs.map PV.int++[.int x]=(xs++[x]).map PV.int:=by simp
def uV{f:α->PV}(xs:List α)(h:bY p=some (xs.map f)):ET [p]=M.ok (xs.zipIdx.map λz=>.tup [.int (z.2:Int),f z.1]):=by
 show O6 p=_;unfold O6;rw[h];show M.ok (hX _)=_;rw[AO]
def JJ(xs:List Int):ET [lI xs]=M.ok (xs.zipIdx.map λz=>.tup [.int (z.2:Int),.int z.1]):=uV xs rfl
def oR{f:α->PV}(xs:List α):ET [.lst (xs.map f)]=M.ok (xs.zipIdx.map λz=>.tup [.int (z.2:Int),f z.1]):=uV xs rfl
def yy(f:af->M Out)(hs:List Hd)(env:af):FJ f hs env=xC (f env) λx=>iC hs x env:=rfl
def pO(x:EX)(k:EX->M Out):xC (some (.error x)) k=k x:=Vz rfl rfl
def ph(t:Addr->Option Bool)(o:Option Nat)(h:af->M Out)(r:List Hd)(x:EX)(env:af):iC ((t,o,h)::r) x env=rT (t x.1) (qx o h x env) (iC r x env):=Vz rfl rfl
def Ea(x y:M Out):rT (some true) x y=x:=Vz rfl rfl
def IZ(x y:M Out):rT (some false) x y=y:=Vz rfl rfl
def vE(h:af->M Out)(x:EX)(env:af):qx none h x env=BB (h env):=Vz rfl rfl
def PL{us:List α}(h:us.length=1):∃a,us=[a]:=by
 cases us with
 | nil=>cases h
 | cons a t=>cases t with
  | nil=>exact⟨a,rfl⟩
  |cons b t=>cases h
def ln2{us:List α}(h:us.length=2):∃a b,us=[a,b]:=by
 cases us with
 | nil=>cases h
 |cons a t=>obtain⟨b,rfl⟩:=PL (aaT h);exact⟨a,b,rfl⟩
def PY{us:List α}(h:us.length=3):∃a b c,us=[a,b,c]:=by
 cases us with
 | nil=>cases h
 |cons a t=>obtain⟨b,c,rfl⟩:=ln2 (aaT h);exact⟨a,b,c,rfl⟩
def yR(K:UU):Bool:=K.all λp=>match p.2.cls with
 | .type t=>t != "list"
 |_=>true
def EA{K:UU}(h:yR K=true){a:Addr}(e:K.lookup a=some o):o.cls≠.type "list" := by
 induction K with
 | nil=>cases e
 | cons p r ih =>
  obtain⟨b,u⟩:=p;rw[yR,aap,VR] at h;rw[Ws] at e;cases q:a==b with
  | true =>
   rw[q] at e;cases e;intro z;have h1:=h.1;simp only[z] at h1;exact absurd h1 ↑12
  |false=>rw[q] at e;exact ih h.2 e
theorem sZ{H:Hp}:∀ns:List Int,aL H (ns.map PV.int) (ns.map V.int)
 | []=>.nil
 |i::r=>.cons (.int i) (sZ r)
def xi{l:PySem.W.OpenLaw}{q:Program}{loose:List Str}{XP:(Str->Option Value)->Heap->Prop}{YP:World->Heap->Prop}{d:DefRec}{K:Params->UU}(hn:l.most=some n)(SE:n<=sizeLine)(hdf:d.params.defaults=[])(hr:bO k callerA)(hY:∀(w:World)(h:Heap),YP w h->(K w.params).In h)(hK:∀w:World,yR (K w.params)=true)(F:∀(w:World)(mg:Str->Option Value)(fa:Addr)(h:Heap),(K w.params).In h->h.Ns mainGlobals mg->mg d.name=some (.ref fa) ->∃ fd:FuncData,(∀(s:Shared)(u:Value),BindsTo s fd ⟨[u],[]⟩ [(x,u)]) ∧∀base:Heap,(K w.params).In base->base.Ns mainGlobals mg->aV l.prog w (K w.params) mg base (bQ l.prog w) k fa fd [x] (eh 1 sem))(TV:∀ns:List Int,ns.length<=n->(∀i∈ns,Wl i<=1048576)->sem [.jN (ns.map PV.int)]=M.ok (.bl true)):PySem.W.WalkO q loose XP YP l.row.toRowW d [] (λf vs=>PySem.call f vs):=by
 intro w s₀ s₁ mg mb G Y fa o pm cd doc dV kV ho hd QP hD hmg hg args vals as AQ hlay hrd hwl R8;obtain rfl:dV=.none:=PySem.W.Dflts.none hD hdf;obtain rfl:kV=.none:=PySem.W.Dflts.noKw hD;obtain⟨a,vs,ns,rfl,rfl,hobj,hints,hlen⟩:=Att.Ab hn AQ hwl;have Ul:∀i∈ns,Wl i<=1048576:=λi hi=>by
  have h1:=PySem.W.layableW_arg hlay _ (Vr.mpr rfl);have h2:=PySem.W.layableW_item h1 (.int i) (VI.mpr ⟨i,hi,rfl⟩);exact intBits_le_of_layable h2
 have KX:=hY w _ Y;obtain⟨fd,hb,hF⟩:=F w mg fa _ KX G.T.g hmg;have hs:=TV ns hlen Ul;refine PySem.W.enter_call (ZR (EL KX G.T.g G.T.b G.T.builtins G.T.nolimit hg hobj hints (VM hlen SE) hr hF hb (λH hO hS=>⟨rfl,H,[.jN (ns.map PV.int)],λ_ _ e=>e,?_,?_⟩) λH e s' z=>?_) λr s' hq=>?_)
 .rcases hS with (hS|⟨ob,hS⟩)|⟨ob,Qo,m,e1,e2,_⟩
  .rcases hO a with z|⟨ob,xs,z⟩
   .rw[z] at hS;cases hS
   .rw[z] at hS;cases hS
  .exact .cons (.jN hS (sZ ns)) .nil
  .exact absurd e2 (EA (hK w) e1)
 .rw[hs];intro v Ql H' g r;cases r;rfl
 .obtain⟨ea,T,C,dd,Hc,_,_,_,_,_,_,_,_,z⟩:=z;exact z
 .obtain⟨rfl,h2,h3,h4⟩:=hq;exact⟨.inl ⟨.bool true,.bool true,[],rfl,λ_=>rfl,.bool true,Att.zv l _,λ_=>⟨List.Pairwise.nil,λ_ hm=>(nomatch hm)⟩⟩,h2,h3,h4⟩
noncomputable abbrev yO(x q:Str)(t:Stmt)(s:Value)(c:Addr):FuncData:=Wb x q (g8 t) (dO t) (aT t) .none .none .none s none (.ref c) .none
def bp.of{K:UU}{q:Str}{t:Stmt}{dv kV doc pm:Value}{Qy ct:Value}{f:Addr}(h1:K.lookup f=some ⟨.type "function",none,.func (Wb x q (g8 t) (dO t) (aT t) dv kV doc pm an Qy ct),⟨[]⟩⟩)(h2:WN K Qy q=true)(h3:V4 K (.ref f)=true):bp K x q t dv f (Wb x q (g8 t) (dO t) (aT t) dv kV doc pm an Qy ct):=⟨⟨_,_,_,_,_,_,_,_,_,rfl,h1,h2⟩,h3⟩
section
variable{P:List α->Prop}
def M5(h:∀a b,P [a,b]):∀us,us.length=2->P us:=λus hl=>by obtain⟨a,b,rfl⟩:=ln2 hl;exact h a b
end
def bS.of{P:List Str}{sc:Scope}(h1:autoParam (sc.kind=.function) aR._auto_1)(h2:autoParam (sc.isCoroutine=false) aR._auto_1)(h3:autoParam (sc.isGenerator=false) aR._auto_1)(h4:autoParam (N.Nodup) aN._auto_1)(h5:autoParam (N.take P.length=P) aR._auto_1)(h6:autoParam (∀x∈P,sc.names.lookup x=some .local\/sc.names.lookup x=some .cell) aN._auto_1)(h7:autoParam (∀y∈sc.names,y.2≠.free) aN._auto_1):bS N P sc:=⟨h1,h2,h3,h4,h5,h6,h7⟩
def aQ{pos:Pos}(hN:X.N.Nodup)(hi:autoParam (X.N[i]?=some x) aR._auto_1)(hx:autoParam (Loc X.env.scope x) aG._auto_1)(hf:autoParam ↑1 aG._auto_1):PG X (.Name x pos) (aM i):=GP hN hi hx hf
def FF:Nat->(List Value->Prop)->Prop
 | 0,P=>P []
 |n+1,P=>∀a,FF n λl=>P (a::l)
theorem tX:∀{n:Nat}{P:List Value->Prop},FF n P->∀us:List Value,us.length=n->P us
 | 0,_,h,[],_=>h
 |n+1,_,h,a::r,e=>tX (h a) r (aaT e)
section
variable{K:UU}{h:Heap}{q:Str}{t:Stmt}{m:Nat}{tO:List PV->M (List PV)}
def jy(P:Program)(w:World)(base:Heap)(X:K.In h)(G:h.Ns mainGlobals mg)(a c:Addr)(s:Value)(ok:bp K x q t .none a (yO x q t s c)->aV P w K mg base (bQ P w) n a (yO x q t s c) ps (eh m (bB m sem)))(h1:autoParam (K.lookup a=some ⟨.type "function",none,.func (yO x q t s c),⟨[]⟩⟩) aK._auto_1)(h2:autoParam (WN K (.ref c) q=true) aK._auto_1)(h3:autoParam (V4 K (.ref a)=true) aK._auto_1)(h4:autoParam (aaL K mainGlobals x=some (some (.ref a))) aK._auto_1)(h5:autoParam (ps.length=m) aR._auto_1)(h6:FF ps.length λus=>bindArgs (yO x q t s c) ⟨us,[]⟩=pure (ps.zip us):=by (repeat intro _);rfl):dR P w K mg base n x m sem :=
 ⟨⟨a,_,ps,acW X G h4,h3,h5,.all (tX h6),ok (.of h1 h2 h3)⟩⟩
def Ik(P:Program)(w:World)(base:Heap)(cc:mF K C)(a c:Addr)(s:Value)(ok:bp K x q t .none a (yO x q t s c)->aV P w K mg base (bQ P w) n a (yO x q t s c) ps (eh m (bB m sem)))(h1:autoParam (K.lookup a=some ⟨.type "function",none,.func (yO x q t s c),⟨[]⟩⟩) aK._auto_1)(h2:autoParam (WN K (.ref c) q=true) aK._auto_1)(h3:autoParam (V4 K (.ref a)=true) aK._auto_1)(h4:autoParam (VY K (.ref C) x=some (some (.ref a))) aK._auto_1)(h5:autoParam (Yn K (.ref a)=true) aK._auto_1)(h6:FF ps.length λus=>bindArgs (yO x q t s c) ⟨us,[]⟩=pure (ps.zip us):=by (repeat intro _);rfl):q_ P w K mg base C n x m sem :=
 ⟨⟨a,_,ps,cc,⟨h4,h5,h3⟩,.all (tX h6),ok (.of h1 h2 h3)⟩⟩
end
def bp.gS{K:UU}{qual:Str}{st:Stmt}{dv:Value}{f:Addr}{g:af->M Out}(F:bp K x qual st dv f fd)(N:List Str)(hb:N.Nodup->∀(Qy:Value)(A:Around)(outer:List Env)(s:Shared)(H:Hp)(E:XK),bO k (A.deeper (envOfC qual (aT st) s.heap.objs.size f Qy))->eg ((jK (bQ P w) P w K mg base N qual (aT st) f Qy A outer s H E).out λ_=>E) (λ_=>E)->jE ((jK (bQ P w) P w K mg base N qual (aT st) f Qy A outer s H E).out λ_=>E) (dO st) (tS E g))(S:bS N ps (aT st):=by exact .of):aV P w K mg base (bQ P w) (k+1) f fd ps (eh ps.length (bB ps.length (aH N.length g))):=F.PR S (hb S.nd)
end L2
namespace wV
open PySem L2 PyProof.Rows
def fQ:Addr:=65
def e8:Addr:=91
def dZ:Addr:=117
def bW:Addr:=136
def aB:Addr:=419
def cn:Addr:=155
def aE:Addr:=239
def eG:List Addr:=[bW]
noncomputable def eR:List Addr:=[fQ,e8,dZ,cn]
def iZ:List Addr:=[cn]
noncomputable def jc:List Addr:=[fQ,e8,dZ,bW]
abbrev cI(i:Int):af->M PV:=λ_=>M.ok (.int i)
def i7:af->M Out :=
 (ak (retS (G4 (Ei (λa=>oo a "int") rC rC (ae 0)) (Lr (Ei (λa=>oo a "bool") rC rC (ae 0)))))
 ar)
def dQ:List PV->M PV:=bB 1 (aH 1 i7)
def jZ:af->M Out :=
 (ak (mM (LH (om (fL (Ei (λa=>["list","tuple"].any λt=>oo a t) rC rC (ae 0)))) (fL (ai vg (ah f_ (aa (ae 0) aj)) (ae 1)))) (ak (retS (λ_=>M.ok (.bl false)))
 ar) ar)
 (ak (retS (ah vq (aa (b_ (cm (itemsOf (ae 0)) (bA 0) none (ah dQ (aa (ae 0) aj)) 1 [])) aj)))
 ar))
def fN:List PV->M PV:=bB 2 (aH 2 jZ)
def jU:af->M Out :=
 (ak (ba 2 (kN (aa (ae 0) (aa (cI 1) (aa (cI 0) aj)))))
 (ak (ba 3 (kN (aa (ae 1) (aa (cI 0) (aa (cI 1) aj)))))
 (ak (ji (fL (ai vg (ai aJ (ae 3) (cI 0)) (cI 0))) (ak (ba 4 (ai cG (ai aJ (ae 2) (cI 0)) (ai aJ (ae 3) (cI 0))))
 (ak (ba 5 (kN (aa (ai i8 (ai aJ (ae 2) (cI 0)) (ai cA (ae 4) (ai aJ (ae 3) (cI 0)))) (aa (ai i8 (ai aJ (ae 2) (cI 1)) (ai cA (ae 4) (ai aJ (ae 3) (cI 1)))) (aa (ai i8 (ai aJ (ae 2) (cI 2)) (ai cA (ae 4) (ai aJ (ae 3) (cI 2)))) aj)))))
 (ak (ba 2 (ae 3))
 (ak (ba 3 (ae 5))
 ar)))))
 (ak (mM (fL (ai FW (ai aJ (ae 2) (cI 0)) (cI 0))) (ak (retS (kN (aa (k8 (ai aJ (ae 2) (cI 0))) (aa (k8 (ai aJ (ae 2) (cI 1))) (aa (k8 (ai aJ (ae 2) (cI 2))) aj)))))
 ar) ar)
 (ak (retS (ae 2))
 ar)))))
def fX:List PV->M PV:=bB 2 (aH 6 jU)
def fK:af->M Out :=
 (ak (ba 1 (cI 1))
 (ak (gT (itemsOf (ae 0)) (bA 2) (ak (ba 1 (ai cA (ai cG (ae 1) (ai aJ (ah fX (aa (ae 1) (aa (ae 2) aj))) (cI 0))) (ae 2)))
 ar))
 (ak (retS (ae 1))
 ar)))
def fx:List PV->M PV:=bB 1 (aH 3 fK)
def gu:af->M Out :=
 (ak (ba 1 (cI 1))
 (ak (gT (itemsOf (ae 0)) (bA 2) (ak (ba 1 (ai cA (ae 1) (ae 2)))
 ar))
 (ak (retS (ae 1))
 ar)))
def gG:List PV->M PV:=bB 1 (aH 3 gu)
def iQ:af->M Out :=
 (ak (retS (ah cC (aa (b_ (cm (jR jq (aa (ae 0) aj)) (bA 0) none (AN (fL (ai uN (ae 0) (ae 1))) (cI 1) (cI 0)) 1 [1])) aj)))
 ar)
def jx:List PV->M PV:=bB 2 (aH 2 iQ)
def fM:af->M Out :=
 (ak (retS (G4 (ah dQ (aa (ae 0) aj)) (lH Fm Fm (ae 1) (ae 0) (ae 2))))
 ar)
def fV:List PV->M PV:=bB 3 (aH 3 fM)
def gj:af->M Out :=
 (ak (mM (fL (ai BN (ah f_ (aa (ae 0) aj)) (cI 6))) (ak (iR cn (aa (λ_=>M.ok (.str "a vault has at most six dials")) aj))
 ar) ar)
 (ak (mM (fL (ai uN (ah f_ (aa (ae 0) aj)) (cI 0))) (ak (jV fQ "dial" (aa (cI 0) aj))
 ar) ar)
 (ak (gT (jR ET (aa (ae 0) aj)) (dj 1 2) (ak (mM (om (fL (ah fV (aa (ae 2) (aa (cI 2) (aa (cI 360) aj)))))) (ak (jV fQ "dial" (aa (ae 1) aj))
 ar) ar)
 ar))
 ar)))
def gm:List PV->M PV:=bB 1 (aH 3 gj)
def fg:af->M Out :=
 (ak (mM (fL (ai BN (ah f_ (aa (ae 0) aj)) (cI 8))) (ak (iR cn (aa (λ_=>M.ok (.str "a vault has at most eight levers")) aj))
 ar) ar)
 (ak (gT (jR ET (aa (ae 0) aj)) (dj 2 3) (ak (mM (om (fL (ah fN (aa (ae 3) (aa (ae 1) aj))))) (ak (jV e8 "lever" (aa (ae 2) aj))
 ar) ar)
 ar))
 ar))
def fD:List PV->M PV:=bB 2 (aH 4 fg)
def gE:af->M Out :=
 (ak (mM (fL (ai Ct (ae 1) (λ_=>M.ok .c8))) (ak (retS (ai cA (kN (aa (cI 1) aj)) (ah f_ (aa (ae 0) aj))))
 ar) ar)
 (ak (gT (jR jq (aa (ah (tq λi j=>if j>i then j else i) (aa (ah f_ (aa (ae 0) aj)) (aa (ah f_ (aa (ae 1) aj)) aj))) aj)) (bA 2) (ak (mM (LH (fL (ai LM (ae 2) (ah f_ (aa (ae 0) aj)))) (fL (ai LM (ae 2) (ah f_ (aa (ae 1) aj))))) (ak (jV dZ "lever" (aa (ae 2) aj))
 ar) ar)
 (ak (mM (om (fL (ah fV (aa (ai aJ (ae 1) (ae 2)) (aa (cI 1) (aa (cI 1000) aj)))))) (ak (jV dZ "lever" (aa (ae 2) aj))
 ar) ar)
 ar)))
 (ak (retS (ah cC (aa (ae 1) aj)))
 ar)))
def gi:List PV->M PV:=bB 2 (aH 3 gE)
def ki:af->M Out :=
 (ak (retS (ah cC (aa (b_ (cm (jR zip2 (aa (ae 0) (aa (ae 1) aj))) (dj 0 1) none (ai cD (ae 0) (ae 1)) 2 [])) aj)))
 ar)
def jf:List PV->M PV:=bB 2 (aH 2 ki)
def mD:af->M Out :=
 (ak (retS (ah cC (aa (b_ (cm (jR zip2 (aa (ae 0) (aa (ae 2) aj))) (dj 0 1) none (ai bU (ai cA (ae 2) (ae 0)) (ai cA (ae 3) (ae 1))) 2 [1,3])) aj)))
 ar)
def kL:List PV->M PV:=bB 4 (aH 4 mD)
def eS:af->M Out :=
 (ak (ba 5 (ah kL (aa (ai aJ (ae 1) (cI 0)) (aa (ae 2) (aa (ai aJ (ae 3) (cI 0)) (aa (ae 4) aj))))))
 (ak (retS (kN (aa (ah jf (aa (ae 5) (aa (ae 0) aj))) (aa (ah kL (aa (ai aJ (ae 1) (cI 1)) (aa (ae 2) (aa (ai aJ (ae 3) (cI 1)) (aa (ae 4) aj))))) aj))))
 ar))
def dG:List PV->M PV:=bB 5 (aH 6 eS)
def dX:af->M Out :=
 (ak (ba 3 (ai aJ (ai aJ (ai aJ (ae 1) (ae 2)) (cI 0)) (ae 2)))
 (ak (retS (AN (fL (ai uN (ae 3) (cI 0))) (ai aJ (ae 0) (ae 2)) (ae 3)))
 ar))
def dD:List PV->M PV:=bB 3 (aH 4 dX)
def iW:af->M Out :=
 (ak (lW 3 (fU aj))
 (ak (gT (jR ET (aa (ae 1) aj)) (dj 4 5) (ak (ba 6 (ah dD (aa (ae 0) (aa (ae 1) (aa (ae 4) aj)))))
 (ak (ba 7 (ai aJ (ai aJ (ae 2) (cI 0)) (ae 4)))
 (ak (ba 8 (ah fX (aa (ae 6) (aa (ae 7) aj))))
 (ak (j6 3 (ah dG (aa (ae 0) (aa (ae 5) (aa (ai aJ (ae 8) (cI 1)) (aa (ae 2) (aa (ai aJ (ae 8) (cI 2)) aj)))))))
 (ak (ba 2 (ah dG (aa (ae 0) (aa (ae 2) (aa (ai cG (ae 6) (ai aJ (ae 8) (cI 0))) (aa (ae 5) (aa (k8 (ai cG (ae 7) (ai aJ (ae 8) (cI 0)))) aj)))))))
 ar))))))
 (ak (m_ [3] (retS (kN (aa (ae 3) (aa (ai aJ (ae 2) (cI 1)) aj)))))
 ar)))
def jv:List PV->M PV:=bB 3 (aH 9 iW)
def iK:af->M Out :=
 (ak (gT (jR wo (aa (ae 3) (aa (ah f_ (aa (ae 0) aj)) aj))) (bA 4) (ak (ba 5 (ai cG (ai aJ (ai aJ (ae 2) (cI 0)) (ae 4)) (ah dD (aa (ae 0) (aa (ae 1) (aa (ae 4) aj))))))
 (ak (ba 2 (ah dG (aa (ae 0) (aa (ae 2) (aa (cI 1) (aa (ai aJ (ae 1) (ae 4)) (aa (k8 (ae 5)) aj)))))))
 ar)))
 (ak (retS (ae 2))
 ar))
def fc:List PV->M PV:=bB 4 (aH 6 iK)
def jg:af->M Out :=
 (ak (gT (jR Dz (aa (ai i8 (ah f_ (aa (ae 1) aj)) (cI 1)) (aa (k8 (cI 1)) (aa (k8 (cI 1)) aj)))) (bA 2) (ak (ba 3 (ai aJ (ae 1) (ae 2)))
 (ak (ba 0 (ah kL (aa (ae 0) (aa (cI 1) (aa (ae 3) (aa (k8 (ai cG (ai aJ (ae 0) (ae 2)) (ai aJ (ae 3) (ae 2)))) aj))))))
 ar)))
 (ak (retS (ae 0))
 ar))
def iY:List PV->M PV:=bB 2 (aH 4 jg)
def h9:af->M Out :=
 (ak (mM (fL (ai FW (ae 1) (ah f_ (aa (ae 0) aj)))) (ak (retS (ai aJ (ae 0) (ae 1)))
 ar) ar)
 (ak (retS (cI 0))
 ar))
def cq:List PV->M PV:=bB 2 (aH 2 h9)
def bV:af->M Out :=
 (ak (ba 2 (ai cD (ai bU (ai bU (ae 0) (ai cA (cI 7919) (ae 1))) (cI 12345)) (cI 2147483629)))
 (ak (ba 2 (ai cD (ai bU (ai cA (ae 2) (ae 2)) (ai cA (cI 48271) (ae 1))) (cI 2147483629)))
 (ak (retS (ai cD (ai cA (ae 2) (ae 2)) (cI 2147483587)))
 ar)))
def aC:List PV->M PV:=bB 2 (aH 3 bV)
def c9:af->M Out :=
 (ak (lW 2 (fU (aa (ai bU (cI 2) (ai cD (ai cG (ae 0) (cI 4)) (ai i8 (ae 1) (cI 1)))) aj)))
 (ak (ba 3 (jX 2 (ai cG (ae 1) (ai aJ (ae 2) (cI 0)))))
 (ak (ba 0 (ai bU (ai cA (ai cG (ai cG (ae 0) (cI 4)) (ai i8 (ae 1) (cI 1))) (cI 4)) (ai cD (ae 0) (cI 4))))
 (ak (ji (IL (fL (ai BN (ai cD (ae 0) (cI 4)) (cI 0))) (fL (ai BN (ae 3) (cI 1)))) (ak (j6 2 (ai bU (cI 2) (ai cD (ai cG (ae 0) (cI 4)) (ai i8 (ae 3) (cI 1)))))
 (ak (ba 0 (ai i8 (ai bU (ai cA (ai cG (ai cG (ae 0) (cI 4)) (ai i8 (ae 3) (cI 1))) (cI 4)) (ai cD (ae 0) (cI 4))) (cI 1)))
 (ak (ba 3 (jX 2 (ai cG (ae 3) (ai aJ (ae 2) (k8 (cI 1))))))
 ar))))
 (ak (m_ [2] (retS (ae 2)))
 ar)))))
def cZ:List PV->M PV:=bB 2 (aH 4 c9)
def gB:af->M Out :=
 (ak (mM (fL (ai uN (ai cD (ae 0) (cI 2)) (cI 1))) (ak (retS (ah cZ (aa (ai cG (ae 0) (cI 2)) (aa (ae 1) aj))))
 ar) ar)
 (ak (lW 2 (fU aj))
 (ak (ba 3 (ae 1))
 (ak (gT (jR jq (aa (ai bU (cI 1) (ai cD (ah aC (aa (ae 0) (aa (cI 1) aj))) (cI 4))) aj)) (bA 4) (ak (mM (fL (ai BN (ae 3) (cI 1))) (ak (ba 5 (ah (tq λi j=>if j<i then j else i) (aa (ae 3) (aa (ai aJ (λ_=>M.ok (.lst (([12,12,12,360]:List Int).map PV.int))) (ai cD (ah aC (aa (ae 0) (aa (ai bU (cI 20) (ae 4)) aj))) (cI 4))) aj))))
 (ak (j6 2 (ai bU (cI 2) (ai cD (ah aC (aa (ae 0) (aa (ai bU (cI 30) (ae 4)) aj))) (ai i8 (ae 5) (cI 1)))))
 (ak (ba 3 (jX 2 (ai cG (ae 3) (ai aJ (ae 2) (k8 (cI 1))))))
 ar))) ar)
 ar))
 (ak (m_ [2] (retS (ae 2)))
 ar)))))
def gv:List PV->M PV:=bB 2 (aH 6 gB)
def fk:af->M Out :=
 (ak (lW 2 (fU aj))
 (ak (gT (itemsOf (ae 1)) (bA 3) (ak (j6 2 (ai cD (ae 0) (ae 3)))
 (ak (ba 0 (ai cG (ae 0) (ae 3)))
 ar)))
 (ak (m_ [2] (retS (ae 2)))
 ar)))
def fm:List PV->M PV:=bB 2 (aH 4 fk)
def gA:af->M Out :=
 (ak (mM (fL (ai uN (ai cD (ae 0) (cI 2)) (cI 1))) (ak (retS (ah fm (aa (ai cG (ae 0) (cI 2)) (aa (ae 1) aj))))
 ar) ar)
 (ak (ba 2 (ai aJ (λ_=>M.ok (.lst (([1,1,2,3,4,6]:List Int).map PV.int))) (ai cD (ah aC (aa (ae 0) (aa (cI 5) aj))) (cI 6))))
 (ak (ba 3 (ai aJ (e_ (aa (cI 0) (aa (cI 1) (aa (ai Fu (cI 10) (cI 24)) aj)))) (ai cD (ah aC (aa (ae 0) (aa (cI 6) aj))) (cI 3))))
 (ak (lW 4 (fU aj))
 (ak (gT (jR jq (aa (ah f_ (aa (ae 1) aj)) aj)) (bA 5) (ak (ba 6 (ah aC (aa (ae 0) (aa (ai bU (cI 40) (ae 5)) aj))))
 (ak (ba 7 (ai cA (ai i8 (ai cD (ah aC (aa (ae 0) (aa (ai bU (cI 60) (ae 5)) aj))) (cI 2001)) (cI 1000)) (ae 3)))
 (ak (j6 4 (ai bU (ai cA (ai cA (ah (tq λi j=>if j<i then j else i) (aa (ai cD (ae 6) (cI 4)) (aa (cI 1) aj))) (ae 2)) (ai cD (ai cG (ae 6) (cI 4)) (cI 360))) (ai cA (ai aJ (ae 1) (ae 5)) (ae 7))))
 ar))))
 (ak (m_ [4] (retS (ae 4)))
 ar))))))
def dF:List PV->M PV:=bB 2 (aH 8 gA)
def gM:af->M Out :=
 (ak (retS (ah cC (aa (b_ (cm (jR w4 (aa (ae 0) (aa (ae 1) (aa (ae 2) aj)))) (nG 0 1 2) none (ai cD (ai bU (ae 0) (ae 1)) (ae 2)) 3 [])) aj)))
 ar)
def cT:List PV->M PV:=bB 3 (aH 3 gM)
def gD:af->M Out :=
 (ak (ba 2 (ah cC (aa (b_ (cm (itemsOf (ae 1)) (bA 0) none (cI 0) 1 [])) aj)))
 (ak (IS 3 (ae 2) (λ_=>M.ok (.bl true)))
 (ak (lW 4 (fU aj))
 (ak (gT (itemsOf (ae 0)) (bA 5) (ak (j6 4 (cI 1))
 (ak (ba 6 (ae 5))
 (ak (ji (fL (Lz true 3 (ae 6))) (ak (ba 6 (ah cT (aa (ae 6) (aa (ae 5) (aa (ae 1) aj)))))
 (ak (GS 4 (cI 1))
 ar)))
 (ak (ba 7 (b_ (xp 3)))
 (ak (ba 8 (ae 2))
 (ak (gT (jR jq (aa (jX 4 (ai i8 (ai aJ (ae 4) (k8 (cI 1))) (cI 1))) aj)) (bA 9) (ak (ba 8 (ah cT (aa (ae 8) (aa (ae 5) (aa (ae 1) aj)))))
 (ak (gT (itemsOf (ae 7)) (bA 10) (ak (EN 3 (ah cT (aa (ae 10) (aa (ae 8) (aa (ae 1) aj)))) (λ_=>M.ok (.bl true)))
 ar))
 ar)))
 ar)))))))
 (ak (Nv 3 (m_ [4] (retS (e_ (aa (ae 3) (aa (ae 4) aj))))))
 ar)))))
def gC:List PV->M PV:=bB 2 (aH 11 gD)
def hU:af->M Out :=
 (ak (retS (ah cC (aa (b_ (cm (jR zip2 (aa (ae 0) (aa (ae 1) aj))) (dj 0 1) none (ai cD (ae 0) (ae 1)) 2 [])) aj)))
 ar)
def fO:List PV->M PV:=bB 2 (aH 2 hU)
def dy:af->M Out :=
 (ak (retS (ah cC (aa (b_ (cm (jR ET (aa (ae 2) aj)) (dj 0 1) none (ai cD (ah aC (aa (ae 2) (aa (ai bU (ai bU (ai cA (cI 10) (ae 3)) (cI 200)) (ae 0)) aj))) (ae 1)) 2 [0,1])) aj)))
 ar)
def dr:List PV->M PV:=bB 3 (aH 3 dy)
def iV:af->M Out :=
 (ak (ba 2 (b_ (cm (itemsOf (ae 1)) (bA 0) none (cI 0) 1 [])))
 (ak (lW 3 (fU (aa (ae 2) (aa (ah cC (aa (ai bU (ae 2) (e_ (aa (cI 0) aj))) aj)) (aa (ah cC (aa (jS (ae 2) (iT (cI 1)) z8) aj)) (aa (ah cC (aa (ai bU (e_ (aa (ai aJ (ae 1) (cI 0)) aj)) (jS (ae 2) (iT (cI 1)) z8)) aj)) (aa (ah cC (aa (ai bU (e_ (aa (k8 (cI 1)) aj)) (jS (ae 2) (iT (cI 1)) z8)) aj)) (aa (λ_=>M.ok .c8) aj))))))))
 (ak (j6 3 (ah cC (aa (ai bU (e_ (aa (λ_=>M.ok (.bl false)) aj)) (jS (ae 2) (iT (cI 1)) z8)) aj)))
 (ak (j6 3 (λ_=>M.ok (.str "0")))
 (ak (m_ [3] (retS (ai aJ (ae 3) (ai cD (ah aC (aa (ae 0) (aa (cI 9) aj))) (cI 8)))))
 ar)))))
def ju:List PV->M PV:=bB 2 (aH 4 iV)
def dM:af->M Out :=
 (ak (mM (LH (om (fL (Ei (λa=>oo a "list") rC rC (ae 0)))) (fL (ai vg (ae 0) (ae 1)))) (ak (retS (λ_=>M.ok (.bl false)))
 ar) ar)
 (ak (retS (ai uN (ah f_ (aa (b_ (cm (itemsOf (ae 0)) (bA 0) (some (fL (Ei (λa=>oo a "tuple") rC rC (ae 0)))) (ae 0) 1 [])) aj)) (ah f_ (aa (ae 1) aj))))
 ar))
def dJ:List PV->M PV:=bB 2 (aH 2 dM)
def cX:af->M Out :=
 (ak (ba 1 (e_ (aa (ai bU (cI 2) (ai cD (ah aC (aa (ae 0) (aa (cI 1) aj))) (cI 39))) (aa (ai bU (cI 2) (ai cD (ah aC (aa (ae 0) (aa (cI 2) aj))) (cI 39))) aj))))
 (ak (mM (fL (ai uN (ai cD (ah aC (aa (ae 0) (aa (cI 3) aj))) (cI 3)) (cI 0))) (ak (ba 1 (ai aJ (e_ (aa (e_ (aa (cI 32) (aa (cI 32) aj))) (aa (e_ (aa (cI 25) (aa (cI 41) aj))) (aa (e_ (aa (cI 4) (aa (cI 256) aj))) (aa (e_ (aa (cI 205) (aa (cI 5) aj))) (aa (e_ (aa (cI 64) (aa (cI 16) aj))) (aa (e_ (aa (cI 41) (aa (cI 25) aj))) aj))))))) (ai cD (ah aC (aa (ae 0) (aa (cI 4) aj))) (cI 6))))
 ar) ar)
 (ak (ba 2 (b_ (cm (jR jq (aa (cI 2) aj)) (bA 0) none (ai bU (cI 1) (ai cD (ah aC (aa (ae 1) (aa (ai bU (cI 5) (ae 0)) aj))) (ai cG (cI 360) (ai aJ (ae 2) (ae 0))))) 1 [0,1])))
 (ak (ba 3 (b_ (cm (jR jq (aa (cI 2) aj)) (bA 0) none (ai cA (ai aJ (ae 1) (ae 0)) (ai aJ (ae 2) (ae 0))) 1 [1,2])))
 (ak (ba 4 (e_ (aa (e_ (aa (ai aJ (ae 2) (cI 0)) (aa (cI 0) aj))) (aa (e_ (aa (cI 0) (aa (ai i8 (cI 0) (ai aJ (ae 2) (cI 1))) aj))) aj))))
 (ak (mM (fL (ai uN (ai cD (ah aC (aa (ae 0) (aa (cI 7) aj))) (cI 2)) (cI 0))) (ak (ba 4 (e_ (aa (e_ (aa (ai aJ (ae 2) (cI 0)) (aa (ai aJ (ae 2) (cI 1)) aj))) (aa (e_ (aa (cI 0) (aa (ai aJ (ae 2) (cI 1)) aj))) (aa (e_ (aa (cI 0) (aa (cI 0) aj))) aj)))))
 ar) ar)
 (ak (retS (e_ (aa (ae 1) (aa (ae 2) (aa (ae 3) (aa (ae 4) aj))))))
 ar)))))))
def cW:List PV->M PV:=bB 1 (aH 5 cX)
def jb:af->M Out :=
 (ak (l4 (ah gm (aa (ae 1) aj)))
 (ak (l4 (ah fD (aa (ae 2) (aa (ah f_ (aa (ae 1) aj)) aj))))
 (ak (lF 0 aE "dial_sizes" (ah cC (aa (ae 1) aj)))
 (ak (lF 0 aE "lever_settings" (ah cC (aa (b_ (cm (itemsOf (ae 2)) (bA 0) none (ah jf (aa (ae 0) (aa (ae 1) aj))) 1 [1])) aj)))
 (ak (lF 0 aE "lever_prices" (ah gi (aa (ae 2) (aa (ae 3) aj))))
 (ak (lF 0 aE "least_round" (ah fx (aa (ae 1) aj)))
 ar))))))
def fy:Addr->List PV->M (List (Str×PV)):=t9 4 (Au 4 jb aE)
def bD:af->M Out :=
 (ak (retS (iA (λc=>c==aE) "dial_sizes" (ae 0)))
 ar)
def bj:List PV->M PV:=bB 1 (aH 1 bD)
def cN:af->M Out :=
 (ak (retS (iA (λc=>c==aE) "lever_settings" (ae 0)))
 ar)
def bZ:List PV->M PV:=bB 1 (aH 1 cN)
def fI:af->M Out :=
 (ak (ba 1 (cM aE "sizes" bj (iA (λc=>c==aB) "vault" (ae 0)) aj))
 (ak (retS (ah cC (aa (b_ (cm (jR jq (aa (ah f_ (aa (ae 1) aj)) aj)) (bA 0) none (ah dD (aa (ae 2) (aa (iA (λc=>c==aB) "made_rows" (ae 1)) (aa (ae 0) aj)))) 1 [0,1])) aj)))
 ar))
def fE:List PV->M PV:=bB 1 (aH 2 fI)
def gy:af->M Out :=
 (ak (retS (b_ (cm (itemsOf (iA (λc=>c==aB) "made_rows" (ae 0))) (bA 0) none (ai aJ (ae 0) (cI 0)) 1 [])))
 ar)
def gz:List PV->M PV:=bB 1 (aH 1 gy)
def fF:af->M Out :=
 (ak (retS (ah cC (aa (b_ (cm (jR ET (aa (iA (λc=>c==aB) "idle_rows" (ae 0)) aj)) (dj 0 1) none (ai aJ (ae 1) (ae 0)) 2 [])) aj)))
 ar)
def fj:List PV->M PV:=bB 1 (aH 1 fF)
def l7:af->M Out :=
 (ak (retS (ai cA (kN (aa (cI 0) aj)) (ah f_ (aa (cM aE "sizes" bj (ae 0) aj) aj))))
 ar)
def jL:List PV->M PV:=bB 1 (aH 1 l7)
def cy:af->M Out :=
 (ak (ba 2 (cM aE "sizes" bj (ae 0) aj))
 (ak (mM (LH (om (fL (Ei (λa=>oo a "tuple") rC rC (ae 1)))) (om (fL (ah fN (aa (ae 1) (aa (ah f_ (aa (ae 2) aj)) aj)))))) (ak (retS (λ_=>M.ok (.bl false)))
 ar) ar)
 (ak (retS (ah vq (aa (b_ (cm (jR zip2 (aa (ae 1) (aa (ae 2) aj))) (dj 0 1) none (lH Fm FW (cI 0) (ae 0) (ae 1)) 2 [])) aj)))
 ar)))
def aS:List PV->M PV:=bB 2 (aH 3 cy)
def cK:af->M Out :=
 (ak (mM (om (fL (ah aS (aa (ae 0) (aa (ae 1) aj))))) (ak (iR bW (aa (λ_=>M.ok (.str "this is no setting of the vault")) aj))
 ar) ar)
 ar)
def cj:List PV->M PV:=bB 2 (aH 2 cK)
def oN:af->M Out :=
 (ak (ba 4 (b_ (cm (jR zip2 (aa (ae 1) (aa (ae 2) aj))) (dj 0 1) none (ai bU (ae 0) (ai cA (ae 2) (ae 1))) 2 [3])))
 (ak (retS (ah jf (aa (ae 4) (aa (cM aE "sizes" bj (ae 0) aj) aj))))
 ar))
def mC:List PV->M PV:=bB 4 (aH 5 oN)
def gK:af->M Out :=
 (ak (retS (kN (aa (ae 1) (aa (ai cA (kN (aa (cI 0) aj)) (ah f_ (aa (cM aE "levers" bZ (ae 0) aj) aj))) aj))))
 ar)
def eX:List PV->M PV:=bB 2 (aH 2 gK)
def fu:af->M Out :=
 (ak (ba 2 (cM aE "levers" bZ (ae 0) aj))
 (ak (retS (kN (aa (ai aJ (ae 2) (ae 1)) (aa (ah jx (aa (ah f_ (aa (ae 2) aj)) (aa (ae 1) aj))) aj))))
 ar))
def fG:List PV->M PV:=bB 2 (aH 3 fu)
def i4:af->M Out :=
 (ak (ba 2 (cM aE "sizes" bj (ae 1) aj))
 (ak (ba 3 (b_ (cm (itemsOf (ae 2)) (bA 0) none (ah eX (aa (ae 1) (aa (ah jL (aa (ae 1) aj)) aj))) 1 [1])))
 (ak (lW 4 (fU aj))
 (ak (gT (jR jq (aa (ah f_ (aa (cM aE "levers" bZ (ae 1) aj) aj)) aj)) (bA 5) (ak (ba 6 (ah jv (aa (ae 2) (aa (ae 3) (aa (ah fG (aa (ae 1) (aa (ae 5) aj))) aj)))))
 (ak (ba 3 (ai aJ (ae 6) (cI 0)))
 (ak (j6 4 (jX 4 (ah iY (aa (ai aJ (ae 6) (cI 1)) (aa (ae 4) aj)))))
 ar))))
 (ak (lF 0 aB "vault" (ae 1))
 (ak (lF 0 aB "made_rows" (b_ (cm (jR ET (aa (ae 3) aj)) (dj 0 1) none (ah fc (aa (ae 2) (aa (ae 3) (aa (ae 1) (aa (ai bU (ae 0) (cI 1)) aj))))) 2 [2,3])))
 (ak (m_ [4] (lF 0 aB "idle_rows" (ae 4)))
 ar)))))))
def gX:Addr->List PV->M (List (Str×PV)):=t9 2 (Au 7 i4 aB)
def cx:af->M Out :=
 (ak (l4 (ah cj (aa (iA (λc=>c==aB) "vault" (ae 0)) (aa (ae 1) aj))))
 (ak (retS (ah fc (aa (cM aE "sizes" bj (iA (λc=>c==aB) "vault" (ae 0)) aj) (aa (iA (λc=>c==aB) "made_rows" (ae 0)) (aa (ah eX (aa (iA (λc=>c==aB) "vault" (ae 0)) (aa (ae 1) aj))) (aa (cI 0) aj))))))
 ar))
def cv:List PV->M PV:=bB 2 (aH 2 cx)
def fw:af->M Out :=
 (ak (retS (ai aJ (cM aB "brought_down" cv (ae 0) (aa (ae 1) aj)) (cI 0)))
 ar)
def fH:List PV->M PV:=bB 2 (aH 2 fw)
def br:af->M (List PV) :=
 (rV (l4 (ah cj (aa (ae 0) (aa (ae 1) aj))))
 (rV (ba 2 (ah (jB aB gX []) (aa (ae 0) aj)))
 (rV (mM (fL (ai BN (ah gG (aa (cM aB "spans" fj (ae 2) aj) aj)) (λ_=>M.ok (.int 1024)))) (ak (iR cn (aa (λ_=>M.ok (.str "more settings belong together than are gone through")) aj))
 ar) ar)
 (rV (ba 3 (e_ (aa (cM aB "least" fH (ae 2) (aa (ae 1) aj)) aj)))
 (rV (gT (jR w4 (aa (cM aE "sizes" bj (ae 0) aj) (aa (cM aB "steps" fE (ae 2) aj) (aa (cM aB "rows" gz (ae 2) aj) aj)))) (nG 4 5 6) (ak (lW 7 (fU aj))
 (ak (gT (jR jq (aa (ai cG (ae 4) (ae 5)) aj)) (bA 8) (ak (A9 7 (b_ (cm (itemsOf (ae 3)) (bA 0) none (ah mC (aa (ae 1) (aa (ae 0) (aa (ae 2) (aa (ae 3) aj))))) 1 [0,6,8])))
 ar))
 (ak (m_ [7] (ba 3 (ae 7)))
 ar))))
 (jD vL (aa (ae 3) aj)))))))
def aY:List PV->M (List PV):=CZ 2 (λps=>br (gU 9 ps))
def fS:af->M Out :=
 (ak (ba 2 (λ_=>M.ok (.str "told")))
 (ak (FJ (l4 (b_ (jD aY (aa (ae 0) (aa (ae 1) aj))))) [(GH eG eR,none,(ak (ba 2 (λ_=>M.ok (.str "setting")))
 ar)),(GH iZ jc,none,(ak (ba 2 (λ_=>M.ok (.str "many")))
 ar))])
 (ak (retS (ae 2))
 ar)))
def dC:List PV->M PV:=bB 2 (aH 3 fS)
def eO:af->M Out :=
 (ak (FT (E4 [1,2,3,4]) (ah cW (aa (ae 0) aj)))
 (ak (ba 5 (ah (jB aE fy [.c8]) (aa (ae 3) (aa (ae 4) aj))))
 (ak (ba 6 (ah dr (aa (ae 0) (aa (cI 1) (aa (ae 3) aj)))))
 (ak (mM (fL (ai vg (ah dC (aa (ae 5) (aa (ah ju (aa (ae 0) (aa (ae 3) aj))) aj))) (λ_=>M.ok (.str "setting")))) (ak (retS (λ_=>M.ok (.bl false)))
 ar) ar)
 (ak (mM (fL (ai BN (ai cA (ai aJ (ae 1) (cI 0)) (ai aJ (ae 1) (cI 1))) (cI 1024))) (ak (retS (ai uN (ah dC (aa (ae 5) (aa (ae 6) aj))) (λ_=>M.ok (.str "many"))))
 ar) ar)
 (ak (lW 7 (fU aj))
 (ak (gT (jR jq (aa (ai aJ (ae 1) (cI 0)) aj)) (bA 8) (ak (gT (jR jq (aa (ai aJ (ae 1) (cI 1)) aj)) (bA 9) (ak (j6 7 (kN (aa (ai bU (ai cD (ai aJ (ae 6) (cI 0)) (ai aJ (ae 2) (cI 0))) (ai cA (ae 8) (ai aJ (ae 2) (cI 0)))) (aa (ai bU (ai cD (ai aJ (ae 6) (cI 1)) (ai aJ (ae 2) (cI 1))) (ai cA (ae 9) (ai aJ (ae 2) (cI 1)))) aj))))
 ar))
 ar))
 (ak (m_ [7] (retS (ah dJ (aa (b_ (jD aY (aa (ae 5) (aa (ae 6) aj)))) (aa (ae 7) aj)))))
 ar))))))))
def eJ:List PV->M PV:=bB 1 (aH 10 eO)
def EG:af->M Out :=
 (ak (ba 1 (ah gv (aa (ah cq (aa (ae 0) (aa (cI 0) aj))) (aa (cI 240) aj))))
 (ak (ba 2 (ai cD (ah aC (aa (ah cq (aa (ae 0) (aa (cI 1) aj))) (aa (cI 1) aj))) (cI 9)))
 (ak (ba 3 (b_ (cm (jR jq (aa (ae 2) aj)) (bA 0) none (ah dF (aa (ah cq (aa (ae 1) (aa (ai bU (cI 2) (ae 0)) aj))) (aa (ae 2) aj))) 1 [0,1])))
 (ak (ba 4 (ah (jB aE fy [.c8]) (aa (ah cC (aa (ae 1) aj)) (aa (ae 3) aj))))
 (ak (ba 5 (ai aJ (ah gC (aa (b_ (cm (itemsOf (ae 3)) (bA 0) none (ah fO (aa (ae 0) (aa (ae 1) aj))) 1 [1])) (aa (ae 1) aj))) (cI 0)))
 (ak (gT (itemsOf (jS (ae 0) (iT (cI 10)) (iT (cI 18)))) (bA 6) (ak (ba 7 (ah dr (aa (ae 6) (aa (cI 1) (aa (ae 1) aj)))))
 (ak (ba 8 (ah vX (aa (b_ (cm (keysOf (ae 5)) (bA 0) none (ah cT (aa (ae 2) (aa (ae 0) (aa (ae 1) aj)))) 1 [1,7])) aj)))
 (ak (lW 9 (jD aY (aa (ae 4) (aa (ae 7) aj))))
 (ak (mM (om (CM 9 (fL (ah dJ (aa (ae 9) (aa (ae 8) aj)))))) (ak (retS (λ_=>M.ok (.bl false)))
 ar) ar)
 (ak (Ka 9)
 (ak (mM (fL (ai vg (b_ (jD aY (aa (ae 4) (aa (ae 7) aj)))) (ae 8))) (ak (retS (λ_=>M.ok (.bl false)))
 ar) ar)
 ar)))))))
 (ak (retS (ah eJ (aa (ah cq (aa (ae 0) (aa (cI 0) aj))) aj)))
 ar)))))))
def sx:List PV->M PV:=bB 1 (aH 10 EG)
end wV
namespace wV
open PySem L2 PyProof.Rows
local macro_rules|`(tactic| walk_at "s")=>`(tactic| exact⟨rfl,rfl,rfl,by decide +kernel,rfl,by decide +kernel,by decide +kernel⟩)
local macro_rules|`(tactic| walk_at "l")=>`(tactic| first|exact .inl rfl|exact .inr rfl)
local macro_rules|`(tactic| walk_at "pp")=>do
 let mut st:Array (Array Lean.Term):=#[#[]]
 for k in "( jE _ _ ( tS _ ( ak _ _ ) ) ) ( Cb 0 0 ) ( jE _ _ ( tS _ ar ) ) ( FH ) ( PE _ _ ( tE _ ( ae _ ) ) ) ( vr _ ) ( PA _ _ ( tL _ ( aa _ _ ) ) ) ( yY 0 0 0 ) ( PA _ _ ( tL _ aj ) ) ( Ed ) ( PE _ _ ( tE _ ( ai bU _ _ ) ) ) ( nr Fw Jp 0 0 ) ( PE _ _ ( tE _ ( ai i8 _ _ ) ) ) ( nr IG Iz 0 0 ) ( PE _ _ ( tE _ ( ai cA _ _ ) ) ) ( nr Gk KR 0 0 ) ( PE _ _ ( tE _ ( ai cG _ _ ) ) ) ( nr Dk C0 0 0 ) ( PE _ _ ( tE _ ( ai cD _ _ ) ) ) ( nr FI FC 0 0 ) ( PE _ _ ( tE _ ( ai Fu _ _ ) ) ) ( nr Li EY 0 0 ) ( PE _ _ ( tE _ ( ai aJ _ _ ) ) ) ( K5 0 0 0 ) ( PT _ _ ( tT _ ( fL ( ai uN _ _ ) ) ) ) ( ly ( Ef ( bO.units 1 ) ) HS 0 0 ( eF _ ) ) ( PE _ _ ( tE _ ( ai uN _ _ ) ) ) ( k_ ( Ef ( bO.units 1 ) ) HS 0 0 ( eF _ ) ) ( PT _ _ ( tT _ ( fL ( ai vg _ _ ) ) ) ) ( ly ( DU ( bO.units 1 ) ) Hn 0 0 ( eF _ ) ) ( PE _ _ ( tE _ ( ai vg _ _ ) ) ) ( k_ ( DU ( bO.units 1 ) ) Hn 0 0 ( eF _ ) ) ( PT _ _ ( tT _ ( fL ( ai FW _ _ ) ) ) ) ( ly Bk xf 0 0 ( eF _ ) ) ( PE _ _ ( tE _ ( ai FW _ _ ) ) ) ( k_ Bk xf 0 0 ( eF _ ) ) ( PT _ _ ( tT _ ( fL ( ai Fm _ _ ) ) ) ) ( ly wy pY 0 0 ( eF _ ) ) ( PE _ _ ( tE _ ( ai Fm _ _ ) ) ) ( k_ wy pY 0 0 ( eF _ ) ) ( PT _ _ ( tT _ ( fL ( ai BN _ _ ) ) ) ) ( ly Hj Bx 0 0 ( eF _ ) ) ( PE _ _ ( tE _ ( ai BN _ _ ) ) ) ( k_ Hj Bx 0 0 ( eF _ ) ) ( PT _ _ ( tT _ ( fL ( ai LM _ _ ) ) ) ) ( ly Hi Cz 0 0 ( eF _ ) ) ( PE _ _ ( tE _ ( ai LM _ _ ) ) ) ( k_ Hi Cz 0 0 ( eF _ ) ) ( PT _ _ ( tT _ ( fL ( ai Ct _ _ ) ) ) ) ( ly BK Bf 0 0 ( eF _ ) ) ( PE _ _ ( tE _ ( ai Ct _ _ ) ) ) ( k_ BK Bf 0 0 ( eF _ ) ) ( PT _ _ ( tT _ ( om _ ) ) ) ( J_ 0 ) ( PT _ _ ( tT _ ( fL ( ah _ _ ) ) ) ) ( tY 0 ) ( PT _ _ ( tT _ ( fL ( Ei _ _ _ _ ) ) ) ) ( tY 0 ) ( PT _ _ ( tT _ ( fL ( cM _ _ _ _ _ ) ) ) ) ( tY 0 ) ( PT _ _ ( tT _ ( fL ( ae _ ) ) ) ) ( tY 0 ) ( PS _ _ ( tS _ ( retS _ ) ) ) ( Ic 0 ) ( PS _ _ ( tS _ ( mM _ _ _ ) ) ) ( M9 0 0 0 ) ( PS _ _ ( tS _ ( j6 _ _ ) ) ) ( AJ rfl 5 0 ) ( PS _ _ ( tS _ ( lW _ _ ) ) ) ( Gr 1 rfl 4 0 ) ( PE _ _ ( tO _ ( fU _ ) ) ) ( Ki 0 ) ( PS _ _ ( tS _ ( m_ _ _ ) ) ) ( Kv _ 0 ) ( PS _ _ ( tS _ ( l4 _ ) ) ) ( Ge 0 ) ( PS _ _ ( tS _ ( iR _ _ ) ) ) ( EC.raise 1 1 rfl 2 0 ) ( PS _ _ ( tS _ ( jV _ _ _ ) ) ) ( uI.raise 1 1 3 1 rfl 2 0 ) ( PE _ _ ( tE _ ( kN _ ) ) ) ( JD 0 ) ( PE _ _ ( tE _ ( e_ _ ) ) ) ( Ey 0 ) ( PE _ _ ( tE _ ( k8 _ ) ) ) ( K9 0 ) ( PE _ _ ( tE _ ( AN _ _ _ ) ) ) ( IX 0 0 0 ) ( PE _ _ ( tE _ ( iA _ _ _ ) ) ) ( Ig 0 1 rfl ) ( PE _ _ ( tE _ ( ah f_ _ ) ) ) ( iD zU JP 2 1 PySem.boot_len 0 ) ( PE _ _ ( tE _ ( ah cC _ ) ) ) ( An rH Er 2 1 mn 0 ) ( PE _ _ ( tE _ ( ah vq _ ) ) ) ( iD ( AB rfl ) K1 2 1 Kk 0 ) ( PE _ _ ( tE _ ( ah ( jB _ _ _ ) _ ) ) ) ( HQ.make 1 1 3 2 6 0 ) ( PE _ _ ( tE _ ( ah _ _ ) ) ) ( dR.call 1 1 3 2 6 0 ) ( PE _ _ ( tE _ ( cM _ _ _ _ aj ) ) ) ( q_.Mq 1 1 3 6 0 ) ( PE _ _ ( tE _ ( cM _ _ _ _ _ ) ) ) ( q_.call 1 1 3 6 0 0 )".splitOn " " do
  if k=="(" then st:=st.push #[]
  else
   let t:Lean.Term<-if k==")" then do
     let a:=st.back!
     st:=st.pop
     if a.size==1 then pure a[0]! else `($(a[0]!) $(a.extract 1 a.size)*)
    else if k=="_" then `(_) else if k=="0" then `(?_) else if k=="1" then `(by assumption) else if k=="2" then `(by rfl) else if k=="3" then `(by lia) else if k=="4" then `(by walk_at "l") else if k=="5" then `(by first|exact .inl rfl|exact .inr (.inl rfl)) else if k=="6" then `(by first|assumption|exact yG) else pure (Lean.mkIdent k.toName)
   st:=st.modify (st.size-1) (·.push t)
 let a:=st[0]!
 let mut c:Array (Lean.TSyntax `Lean.Parser.Tactic.tacticSeq):=#[]
 for i in [0:a.size/2] do c:=c.push (<-`(tacticSeq|((with_reducible show $(a[2*i]!));refine $(a[2*i+1]!))))
 `(tactic|all_goals repeat' (first $[|$c]*|((with_reducible show starEach _ _=_);exact Hr rfl)|((with_reducible show PE _ _ (tE _ (λ_=>M.ok (.int _))));first|exact Eg|exact lP (LS (by rfl) (by assumption)) λ_=>.int _)|((with_reducible show PE _ _ (tE _ (λ_=>M.ok (.bl _))));exact Mb)|((with_reducible show PE _ _ (tE _ (λ_=>M.ok .c8)));exact Kt)|((with_reducible show PE _ _ (tE _ (λ_=>M.ok (.str _))));exact Kl)|((with_reducible show uO _);exact λ_ _=>rfl)|((with_reducible show PS _ _ (tS _ (ba _ _)));refine Jn ?_ ?_ ?_ ?_ ?_ ?_;assumption;exact rfl;(first|exact .inl rfl|exact .inr rfl);rotate_left;rfl;(first|exact .inl rfl|exact .inr rfl|assumption))))
def top(i:Nat):Stmt:=PySem.Challenge.pw_dialvault_k32_all_that_belong_together.main.body.getD i (.Pass ⟨0,0,0,0⟩)
structure Txt (K:UU) (mg:Str->Option Value):Prop where
 Nk:mg "all"=none
 Ej:mg "bool"=none
 c_:mg "enumerate"=none
 HU:mg "int"=none
 cS:mg "isinstance"=none
 Mv:mg "len"=none
 uP:mg "list"=none
 HM:mg "max"=none
 Bt:mg "min"=none
 cH:mg "range"=none
 pV:mg "sorted"=none
 oY:mg "tuple"=none
 nP:mg "zip"=none
 rF:∃u,mg "LEAST_PRICE"=some u/\RelV (.int 1) u
 u9:∃u,mg "LEAST_SIZE"=some u/\RelV (.int 2) u
 uv:∃u,mg "MOST_DIALS"=some u/\RelV (.int 6) u
 rM:∃u,mg "MOST_LEVERS"=some u/\RelV (.int 8) u
 tP:∃u,mg "MOST_PRICE"=some u/\RelV (.int 1000) u
 nY:∃u,mg "MOST_SETTINGS"=some u/\RelV (.int 1024) u
 wO:∃u,mg "MOST_SIZE"=some u/\RelV (.int 360) u
 oQ:mF K aB
 mw:mF K aE
 vM:EC K mg bW "NoSetting"
 z9:EC K mg cn "TooMany"
 jI:NL K mg "NoSetting" bW eG eR
 ng:NL K mg "TooMany" cn iZ jc
 hV:bR K aB "idle_rows"
 hZ:bR K aB "made_rows"
 kY:bR K aB "vault"
 gJ:bR K aE "dial_sizes"
 gc:bR K aE "least_round"
 fZ:bR K aE "lever_prices"
 eP:bR K aE "lever_settings"
 t_:∀C,(C==aE)=true->mF K C/\bR K C "dial_sizes"
 wH:∀C,(C==aB)=true->mF K C/\bR K C "idle_rows"
 rS:∀C,(C==aE)=true->mF K C/\bR K C "least_round"
 pP:∀C,(C==aE)=true->mF K C/\bR K C "lever_prices"
 mY:∀C,(C==aE)=true->mF K C/\bR K C "lever_settings"
 v7:∀C,(C==aB)=true->mF K C/\bR K C "made_rows"
 GK:∀C,(C==aB)=true->mF K C/\bR K C "vault"
local macro_rules|`(tactic| walk_at "t")=>`(tactic| (have z:=‹Txt _ _›;cases z))
variable{P:Program}{w:World}{K:UU}{mg:Str->Option Value}{base:Heap}{f:Addr}{fd:FuncData}{dv:Value}
def wg(F:bp K "is_whole" "is_whole" (top 9) dv f fd)(T:Txt K mg)  : aV P w K mg base (bQ P w) 1 f fd ["thing"] (eh 1 dQ) :=
 F.gS ["thing"] λnd _ _ _ _ _ _ hr O=>by
 unfold i7;walk_at "t";walk_at "pp";refine(Bs ?_ (Cm ?_));walk_at "pp";refine(qg (T := "int") (by rfl) T.cS (iU (v:=.ty "int") (by rfl) T.HU Iv rfl) ↑12 pD pD ?_);walk_at "pp";refine(Ip ?_);walk_at "pp";refine(qg (T := "bool") (by rfl) T.cS (iU (v:=.ty "bool") (by rfl) T.Ej G9 rfl) ↑12 pD pD ?_);walk_at "pp"
def vp:((["number"]:List Str)++([]:List Str)).Nodup:=by decide +kernel
def zO(F:bp K "is_row" "is_row" (top 10) dv f fd)(T:Txt K mg)(QS:dR P w K mg base 1 "is_whole" 1 (aH 1 i7)):aV P w K mg base (bQ P w) 2 f fd ["thing","length"] (eh 2 fN) :=
 F.gS ["thing","length"] λnd _ _ _ _ _ _ hr O=>by
 unfold jZ;walk_at "t";walk_at "pp";refine(yH ?_ (tU ?_)).pt;walk_at "pp";refine(EV (Ts:=["list","tuple"]) (by rfl) T.cS (DV (fq (iU (v:=.ty "list") (by rfl) T.uP u6 rfl) (fq (iU (v:=.ty "tuple") (by rfl) T.oY mn rfl) lE))) (fun σ H R h=>⟨by show 2<=sizeLine;decide,h⟩) ↑12 pD ?_);walk_at "pp";refine(bT (bF (g:=(aM 0)) (ts:=["number"]) (fs:=[]) (js:=[]) (cl:=[]) rfl rfl rfl rfl rfl rfl .nil .nil (dU ?_) cU (λ_ _ _ _ _=>(aQ (i:=0) vp)) (λ_=>a_) bx (λ_ _ _ _ _=>?_)));walk_at "pp"
def zF(F:bp K "common" "common" (top 11) dv f fd)(T:Txt K mg)  : aV P w K mg base (bQ P w) 1 f fd ["one","other"] (eh 2 fX) :=
 F.gS ["one","other","row","behind","times","rest"] λnd _ _ _ _ _ _ hr O=>by
 unfold jU;walk_at "t";walk_at "pp";refine(oZ O ?_ ?_);walk_at "pp"
def qE(F:bp K "multiple_of" "multiple_of" (top 12) dv f fd)(T:Txt K mg)(Rn:dR P w K mg base 1 "common" 2 (aH 6 jU)):aV P w K mg base (bQ P w) 2 f fd ["numbers"] (eh 1 fx) :=
 F.gS ["numbers","multiple","number"] λnd _ _ _ _ _ _ hr O=>by
 unfold fK;walk_at "t";walk_at "pp";refine(bM (g:=(aM 2)) O rfl (dU ?_) cU (aQ (i:=2) nd) a_ ?_);walk_at "pp"
def rZ(F:bp K "product_of" "product_of" (top 13) dv f fd)(T:Txt K mg)  : aV P w K mg base (bQ P w) 1 f fd ["numbers"] (eh 1 gG) :=
 F.gS ["numbers","product","number"] λnd _ _ _ _ _ _ hr O=>by
 unfold gu;walk_at "t";walk_at "pp";refine(bM (g:=(aM 2)) O rfl (dU ?_) cU (aQ (i:=2) nd) a_ ?_);walk_at "pp"
def rY:((["other"]:List Str)++(["place"]:List Str)).Nodup:=by decide +kernel
def wz(F:bp K "unit_row" "unit_row" (top 14) dv f fd)(T:Txt K mg)  : aV P w K mg base (bQ P w) 1 f fd ["length","place"] (eh 2 jx) :=
 F.gS ["length","place"] λnd _ _ _ _ _ _ hr O=>by
 unfold iQ;walk_at "t";walk_at "pp";refine(bT (bF (g:=(aM 0)) (ts:=["other"]) (fs:=["place"]) (js:=[1]) rfl rfl rfl rfl rfl rfl (.cons rfl .nil) ↑4 (bX (by rfl) T.cH ?_) cL (λ_ _ _ _ _=>(aQ (i:=0) rY)) (λ_=>a_) bx (λ_ _ _ _ _=>?_)));walk_at "pp"
def uH(F:bp K "is_within" "is_within" (top 23) dv f fd)(T:Txt K mg)(QS:dR P w K mg base 1 "is_whole" 1 (aH 1 i7)):aV P w K mg base (bQ P w) 2 f fd ["thing","least","most"] (eh 3 fV) :=
 F.gS ["thing","least","most"] λnd _ _ _ _ _ _ hr O=>by
 unfold fM;walk_at "t";walk_at "pp";refine(Bs ?_ (Cm ?_));walk_at "pp";refine(wR wy pY wy pY ?_ ?_ ?_);walk_at "pp"
def rB(F:bp K "need_sizes" "need_sizes" (top 24) dv f fd)(T:Txt K mg)(R7:uI P w K mg base fQ "NoDial" "dial")(QM:dR P w K mg base 2 "is_within" 3 (aH 3 fM)):aV P w K mg base (bQ P w) 3 f fd ["sizes"] (eh 1 gm) :=
 F.gS ["sizes","dial","size"] λnd _ _ _ _ _ _ hr O=>by
 unfold gj;walk_at "t";walk_at "pp";refine(bM (g:=(kM K 2 (bK (aM 1) (bK (aM 2) jY)))) O rfl (nB (by rfl) T.c_ ?_) kA (e9 (n:=2) rfl (aP (aQ (i:=1) nd) (aP (aQ (i:=2) nd) c7))) eQ ?_);walk_at "pp"
def pI(F:bp K "need_levers" "need_levers" (top 25) dv f fd)(T:Txt K mg)(Ro:dR P w K mg base 2 "is_row" 2 (aH 2 jZ))(RV:uI P w K mg base e8 "NoLever" "lever"):aV P w K mg base (bQ P w) 3 f fd ["levers","dials"] (eh 2 fD) :=
 F.gS ["levers","dials","place","lever"] λnd _ _ _ _ _ _ hr O=>by
 unfold fg;walk_at "t";walk_at "pp";refine(bM (g:=(kM K 2 (bK (aM 2) (bK (aM 3) jY)))) O rfl (nB (by rfl) T.c_ ?_) kA (e9 (n:=2) rfl (aP (aQ (i:=2) nd) (aP (aQ (i:=3) nd) c7))) eQ ?_);walk_at "pp"
def rG(F:bp K "prices_for" "prices_for" (top 26) dv f fd)(T:Txt K mg)(RW:uI P w K mg base dZ "NoPrice" "lever")(QM:dR P w K mg base 2 "is_within" 3 (aH 3 fM)):aV P w K mg base (bQ P w) 3 f fd ["levers","prices"] (eh 2 gi) :=
 F.gS ["levers","prices","place"] λnd _ _ _ _ _ _ hr O=>by
 unfold gE;walk_at "t";walk_at "pp";refine(bM (g:=(aM 2)) O rfl (bX (by rfl) T.cH ?_) cL (aQ (i:=2) nd) a_ ?_);walk_at "pp";refine(iD (AU rfl) uM (by rfl) T.HM KJ ?_);walk_at "pp";refine(yH ?_ (tU ?_)).pt;walk_at "pp"
def qK:((["number","size"]:List Str)++([]:List Str)).Nodup:=by decide +kernel
def DT(F:bp K "rests" "rests" (top 27) dv f fd)(T:Txt K mg)  : aV P w K mg base (bQ P w) 1 f fd ["numbers","sizes"] (eh 2 jf) :=
 F.gS ["numbers","sizes"] λnd _ _ _ _ _ _ hr O=>by
 unfold ki;walk_at "t";walk_at "pp";refine(bT (bF (g:=(kM K 2 (bK (aM 0) (bK (aM 1) jY)))) (ts:=["number","size"]) (fs:=[]) (js:=[]) (cl:=[]) rfl rfl rfl rfl rfl rfl .nil .nil (pS (by rfl) T.nP ?_) mz (λ_ _ _ _ _=>(e9 (n:=2) rfl (aP (aQ (i:=0) qK) (aP (aQ (i:=1) qK) c7)))) (λ_=>eQ) dc (λ_ _ _ _ _=>?_)));walk_at "pp"
def pL:((["one","two"]:List Str)++(["times","others"]:List Str)).Nodup:=by decide +kernel
def C5(F:bp K "mixed" "mixed" (top 33) dv f fd)(T:Txt K mg)  : aV P w K mg base (bQ P w) 1 f fd ["row","times","other","others"] (eh 4 kL) :=
 F.gS ["row","times","other","others"] λnd _ _ _ _ _ _ hr O=>by
 unfold mD;walk_at "t";walk_at "pp";refine(bT (bF (g:=(kM K 2 (bK (aM 0) (bK (aM 1) jY)))) (ts:=["one","two"]) (fs:=["times","others"]) (js:=[1,3]) rfl rfl rfl rfl rfl rfl (.cons rfl (.cons rfl .nil)) (.cons rfl rfl ↑9 rfl rfl ↑4) (pS (by rfl) T.nP ?_) mz (λ_ _ _ _ _=>(e9 (n:=2) rfl (aP (aQ (i:=0) pL) (aP (aQ (i:=1) pL) c7)))) (λ_=>eQ) dc (λ_ _ _ _ _=>?_)));walk_at "pp"
def rP(F:bp K "mixed_made" "mixed_made" (top 34) dv f fd)(T:Txt K mg)(RG:dR P w K mg base 1 "mixed" 4 (aH 4 mD))(Q2:dR P w K mg base 1 "rests" 2 (aH 2 ki)):aV P w K mg base (bQ P w) 2 f fd ["sizes","made","times","other","others"] (eh 5 dG) :=
 F.gS ["sizes","made","times","other","others","doing"] λnd _ _ _ _ _ _ hr O=>by
 unfold eS;walk_at "t";walk_at "pp"
def uQ(F:bp K "step_size" "step_size" (top 37) dv f fd)(T:Txt K mg)  : aV P w K mg base (bQ P w) 1 f fd ["sizes","made_rows","dial"] (eh 3 dD) :=
 F.gS ["sizes","made_rows","dial","notch"] λnd _ _ _ _ _ _ hr O=>by
 unfold dX;walk_at "t";walk_at "pp"
def wN(F:bp K "taken_in" "taken_in" (top 38) dv f fd)(T:Txt K mg)(QB:dR P w K mg base 1 "step_size" 3 (aH 4 dX))(Rn:dR P w K mg base 1 "common" 2 (aH 6 jU))(QJ:dR P w K mg base 2 "mixed_made" 5 (aH 6 eS)):aV P w K mg base (bQ P w) 3 f fd ["sizes","made_rows","left"] (eh 3 jv) :=
 F.gS ["sizes","made_rows","left","wider","dial","made","step","notch","found"] λnd _ _ _ _ _ _ hr O=>by
 unfold iW;walk_at "t";walk_at "pp";refine(bM (g:=(kM K 2 (bK (aM 4) (bK (aM 5) jY)))) O rfl (nB (by rfl) T.c_ ?_) kA (e9 (n:=2) rfl (aP (aQ (i:=4) nd) (aP (aQ (i:=5) nd) c7))) eQ ?_);walk_at "pp"
def xQ(F:bp K "lowered" "lowered" (top 39) dv f fd)(T:Txt K mg)(QB:dR P w K mg base 1 "step_size" 3 (aH 4 dX))(QJ:dR P w K mg base 2 "mixed_made" 5 (aH 6 eS)):aV P w K mg base (bQ P w) 3 f fd ["sizes","made_rows","made","first"] (eh 4 fc) :=
 F.gS ["sizes","made_rows","made","first","dial","times"] λnd _ _ _ _ _ _ hr O=>by
 unfold iK;walk_at "t";walk_at "pp";refine(bM (g:=(aM 4)) O rfl (zP (by rfl) T.cH ?_) Df (aQ (i:=4) nd) a_ ?_);walk_at "pp"
def vo(F:bp K "in_spans" "in_spans" (top 40) dv f fd)(T:Txt K mg)(RG:dR P w K mg base 1 "mixed" 4 (aH 4 mD)):aV P w K mg base (bQ P w) 2 f fd ["pulls","idle_rows"] (eh 2 iY) :=
 F.gS ["pulls","idle_rows","lever","row"] λnd _ _ _ _ _ _ hr O=>by
 unfold jg;walk_at "t";walk_at "pp";refine(bM (g:=(aM 2)) O rfl (AD (by rfl) T.cH ?_) DZ (aQ (i:=2) nd) a_ ?_);walk_at "pp"
def uF(F:bp K "_law_cell" "_law_cell" (top 46) dv f fd)(T:Txt K mg)  : aV P w K mg base (bQ P w) 1 f fd ["_law_script","_law_k"] (eh 2 cq) :=
 F.gS ["_law_script","_law_k"] λnd _ _ _ _ _ _ hr O=>by
 unfold h9;walk_at "t";walk_at "pp"
def r_(F:bp K "_law_mixed" "_law_mixed" (top 47) dv f fd)(T:Txt K mg)  : aV P w K mg base (bQ P w) 1 f fd ["_law_cell_here","_law_k"] (eh 2 aC) :=
 F.gS ["_law_cell_here","_law_k","_law_number"] λnd _ _ _ _ _ _ hr O=>by
 unfold bV;walk_at "t";walk_at "pp"
def lC(F:bp K "_law_free_sizes" "_law_free_sizes" (top 48) dv f fd)(T:Txt K mg)  : aV P w K mg base (bQ P w) 1 f fd ["_law_rest","_law_most"] (eh 2 cZ) :=
 F.gS ["_law_rest","_law_most","_law_sizes_here","_law_room"] λnd _ _ _ _ _ _ hr O=>by
 unfold c9;walk_at "t";walk_at "pp";refine(mj 2 ?_);walk_at "pp";refine(oZ O ?_ ?_);walk_at "pp";refine(J7 ?_ (Ft ?_)).pt;walk_at "pp";refine(mj 2 ?_);walk_at "pp"
def rK(F:bp K "_law_sizes" "_law_sizes" (top 49) dv f fd)(T:Txt K mg)(QL:dR P w K mg base 1 "_law_free_sizes" 2 (aH 4 c9))(Qr:dR P w K mg base 1 "_law_mixed" 2 (aH 3 bV)):aV P w K mg base (bQ P w) 2 f fd ["_law_cell_here","_law_most"] (eh 2 gv) :=
 F.gS ["_law_cell_here","_law_most","_law_sizes_here","_law_room","_law_k","_law_top"] λnd _ _ _ _ _ _ hr O=>by
 unfold gB;walk_at "t";walk_at "pp";refine(bM (g:=(aM 4)) O rfl (bX (by rfl) T.cH ?_) cL (aQ (i:=4) nd) a_ ?_);walk_at "pp";refine(iD (sW rfl) uM (by rfl) T.Bt A5 ?_);walk_at "pp";exact(yi [12,12,12,360]);walk_at "pp";refine(mj 2 ?_);walk_at "pp"
def pd(F:bp K "_law_digits" "_law_digits" (top 50) dv f fd)(T:Txt K mg)  : aV P w K mg base (bQ P w) 1 f fd ["_law_rest","_law_sizes_here"] (eh 2 fm) :=
 F.gS ["_law_rest","_law_sizes_here","_law_found","_law_size"] λnd _ _ _ _ _ _ hr O=>by
 unfold fk;walk_at "t";walk_at "pp";refine(bM (g:=(aM 3)) O rfl (dU ?_) cU (aQ (i:=3) nd) a_ ?_);walk_at "pp"
def r9(F:bp K "_law_lever" "_law_lever" (top 51) dv f fd)(T:Txt K mg)(Q6:dR P w K mg base 1 "_law_digits" 2 (aH 4 fk))(Qr:dR P w K mg base 1 "_law_mixed" 2 (aH 3 bV)):aV P w K mg base (bQ P w) 2 f fd ["_law_cell_here","_law_sizes_here"] (eh 2 dF) :=
 F.gS ["_law_cell_here","_law_sizes_here","_law_by","_law_far","_law_lever_here","_law_k","_law_number","_law_turns"] λnd _ _ _ _ _ _ hr O=>by
 unfold gA;walk_at "t";walk_at "pp";exact(yi [1,1,2,3,4,6]);walk_at "pp";refine(bM (g:=(aM 5)) O rfl (bX (by rfl) T.cH ?_) cL (aQ (i:=5) nd) a_ ?_);walk_at "pp";refine(iD (sW rfl) uM (by rfl) T.Bt A5 ?_);walk_at "pp"
def ik:((["_law_here","_law_there","_law_size"]:List Str)++([]:List Str)).Nodup:=by decide +kernel
def vF(F:bp K "_law_sum" "_law_sum" (top 52) dv f fd)(T:Txt K mg)  : aV P w K mg base (bQ P w) 1 f fd ["_law_one","_law_other","_law_sizes_here"] (eh 3 cT) :=
 F.gS ["_law_one","_law_other","_law_sizes_here"] λnd _ _ _ _ _ _ hr O=>by
 unfold gM;walk_at "t";walk_at "pp";refine(bT (bF (g:=(kM K 3 (bK (aM 0) (bK (aM 1) (bK (aM 2) jY))))) (ts:=["_law_here","_law_there","_law_size"]) (fs:=[]) (js:=[]) (cl:=[]) rfl rfl rfl rfl rfl rfl .nil .nil (yn (by rfl) T.nP ?_) vN (λ_ _ _ _ _=>(e9 (n:=3) rfl (aP (aQ (i:=0) ik) (aP (aQ (i:=1) ik) (aP (aQ (i:=2) ik) c7))))) (λ_=>yr) xc (λ_ _ _ _ _=>?_)));walk_at "pp"
def n5:((["_law_size"]:List Str)++([]:List Str)).Nodup:=by decide +kernel
def rQ(F:bp K "_law_group" "_law_group" (top 53) dv f fd)(T:Txt K mg)(QR:dR P w K mg base 1 "_law_sum" 3 (aH 3 gM)):aV P w K mg base (bQ P w) 2 f fd ["_law_rows","_law_sizes_here"] (eh 2 gC) :=
 F.gS ["_law_rows","_law_sizes_here","_law_empty","_law_found","_law_spans","_law_row","_law_here","_law_ones","_law_shift","_law_turn","_law_one"] λnd _ _ _ _ _ _ hr O=>by
 unfold gD;walk_at "t";walk_at "pp";refine(bT (bF (g:=(aM 0)) (ts:=["_law_size"]) (fs:=[]) (js:=[]) (cl:=[]) rfl rfl rfl rfl rfl rfl .nil .nil (dU ?_) cU (λ_ _ _ _ _=>(aQ (i:=0) n5)) (λ_=>a_) bx (λ_ _ _ _ _=>?_)));walk_at "pp";refine(G1 (i:=3) hr.Iw nd rfl ↑9 ?_ ?_);walk_at "pp";refine(bM (g:=(aM 5)) O rfl (dU ?_) cU (aQ (i:=5) nd) a_ ?_);walk_at "pp";refine(oZ O ?_ ?_);walk_at "pp";refine(Iy (i:=3) (FD hr.u1) rfl ↑3 ?_ (by rfl));walk_at "pp";refine(Fv (i:=4) rfl ↑3 ?_);walk_at "pp";refine(bT ?_);walk_at "pp";exact(AS (i:=3) rfl (by rfl) T.uP rfl ↑3);walk_at "pp";refine(bM (g:=(aM 9)) O rfl (bX (by rfl) T.cH ?_) cL (aQ (i:=9) nd) a_ ?_);walk_at "pp";refine(mj 4 ?_);walk_at "pp";refine(bM (g:=(aM 10)) O rfl (dU ?_) cU (aQ (i:=10) nd) a_ ?_);walk_at "pp";refine(GU (i:=3) hr.u1 rfl ↑3 ?_ ?_);walk_at "pp";refine(L5 3 ?_);walk_at "pp"
def jJ:((["_law_number","_law_size"]:List Str)++([]:List Str)).Nodup:=by decide +kernel
def ue(F:bp K "_law_kept" "_law_kept" (top 54) dv f fd)(T:Txt K mg)  : aV P w K mg base (bQ P w) 1 f fd ["_law_lever_here","_law_sizes_here"] (eh 2 fO) :=
 F.gS ["_law_lever_here","_law_sizes_here"] λnd _ _ _ _ _ _ hr O=>by
 unfold hU;walk_at "t";walk_at "pp";refine(bT (bF (g:=(kM K 2 (bK (aM 0) (bK (aM 1) jY)))) (ts:=["_law_number","_law_size"]) (fs:=[]) (js:=[]) (cl:=[]) rfl rfl rfl rfl rfl rfl .nil .nil (pS (by rfl) T.nP ?_) mz (λ_ _ _ _ _=>(e9 (n:=2) rfl (aP (aQ (i:=0) jJ) (aP (aQ (i:=1) jJ) c7)))) (λ_=>eQ) dc (λ_ _ _ _ _=>?_)));walk_at "pp"
def gY:((["_law_at","_law_size"]:List Str)++(["_law_cell_here","_law_k"]:List Str)).Nodup:=by decide +kernel
def oz(F:bp K "_law_setting" "_law_setting" (top 55) dv f fd)(T:Txt K mg)(Qr:dR P w K mg base 1 "_law_mixed" 2 (aH 3 bV)):aV P w K mg base (bQ P w) 2 f fd ["_law_cell_here","_law_k","_law_sizes_here"] (eh 3 dr) :=
 F.gS ["_law_cell_here","_law_k","_law_sizes_here"] λnd _ _ _ _ _ _ hr O=>by
 unfold dy;walk_at "t";walk_at "pp";refine(bT (bF (g:=(kM K 2 (bK (aM 0) (bK (aM 1) jY)))) (ts:=["_law_at","_law_size"]) (fs:=["_law_cell_here","_law_k"]) (js:=[0,1]) rfl rfl rfl rfl rfl rfl (.cons rfl (.cons rfl .nil)) (.cons rfl rfl ↑9 rfl rfl ↑4) (nB (by rfl) T.c_ ?_) kA (λ_ _ _ _ _=>(e9 (n:=2) rfl (aP (aQ (i:=0) gY) (aP (aQ (i:=1) gY) c7)))) (λ_=>eQ) dc (λ_ _ _ _ _=>?_)));walk_at "pp"
def rA:((["_law_size"]:List Str)++([]:List Str)).Nodup:=by decide +kernel
def vD(F:bp K "_law_bad" "_law_bad" (top 56) dv f fd)(T:Txt K mg)(Qr:dR P w K mg base 1 "_law_mixed" 2 (aH 3 bV)):aV P w K mg base (bQ P w) 2 f fd ["_law_cell_here","_law_sizes_here"] (eh 2 ju) :=
 F.gS ["_law_cell_here","_law_sizes_here","_law_one","_law_some"] λnd _ _ _ _ _ _ hr O=>by
 unfold iV;walk_at "t";walk_at "pp";refine(oS (i:=2) (g:=(aM 0)) (ts:=["_law_size"]) (fs:=[]) (js:=[]) (cl:=[]) rfl rfl rfl rfl rfl rfl .nil .nil (dU ?_) cU (λ_ _ _ _ _=>(aQ (i:=0) rA)) (λ_=>a_) bx (λ_ _ _ _ _=>?_) nd rfl ↑9);walk_at "pp";refine(iJ ?_ (ku ?_) oX);walk_at "pp";refine(iJ ?_ (ku ?_) oX);walk_at "pp";refine(iJ ?_ (ku ?_) oX);walk_at "pp";refine(iJ ?_ (ku ?_) oX);walk_at "pp"
def mW:((["_law_one"]:List Str)++([]:List Str)).Nodup:=by decide +kernel
def qa(F:bp K "_law_listed" "_law_listed" (top 57) dv f fd)(T:Txt K mg)  : aV P w K mg base (bQ P w) 1 f fd ["_law_found","_law_due"] (eh 2 dJ) :=
 F.gS ["_law_found","_law_due"] λnd _ _ _ _ _ _ hr O=>by
 unfold dM;walk_at "t";walk_at "pp";refine(yH ?_ (tU ?_)).pt;walk_at "pp";refine(qg (T := "list") (by rfl) T.cS (iU (v:=.ty "list") (by rfl) T.uP u6 rfl) ↑12 pD pD ?_);walk_at "pp";refine(bT (Ba (g:=(aM 0)) (ts:=["_law_one"]) (fs:=[]) (js:=[]) (cl:=[]) rfl rfl rfl rfl rfl rfl .nil .nil (dU ?_) cU (λ_ _ _ _ _=>(aQ (i:=0) mW)) (λ_=>a_) bx (λ_ _ _ _ _=>?_) (λ_ _ _ _ _=>?_)));walk_at "pp";refine(qg (T := "tuple") (by rfl) T.cS (iU (v:=.ty "tuple") (by rfl) T.oY mn rfl) ↑12 pD pD ?_);walk_at "pp"
def lr:((["_law_k"]:List Str)++(["_law_cell_here","_law_counts"]:List Str)).Nodup:=by decide +kernel
def kZ:((["_law_k"]:List Str)++(["_law_counts","_law_steps"]:List Str)).Nodup:=by decide +kernel
def nq(F:bp K "_law_by_parts" "_law_by_parts" (top 59) dv f fd)(T:Txt K mg)(Qr:dR P w K mg base 1 "_law_mixed" 2 (aH 3 bV)):aV P w K mg base (bQ P w) 2 f fd ["_law_cell_here"] (eh 1 cW) :=
 F.gS ["_law_cell_here","_law_counts","_law_steps","_law_sizes_here","_law_levers"] λnd _ _ _ _ _ _ hr O=>by
 unfold cX;walk_at "t";walk_at "pp";refine(bT (bF (g:=(aM 0)) (ts:=["_law_k"]) (fs:=["_law_cell_here","_law_counts"]) (js:=[0,1]) rfl rfl rfl rfl rfl rfl (.cons rfl (.cons rfl .nil)) (.cons rfl rfl ↑9 rfl rfl ↑4) (bX (by rfl) T.cH ?_) cL (λ_ _ _ _ _=>(aQ (i:=0) lr)) (λ_=>a_) bx (λ_ _ _ _ _=>?_)));walk_at "pp";refine(oS (i:=3) (g:=(aM 0)) (ts:=["_law_k"]) (fs:=["_law_counts","_law_steps"]) (js:=[1,2]) rfl rfl rfl rfl rfl rfl (.cons rfl (.cons rfl .nil)) (.cons rfl rfl ↑9 rfl rfl ↑4) (bX (by rfl) T.cH ?_) cL (λ_ _ _ _ _=>(aQ (i:=0) kZ)) (λ_=>a_) bx (λ_ _ _ _ _=>?_) nd rfl ↑9);walk_at "pp"
def kT:bS ["self","sizes","levers","prices"] ["self","sizes","levers","prices"] (aT (inClass (top 22) 0)):=.of
def oj:((["lever"]:List Str)++(["sizes"]:List Str)).Nodup:=by decide +kernel
def rO(F:bp K "__init__" "Vault.__init__" (inClass (top 22) 0) dv f fd)(T:Txt K mg)(Rq:dR P w K mg base 3 "need_sizes" 1 (aH 3 gj))(Q8:dR P w K mg base 3 "need_levers" 2 (aH 4 fg))(Q2:dR P w K mg base 1 "rests" 2 (aH 2 ki))(Rr:dR P w K mg base 3 "prices_for" 2 (aH 3 gE))(Q7:dR P w K mg base 2 "multiple_of" 1 (aH 3 fK)):aV P w K mg base (bQ P w) 4 f fd ["self","sizes","levers","prices"] (Hh 4 aE fy) :=
 F.Ph kT ↑12 λ_ _ _ _ _ _ hr O=>by
 unfold jb;have:=kT.nd;have T2:=T;cases T2;walk_at "pp";refine(lG (i:=0) rfl ↑3 T.mw T.gJ ?_);walk_at "pp";refine(lG (i:=0) rfl ↑3 T.mw T.eP ?_);walk_at "pp";refine(bT (bF (g:=(aM 0)) (ts:=["lever"]) (fs:=["sizes"]) (js:=[1]) rfl rfl rfl rfl rfl rfl (.cons rfl .nil) ↑4 (dU ?_) cU (λ_ _ _ _ _=>(aQ (i:=0) oj)) (λ_=>a_) bx (λ_ _ _ _ _=>?_)));walk_at "pp";refine(lG (i:=0) rfl ↑3 T.mw T.fZ ?_);walk_at "pp";refine(lG (i:=0) rfl ↑3 T.mw T.gc ?_);walk_at "pp"
def qB(F:bp K "sizes" "Vault.sizes" (inClass (top 22) 1) dv f fd)(T:Txt K mg)  : aV P w K mg base (bQ P w) 1 f fd ["self"] (eh 1 bj) :=
 F.gS ["self"] λnd _ _ _ _ _ _ hr O=>by
 unfold bD;walk_at "t";walk_at "pp"
def nZ(F:bp K "levers" "Vault.levers" (inClass (top 22) 2) dv f fd)(T:Txt K mg)  : aV P w K mg base (bQ P w) 1 f fd ["self"] (eh 1 bZ) :=
 F.gS ["self"] λnd _ _ _ _ _ _ hr O=>by
 unfold cN;walk_at "t";walk_at "pp"
def nh:((["dial"]:List Str)++(["self","sizes"]:List Str)).Nodup:=by decide +kernel
def qN(F:bp K "steps" "Rungs.steps" (inClass (top 41) 1) dv f fd)(T:Txt K mg)(Qp:q_ P w K mg base aE 1 "sizes" 1 (aH 1 bD))(QB:dR P w K mg base 1 "step_size" 3 (aH 4 dX)):aV P w K mg base (bQ P w) 2 f fd ["self"] (eh 1 fE) :=
 F.gS ["self","sizes"] λnd _ _ _ _ _ _ hr O=>by
 unfold fI;walk_at "t";walk_at "pp";refine(bT (bF (g:=(aM 0)) (ts:=["dial"]) (fs:=["self","sizes"]) (js:=[0,1]) rfl rfl rfl rfl rfl rfl (.cons rfl (.cons rfl .nil)) (.cons rfl rfl ↑9 rfl rfl ↑4) (bX (by rfl) T.cH ?_) cL (λ_ _ _ _ _=>(aQ (i:=0) nh)) (λ_=>a_) bx (λ_ _ _ _ _=>?_)));walk_at "pp"
def n_:((["made"]:List Str)++([]:List Str)).Nodup:=by decide +kernel
def rW(F:bp K "rows" "Rungs.rows" (inClass (top 41) 2) dv f fd)(T:Txt K mg)  : aV P w K mg base (bQ P w) 1 f fd ["self"] (eh 1 gz) :=
 F.gS ["self"] λnd _ _ _ _ _ _ hr O=>by
 unfold gy;walk_at "t";walk_at "pp";refine(bT (bF (g:=(aM 0)) (ts:=["made"]) (fs:=[]) (js:=[]) (cl:=[]) rfl rfl rfl rfl rfl rfl .nil .nil (dU ?_) cU (λ_ _ _ _ _=>(aQ (i:=0) n_)) (λ_=>a_) bx (λ_ _ _ _ _=>?_)));walk_at "pp"
def iB:((["lever","row"]:List Str)++([]:List Str)).Nodup:=by decide +kernel
def qf(F:bp K "spans" "Rungs.spans" (inClass (top 41) 3) dv f fd)(T:Txt K mg)  : aV P w K mg base (bQ P w) 1 f fd ["self"] (eh 1 fj) :=
 F.gS ["self"] λnd _ _ _ _ _ _ hr O=>by
 unfold fF;walk_at "t";walk_at "pp";refine(bT (bF (g:=(kM K 2 (bK (aM 0) (bK (aM 1) jY)))) (ts:=["lever","row"]) (fs:=[]) (js:=[]) (cl:=[]) rfl rfl rfl rfl rfl rfl .nil .nil (nB (by rfl) T.c_ ?_) kA (λ_ _ _ _ _=>(e9 (n:=2) rfl (aP (aQ (i:=0) iB) (aP (aQ (i:=1) iB) c7)))) (λ_=>eQ) dc (λ_ _ _ _ _=>?_)));walk_at "pp"
def Ar(F:bp K "nought" "nought" (top 28) dv f fd)(T:Txt K mg)(Qp:q_ P w K mg base aE 1 "sizes" 1 (aH 1 bD)):aV P w K mg base (bQ P w) 2 f fd ["vault"] (eh 1 jL) :=
 F.gS ["vault"] λnd _ _ _ _ _ _ hr O=>by
 unfold l7;walk_at "t";walk_at "pp"
def jz:((["notch","size"]:List Str)++([]:List Str)).Nodup:=by decide +kernel
def rE(F:bp K "is_setting" "is_setting" (top 29) dv f fd)(T:Txt K mg)(Qp:q_ P w K mg base aE 1 "sizes" 1 (aH 1 bD))(Ro:dR P w K mg base 2 "is_row" 2 (aH 2 jZ)):aV P w K mg base (bQ P w) 3 f fd ["vault","thing"] (eh 2 aS) :=
 F.gS ["vault","thing","sizes"] λnd _ _ _ _ _ _ hr O=>by
 unfold cy;walk_at "t";walk_at "pp";refine(yH ?_ (tU ?_)).pt;walk_at "pp";refine(qg (T := "tuple") (by rfl) T.cS (iU (v:=.ty "tuple") (by rfl) T.oY mn rfl) ↑12 pD pD ?_);walk_at "pp";refine(bT (bF (g:=(kM K 2 (bK (aM 0) (bK (aM 1) jY)))) (ts:=["notch","size"]) (fs:=[]) (js:=[]) (cl:=[]) rfl rfl rfl rfl rfl rfl .nil .nil (pS (by rfl) T.nP ?_) mz (λ_ _ _ _ _=>(e9 (n:=2) rfl (aP (aQ (i:=0) jz) (aP (aQ (i:=1) jz) c7)))) (λ_=>eQ) dc (λ_ _ _ _ _=>?_)));walk_at "pp";refine(wR wy pY Bk xf ?_ ?_ ?_);walk_at "pp"
def oC(F:bp K "need_setting" "need_setting" (top 30) dv f fd)(T:Txt K mg)(Rp:dR P w K mg base 3 "is_setting" 2 (aH 3 cy)):aV P w K mg base (bQ P w) 4 f fd ["vault","thing"] (eh 2 cj) :=
 F.gS ["vault","thing"] λnd _ _ _ _ _ _ hr O=>by
 unfold cK;walk_at "t";walk_at "pp"
def qI:((["notch","turn"]:List Str)++(["times"]:List Str)).Nodup:=by decide +kernel
def B0(F:bp K "added" "added" (top 31) dv f fd)(T:Txt K mg)(Qp:q_ P w K mg base aE 1 "sizes" 1 (aH 1 bD))(Q2:dR P w K mg base 1 "rests" 2 (aH 2 ki)):aV P w K mg base (bQ P w) 2 f fd ["vault","setting","other","times"] (eh 4 mC) :=
 F.gS ["vault","setting","other","times","numbers"] λnd _ _ _ _ _ _ hr O=>by
 unfold oN;walk_at "t";walk_at "pp";refine(oS (i:=4) (g:=(kM K 2 (bK (aM 0) (bK (aM 1) jY)))) (ts:=["notch","turn"]) (fs:=["times"]) (js:=[3]) rfl rfl rfl rfl rfl rfl (.cons rfl .nil) ↑4 (pS (by rfl) T.nP ?_) mz (λ_ _ _ _ _=>(e9 (n:=2) rfl (aP (aQ (i:=0) qI) (aP (aQ (i:=1) qI) c7)))) (λ_=>eQ) dc (λ_ _ _ _ _=>?_) nd rfl ↑9);walk_at "pp"
def wJ(F:bp K "unpulled" "unpulled" (top 35) dv f fd)(T:Txt K mg)(Qs:q_ P w K mg base aE 1 "levers" 1 (aH 1 cN)):aV P w K mg base (bQ P w) 2 f fd ["vault","setting"] (eh 2 eX) :=
 F.gS ["vault","setting"] λnd _ _ _ _ _ _ hr O=>by
 unfold gK;walk_at "t";walk_at "pp"
def qY(F:bp K "pulled_once" "pulled_once" (top 36) dv f fd)(T:Txt K mg)(Qs:q_ P w K mg base aE 1 "levers" 1 (aH 1 cN))(RN:dR P w K mg base 1 "unit_row" 2 (aH 2 iQ)):aV P w K mg base (bQ P w) 2 f fd ["vault","lever"] (eh 2 fG) :=
 F.gS ["vault","lever","levers"] λnd _ _ _ _ _ _ hr O=>by
 unfold fu;walk_at "t";walk_at "pp"
def ir:bS ["self","vault","sizes","made_rows","idle_rows","lever","taken"] ["self","vault"] (aT (inClass (top 41) 0)):=.of
def oy:((["size"]:List Str)++(["vault"]:List Str)).Nodup:=by decide +kernel
def jC:((["dial","made"]:List Str)++(["sizes","made_rows"]:List Str)).Nodup:=by decide +kernel
def rN(F:bp K "__init__" "Rungs.__init__" (inClass (top 41) 0) dv f fd)(T:Txt K mg)(Qp:q_ P w K mg base aE 1 "sizes" 1 (aH 1 bD))(R5:dR P w K mg base 2 "nought" 1 (aH 1 l7))(QT:dR P w K mg base 2 "unpulled" 2 (aH 2 gK))(Qs:q_ P w K mg base aE 1 "levers" 1 (aH 1 cN))(Q9:dR P w K mg base 2 "pulled_once" 2 (aH 3 fu))(RM:dR P w K mg base 3 "taken_in" 3 (aH 9 iW))(RL:dR P w K mg base 2 "in_spans" 2 (aH 4 jg))(Q1:dR P w K mg base 3 "lowered" 4 (aH 6 iK)):aV P w K mg base (bQ P w) 4 f fd ["self","vault"] (Hh 2 aB gX) :=
 F.Ph ir ↑12 λ_ _ _ _ _ _ hr O=>by
 unfold i4;have:=ir.nd;have T2:=T;cases T2;walk_at "pp";refine(bT (bF (g:=(aM 0)) (ts:=["size"]) (fs:=["vault"]) (js:=[1]) rfl rfl rfl rfl rfl rfl (.cons rfl .nil) ↑4 (dU ?_) cU (λ_ _ _ _ _=>(aQ (i:=0) oy)) (λ_=>a_) bx (λ_ _ _ _ _=>?_)));walk_at "pp";refine(bM (g:=(aM 5)) O rfl (bX (by rfl) T.cH ?_) cL (aQ (i:=5) ir.nd) a_ ?_);walk_at "pp";refine(mj 4 ?_);walk_at "pp";refine(lG (i:=0) rfl ↑3 T.oQ T.kY ?_);walk_at "pp";refine(lG (i:=0) rfl ↑3 T.oQ T.hZ ?_);walk_at "pp";refine(bT (bF (g:=(kM K 2 (bK (aM 0) (bK (aM 1) jY)))) (ts:=["dial","made"]) (fs:=["sizes","made_rows"]) (js:=[2,3]) rfl rfl rfl rfl rfl rfl (.cons rfl (.cons rfl .nil)) (.cons rfl rfl ↑9 rfl rfl ↑4) (nB (by rfl) T.c_ ?_) kA (λ_ _ _ _ _=>(e9 (n:=2) rfl (aP (aQ (i:=0) jC) (aP (aQ (i:=1) jC) c7)))) (λ_=>eQ) dc (λ_ _ _ _ _=>?_)));walk_at "pp";refine(lG (i:=0) rfl ↑3 T.oQ T.hV ?_);walk_at "pp"
def jF(F:bp K "brought_down" "Rungs.brought_down" (inClass (top 41) 5) dv f fd)(T:Txt K mg)(QD:dR P w K mg base 4 "need_setting" 2 (aH 2 cK))(QT:dR P w K mg base 2 "unpulled" 2 (aH 2 gK))(Qp:q_ P w K mg base aE 1 "sizes" 1 (aH 1 bD))(Q1:dR P w K mg base 3 "lowered" 4 (aH 6 iK)):aV P w K mg base (bQ P w) 5 f fd ["self","setting"] (eh 2 cv) :=
 F.gS ["self","setting"] λnd _ _ _ _ _ _ hr O=>by
 unfold cx;walk_at "t";walk_at "pp"
def o_(F:bp K "least" "Rungs.least" (inClass (top 41) 6) dv f fd)(T:Txt K mg)(QF:q_ P w K mg base aB 5 "brought_down" 2 (aH 2 cx)):aV P w K mg base (bQ P w) 6 f fd ["self","setting"] (eh 2 fH) :=
 F.gS ["self","setting"] λnd _ _ _ _ _ _ hr O=>by
 unfold fw;walk_at "t";walk_at "pp"
def cp:bS ["vault","setting","rungs","settings","size","step","row","wider","times"] ["vault","setting"] (aT (top 44)):=.of
def mq:((["reached"]:List Str)++(["vault","row","times"]:List Str)).Nodup:=by decide +kernel
def oB(F:bp K "all_together" "all_together" (top 44) dv f fd)(T:Txt K mg)(Ri:q_ P w K mg base aB 1 "rows" 1 (aH 1 gy))(Q5:q_ P w K mg base aB 2 "steps" 1 (aH 2 fI))(Qp:q_ P w K mg base aE 1 "sizes" 1 (aH 1 bD))(Sr:dR P w K mg base 2 "added" 4 (aH 5 oN))(Q3:q_ P w K mg base aB 6 "least" 2 (aH 2 fw))(Q4:q_ P w K mg base aB 1 "spans" 1 (aH 1 fF))(Rt:dR P w K mg base 1 "product_of" 1 (aH 3 gu))(Rh:HQ P w K mg base aB 4 "Rungs" 2 [] gX)(QD:dR P w K mg base 4 "need_setting" 2 (aH 2 cK)):aV P w K mg base (bQ P w) 7 f fd ["vault","setting"] (NK 2 (λps=>br (gU 9 ps))) :=
 F.okN cp λ_ _ _ _ _ _ hr O=>by
 unfold br;have:=cp.nd;have T2:=T;cases T2;walk_at "pp";refine(iO ?_   (iO ?_   (iO ?_   (iO ?_   (iO ?_   (Ci ?_))))));walk_at "pp";refine(bM (g:=(kM K 3 (bK (aM 4) (bK (aM 5) (bK (aM 6) jY))))) O rfl (yn (by rfl) T.nP ?_) vN (e9 (n:=3) rfl (aP (aQ (i:=4) cp.nd) (aP (aQ (i:=5) cp.nd) (aP (aQ (i:=6) cp.nd) c7)))) yr ?_);walk_at "pp";refine(bM (g:=(aM 8)) O rfl (bX (by rfl) T.cH ?_) cL (aQ (i:=8) cp.nd) a_ ?_);walk_at "pp";refine(zK (i:=7) rfl ↑3 ?_);walk_at "pp";refine(bT (bF (g:=(aM 0)) (ts:=["reached"]) (fs:=["vault","row","times"]) (js:=[0,6,8]) rfl rfl rfl rfl rfl rfl (.cons rfl (.cons rfl (.cons rfl .nil))) (.cons rfl rfl ↑9 rfl rfl (.cons rfl rfl ↑9 rfl rfl ↑4)) (dU ?_) cU (λ_ _ _ _ _=>(aQ (i:=0) mq)) (λ_=>a_) bx (λ_ _ _ _ _=>?_)));walk_at "pp";refine(Cd sR yJ (by rfl) T.pV tM ?_);walk_at "pp"
def vb(F:bp K "_law_word" "_law_word" (top 58) dv f fd)(T:Txt K mg)(Qq:LD P w K mg base 7 "all_together" 2 (λps=>br (gU 9 ps))):aV P w K mg base (bQ P w) 8 f fd ["_law_vault","_law_setting_here"] (eh 2 dC) :=
 F.gS ["_law_vault","_law_setting_here","_law_word_here"] λnd _ _ _ _ _ _ hr O=>by
 unfold fS;walk_at "t";walk_at "pp";refine(Jq rfl rfl (λpn E2 O2=>(Gq ?_)) (.A_ (by rfl) T.jI.mg ↑12 T.jI.ok (λea=>?_) (.A_ (by rfl) T.ng.mg ↑12 T.ng.ok (λea=>?_) .nil)));walk_at "pp";refine(bT ?_);walk_at "pp";refine(Qq.y_ hr ⋯ (by rfl) O2 ?_);walk_at "pp"
def rJ(F:bp K "_law_large" "_law_large" (top 60) dv f fd)(T:Txt K mg)(QU:dR P w K mg base 2 "_law_by_parts" 1 (aH 5 cX))(QI:HQ P w K mg base aE 4 "Vault" 4 [.c8] fy)(QC:dR P w K mg base 2 "_law_setting" 3 (aH 3 dy))(RJ:dR P w K mg base 2 "_law_bad" 2 (aH 4 iV))(RC:dR P w K mg base 8 "_law_word" 2 (aH 3 fS))(Qq:LD P w K mg base 7 "all_together" 2 (λps=>br (gU 9 ps)))(QE:dR P w K mg base 1 "_law_listed" 2 (aH 2 dM)):aV P w K mg base (bQ P w) 9 f fd ["_law_cell_here"] (eh 1 eJ) :=
 F.gS ["_law_cell_here","_law_counts","_law_steps","_law_sizes_here","_law_levers","_law_vault","_law_one","_law_due","_law_here","_law_there"] λnd _ _ _ _ _ _ hr O=>by
 unfold eO;walk_at "t";walk_at "pp";refine(KH (g:=(Jb K 4 (t8 [1,2,3,4]))) (Ir (n:=4) rfl (aP (aQ (i:=1) nd) (aP (aQ (i:=2) nd) (aP (aQ (i:=3) nd) (aP (aQ (i:=4) nd) c7))))) Jg ?_);walk_at "pp";refine(bM (g:=(aM 8)) O rfl (bX (by rfl) T.cH ?_) cL (aQ (i:=8) nd) a_ ?_);walk_at "pp";refine(bM (g:=(aM 9)) O rfl (bX (by rfl) T.cH ?_) cL (aQ (i:=9) nd) a_ ?_);walk_at "pp";refine(bT ?_);walk_at "pp";refine(Qq.y_ hr ⋯ (by rfl) O ?_);walk_at "pp"
def EI:((["_law_k"]:List Str)++(["_law_script","_law_sizes_here"]:List Str)).Nodup:=by decide +kernel
def BX:((["_law_lever_here"]:List Str)++(["_law_sizes_here"]:List Str)).Nodup:=by decide +kernel
def B7:((["_law_doing"]:List Str)++(["_law_sizes_here","_law_one"]:List Str)).Nodup:=by decide +kernel
def Jm(F:bp K "law" "law" (top 61) dv f fd)(T:Txt K mg)(RA:dR P w K mg base 1 "_law_cell" 2 (aH 2 h9))(Rm:dR P w K mg base 2 "_law_sizes" 2 (aH 6 gB))(Qr:dR P w K mg base 1 "_law_mixed" 2 (aH 3 bV))(Rl:dR P w K mg base 2 "_law_lever" 2 (aH 8 gA))(QI:HQ P w K mg base aE 4 "Vault" 4 [.c8] fy)(RB:dR P w K mg base 1 "_law_kept" 2 (aH 2 hU))(Rj:dR P w K mg base 2 "_law_group" 2 (aH 11 gD))(QC:dR P w K mg base 2 "_law_setting" 3 (aH 3 dy))(QR:dR P w K mg base 1 "_law_sum" 3 (aH 3 gM))(Qq:LD P w K mg base 7 "all_together" 2 (λps=>br (gU 9 ps)))(QE:dR P w K mg base 1 "_law_listed" 2 (aH 2 dM))(Rk:dR P w K mg base 9 "_law_large" 1 (aH 10 eO)):aV P w K mg base (bQ P w) 10 f fd ["_law_script"] (eh 1 sx) :=
 F.gS ["_law_script","_law_sizes_here","_law_many","_law_levers","_law_vault","_law_group_here","_law_cell_here","_law_one","_law_due","_law_found"] λnd _ _ _ _ _ _ hr O=>by
 unfold EG;walk_at "t";walk_at "pp";refine(oS (i:=3) (g:=(aM 0)) (ts:=["_law_k"]) (fs:=["_law_script","_law_sizes_here"]) (js:=[0,1]) rfl rfl rfl rfl rfl rfl (.cons rfl (.cons rfl .nil)) (.cons rfl rfl ↑9 rfl rfl ↑4) (bX (by rfl) T.cH ?_) cL (λ_ _ _ _ _=>(aQ (i:=0) EI)) (λ_=>a_) bx (λ_ _ _ _ _=>?_) nd rfl ↑9);walk_at "pp";refine(bT (bF (g:=(aM 0)) (ts:=["_law_lever_here"]) (fs:=["_law_sizes_here"]) (js:=[1]) rfl rfl rfl rfl rfl rfl (.cons rfl .nil) ↑4 (dU ?_) cU (λ_ _ _ _ _=>(aQ (i:=0) BX)) (λ_=>a_) bx (λ_ _ _ _ _=>?_)));walk_at "pp";refine(bM (g:=(aM 6)) O rfl (dU ?_) cU (aQ (i:=6) nd) a_ ?_);walk_at "pp";refine(iJ ?_ (ku ?_) (ku ?_));walk_at "pp";refine(iD sR GV (by rfl) T.pV tM ?_);walk_at "pp";refine(bT (bF (g:=(aM 0)) (ts:=["_law_doing"]) (fs:=["_law_sizes_here","_law_one"]) (js:=[1,7]) rfl rfl rfl rfl rfl rfl (.cons rfl (.cons rfl .nil)) (.cons rfl rfl ↑9 rfl rfl ↑4) (Kh ?_) FG (λ_ _ _ _ _=>(aQ (i:=0) B7)) (λ_=>a_) bx (λ_ _ _ _ _=>?_)));walk_at "pp";refine(Qq.y_ hr ⋯ (by rfl) O ?_);walk_at "pp";refine(Gw 9 ?_);walk_at "pp";exact(J1 (i:=9) rfl ↑3);walk_at "pp";refine(bT ?_);walk_at "pp";refine(Qq.y_ hr ⋯ (by rfl) O ?_);walk_at "pp"
end wV
namespace wV
open PySem L2 PyProof.Rows
open PySem.W (nsIn findIn codeIn keepIn isFn mroIn specialIn takesIn hasDictIn typeIn plainGet plainOver makesIn mg_of mg_none_of fnOf excIn clsIn)
abbrev κ(w:World):UU:=HD.K w.params
variable(w:World)
abbrev Lw:Value:=HD.st "dialvault.wholes" 363
abbrev AX:Value:=HD.st "dialvault.vault" 414
abbrev zd:Value:=HD.st "dialvault.rungs" 556
abbrev wW:Value:=HD.st "law_dialvault_k32_all_that_belong_together" 736
abbrev PZ:Value:=HD.st "dialvault.classes" 726
abbrev md5:Value:=HD.st "dialvault.errors" 194
def iq:FuncData:=fnOf "__init__" "Vault.__init__" (g8 (inClass (top 22) 0)) (dO (inClass (top 22) 0)) (aT (inClass (top 22) 0)) (.ref 203) .none .none AX none (.ref 207) .none
def l5:bp (κ w) "__init__" "Vault.__init__" (inClass (top 22) 0) (.ref 203) 208 iq:=.of ↑10 ↑10 ↑10
def iz:FuncData:=yO "__init__" "Rungs.__init__" (inClass (top 41) 0) zd 365
def tV:bp (κ w) "__init__" "Rungs.__init__" (inClass (top 41) 0) .none 366 iz:=.of ↑10 ↑10 ↑10
def uz:Binds (κ w) iz ["self","vault"] []:=Binds.all (M5 λ_ _=>rfl)
def f9:FuncData:=yO "all_together" "all_together" (top 44) PZ 427
def jT:bp (κ w) "all_together" "all_together" (top 44) .none 428 f9:=.of ↑10 ↑10 ↑10
def pq:Binds (κ w) f9 ["vault","setting"] []:=Binds.all (M5 λ_ _=>rfl)
def xW:FuncData:=yO "law" "law" (top 61) wW 523
def Nm:bp (κ w) "law" "law" (top 61) .none 524 xW:=.of ↑10 ↑10 ↑10
def ui:ja (κ w) bW:=⟨↑10,↑10,↑10,↑10,↑10,↑10,↑10,↑10,↑10⟩
def xP:ja (κ w) cn:=⟨↑10,↑10,↑10,↑10,↑10,↑10,↑10,↑10,↑10⟩
def sL:ja (κ w) fQ:=⟨↑10,↑10,↑10,↑10,↑10,↑10,↑10,↑10,↑10⟩
def gZ:FuncData:=yO "__init__" "NoDial.__init__" (inClass (top 3) 0) md5 54
def OA:(κ w).lookup 55=some ⟨.type "function",none,.func gZ,⟨[]⟩⟩:=by kernel_rfl
def OF:codeIn (κ w) (.ref 54) "NoDial.__init__"=true:=by kernel_rfl
def ya:Binds (κ w) gZ ["self","dial"] []:=Binds.all (M5 λ_ _=>rfl)
def xO:bS ["self","dial"] ["self","dial"] (aT (inClass (top 3) 0)):=.of
def N7:((clsIn (κ w) 65).any λcd=>gF cd.mro)=true:=by kernel_rfl
def O0:findIn (κ w) (.ref 65) "dial"=some none:=by kernel_rfl
def w_{P:Program}{w:World}{mg:Str->Option Value}{base:Heap}:aV P w (κ w) mg base (bQ P w) 1 55 gZ ["self","dial"] (Av (κ w) fQ "dial") :=
 pF (n0 := "self") (n1 := "dial") (fl := "dial") (OA w) (OF w) xO (sL w) (N7 w) (O0 w) ↑3 ↑3 ↑12 ↑12 ↑12 ↑12 (λ_=>rfl)
def pW:ja (κ w) e8:=⟨↑10,↑10,↑10,↑10,↑10,↑10,↑10,↑10,↑10⟩
def gk:FuncData:=yO "__init__" "NoLever.__init__" (inClass (top 4) 0) md5 80
def OU:(κ w).lookup 81=some ⟨.type "function",none,.func gk,⟨[]⟩⟩:=by kernel_rfl
def NQ:codeIn (κ w) (.ref 80) "NoLever.__init__"=true:=by kernel_rfl
def wd:Binds (κ w) gk ["self","lever"] []:=Binds.all (M5 λ_ _=>rfl)
def vm:bS ["self","lever"] ["self","lever"] (aT (inClass (top 4) 0)):=.of
def Ov:((clsIn (κ w) 91).any λcd=>gF cd.mro)=true:=by kernel_rfl
def OV:findIn (κ w) (.ref 91) "lever"=some none:=by kernel_rfl
def wA{P:Program}{w:World}{mg:Str->Option Value}{base:Heap}:aV P w (κ w) mg base (bQ P w) 1 81 gk ["self","lever"] (Av (κ w) e8 "lever") :=
 pF (n0 := "self") (n1 := "lever") (fl := "lever") (OU w) (NQ w) vm (pW w) (Ov w) (OV w) ↑3 ↑3 ↑12 ↑12 ↑12 ↑12 (λ_=>rfl)
def qv:ja (κ w) dZ:=⟨↑10,↑10,↑10,↑10,↑10,↑10,↑10,↑10,↑10⟩
def gq:FuncData:=yO "__init__" "NoPrice.__init__" (inClass (top 5) 0) md5 106
def Ol:(κ w).lookup 107=some ⟨.type "function",none,.func gq,⟨[]⟩⟩:=by kernel_rfl
def Ou:codeIn (κ w) (.ref 106) "NoPrice.__init__"=true:=by kernel_rfl
def vT:Binds (κ w) gq ["self","lever"] []:=Binds.all (M5 λ_ _=>rfl)
def vZ:bS ["self","lever"] ["self","lever"] (aT (inClass (top 5) 0)):=.of
def OX:((clsIn (κ w) 117).any λcd=>gF cd.mro)=true:=by kernel_rfl
def OT:findIn (κ w) (.ref 117) "lever"=some none:=by kernel_rfl
def wu{P:Program}{w:World}{mg:Str->Option Value}{base:Heap}:aV P w (κ w) mg base (bQ P w) 1 107 gq ["self","lever"] (Av (κ w) dZ "lever") :=
 pF (n0 := "self") (n1 := "lever") (fl := "lever") (Ol w) (Ou w) vZ (qv w) (OX w) (OT w) ↑3 ↑3 ↑12 ↑12 ↑12 ↑12 (λ_=>rfl)
def eE:mF (κ w) aB:=⟨↑10,↑10,↑10,↑10⟩
def gO:mF (κ w) aE:=⟨↑10,↑10,↑10,↑10⟩
def LQ:findIn (κ w) (.ref 419) "idle_rows"=some none:=by kernel_rfl
def Nt:findIn (κ w) (.ref 419) "made_rows"=some none:=by kernel_rfl
def M1:findIn (κ w) (.ref 419) "vault"=some none:=by kernel_rfl
def Nn:findIn (κ w) (.ref 239) "dial_sizes"=some none:=by kernel_rfl
def Mc:findIn (κ w) (.ref 239) "least_round"=some none:=by kernel_rfl
def LY:findIn (κ w) (.ref 239) "lever_prices"=some none:=by kernel_rfl
def MS:findIn (κ w) (.ref 239) "lever_settings"=some none:=by kernel_rfl
def OP:nsIn (κ w) mainGlobals "LEAST_PRICE"=some (some (.int 1 424)):=by kernel_rfl
def N0:nsIn (κ w) mainGlobals "LEAST_SIZE"=some (some (.int 2 418)):=by kernel_rfl
def ON:nsIn (κ w) mainGlobals "MOST_DIALS"=some (some (.int 6 416)):=by kernel_rfl
def NX:nsIn (κ w) mainGlobals "MOST_LEVERS"=some (some (.int 8 422)):=by kernel_rfl
def OD:nsIn (κ w) mainGlobals "MOST_PRICE"=some (some (.int 1000 426)):=by kernel_rfl
def Oh:nsIn (κ w) mainGlobals "MOST_SETTINGS"=some (some (.int 1024 728)):=by kernel_rfl
def OR:nsIn (κ w) mainGlobals "MOST_SIZE"=some (some (.int 360 420)):=by kernel_rfl
def NP:nsIn (κ w) mainGlobals "NoSetting"=some (some (.ref 136)):=by kernel_rfl
def N9:MK (λC=>Yh (κ w) (.ref C) (.ref bW)) eG eR=true:=by kernel_rfl
def NZ:nsIn (κ w) mainGlobals "TooMany"=some (some (.ref 155)):=by kernel_rfl
def OM:MK (λC=>Yh (κ w) (.ref C) (.ref cn)) iZ jc=true:=by kernel_rfl
def N1:(κ w).lookup 203=some (HD.tu [.none]):=by kernel_rfl
def tQ:Binds (κ w) iq ["self","sizes","levers","prices"] [.none]:=(l5 w).binds (N1 w) rfl λ_ _ _ _ _ _ us hl=>by obtain⟨a,b,c,rfl⟩:=PY (show _=3 from (by simpa using hl));exact⟨_,rfl,rfl⟩
variable{h:Heap}
def txt{w:World}{mg:Str->Option Value}(X:acT (κ w) h)(G:h.Ns mainGlobals mg):Txt (κ w) mg where
 Nk:=mg_none_of X G ↑10
 Ej:=mg_none_of X G ↑10
 c_:=mg_none_of X G ↑10
 HU:=mg_none_of X G ↑10
 cS:=mg_none_of X G ↑10
 Mv:=mg_none_of X G ↑10
 uP:=mg_none_of X G ↑10
 HM:=mg_none_of X G ↑10
 Bt:=mg_none_of X G ↑10
 cH:=mg_none_of X G ↑10
 pV:=mg_none_of X G ↑10
 oY:=mg_none_of X G ↑10
 nP:=mg_none_of X G ↑10
 rF:=⟨_,mg_of X G (OP w),⟨_,rfl⟩⟩
 u9:=⟨_,mg_of X G (N0 w),⟨_,rfl⟩⟩
 uv:=⟨_,mg_of X G (ON w),⟨_,rfl⟩⟩
 rM:=⟨_,mg_of X G (NX w),⟨_,rfl⟩⟩
 tP:=⟨_,mg_of X G (OD w),⟨_,rfl⟩⟩
 nY:=⟨_,mg_of X G (Oh w),⟨_,rfl⟩⟩
 wO:=⟨_,mg_of X G (OR w),⟨_,rfl⟩⟩
 oQ:=eE w
 mw:=gO w
 vM:=⟨↑10,ui w,↑10,↑10,mg_of X G ↑10⟩
 z9:=⟨↑10,xP w,↑10,↑10,mg_of X G ↑10⟩
 jI:=.of (mg_of X G (NP w)) (N9 w)
 ng:=.of (mg_of X G (NZ w)) (OM w)
 hV:=(LQ w)
 hZ:=(Nt w)
 kY:=(M1 w)
 gJ:=(Nn w)
 gc:=(Mc w)
 fZ:=(LY w)
 eP:=(MS w)
 t_:=λC h=>by obtain rfl:=eq_of_beq h;exact⟨gO w,(Nn w)⟩
 wH:=λC h=>by obtain rfl:=eq_of_beq h;exact⟨eE w,(LQ w)⟩
 rS:=λC h=>by obtain rfl:=eq_of_beq h;exact⟨gO w,(Mc w)⟩
 pP:=λC h=>by obtain rfl:=eq_of_beq h;exact⟨gO w,(LY w)⟩
 mY:=λC h=>by obtain rfl:=eq_of_beq h;exact⟨gO w,(MS w)⟩
 v7:=λC h=>by obtain rfl:=eq_of_beq h;exact⟨eE w,(Nt w)⟩
 GK:=λC h=>by obtain rfl:=eq_of_beq h;exact⟨eE w,(M1 w)⟩
def Iu{P:Program}{w:World}{mg:Str->Option Value}(X:acT (κ w) h)(G:h.Ns mainGlobals mg)(base:Heap):aV P w (κ w) mg base (bQ P w) 10 524 xW ["_law_script"] (eh 1 sx):=by
 have T:=txt X G;have R7:uI P w (κ w) mg base fQ "NoDial" "dial" := ⟨⟨55,gZ,["self","dial"],↑10,↑10,w_,ya w⟩,sL w,↑10,↑10,mg_of X G ↑10⟩
 have RV:uI P w (κ w) mg base e8 "NoLever" "lever" := ⟨⟨81,gk,["self","lever"],↑10,↑10,wA,wd w⟩,pW w,↑10,↑10,mg_of X G ↑10⟩
 have RW:uI P w (κ w) mg base dZ "NoPrice" "lever" := ⟨⟨107,gq,["self","lever"],↑10,↑10,wu,vT w⟩,qv w,↑10,↑10,mg_of X G ↑10⟩
 have QS:=jy P w base X G 164 163 Lw λD=>wg D T;have Ro:=jy P w base X G 169 168 Lw λD=>zO D T QS;have Rn:=jy P w base X G 176 175 Lw λD=>zF D T;have Q7:=jy P w base X G 183 182 Lw λD=>qE D T Rn;have Rt:=jy P w base X G 190 189 Lw λD=>rZ D T;have RN:=jy P w base X G 195 194 Lw λD=>wz D T;have QM:=jy P w base X G 250 249 AX λD=>uH D T QS;have Rq:=jy P w base X G 257 256 AX λD=>rB D T R7 QM;have Q8:=jy P w base X G 264 263 AX λD=>pI D T Ro RV;have Rr:=jy P w base X G 271 270 AX λD=>rG D T RW QM;have Q2:=jy P w base X G 276 275 AX λD=>DT D T;have RG:=jy P w base X G 305 304 zd λD=>C5 D T;have QJ:=jy P w base X G 312 311 zd λD=>rP D T RG Q2;have QB:=jy P w base X G 333 332 zd λD=>uQ D T;have RM:=jy P w base X G 340 339 zd λD=>wN D T QB Rn QJ;have Q1:=jy P w base X G 347 346 zd λD=>xQ D T QB QJ;have RL:=jy P w base X G 354 353 zd λD=>vo D T RG;have RA:=jy P w base X G 435 434 wW λD=>uF D T;have Qr:=jy P w base X G 442 441 wW λD=>r_ D T;have QL:=jy P w base X G 449 448 wW λD=>lC D T;have Rm:=jy P w base X G 456 455 wW λD=>rK D T QL Qr;have Q6:=jy P w base X G 463 462 wW λD=>pd D T;have Rl:=jy P w base X G 470 469 wW λD=>r9 D T Q6 Qr;have QR:=jy P w base X G 475 474 wW λD=>vF D T;have Rj:=jy P w base X G 480 479 wW λD=>rQ D T QR;have RB:=jy P w base X G 485 484 wW λD=>ue D T;have QC:=jy P w base X G 490 489 wW λD=>oz D T Qr;have RJ:=jy P w base X G 495 494 wW λD=>vD D T Qr;have QE:=jy P w base X G 500 499 wW λD=>qa D T;have QU:=jy P w base X G 512 511 wW λD=>nq D T Qr;have QI:HQ P w (κ w) mg base aE 4 "Vault" 4 [.c8] fy:=⟨⟨208,iq,["self","sizes","levers","prices"],[.none],[.c8],mg_of X G ↑10,⟨↑10,↑10,↑10,↑10⟩,tQ w,(.cons rfl .nil),λ_=>(.cons .c8 .nil),rO (l5 w) T Rq Q8 Q2 Rr Q7⟩⟩
 have Qp:=Ik P w base (gO w) 215 214 AX λD=>qB D T;have Qs:=Ik P w base (gO w) 222 221 AX λD=>nZ D T;have Q5:=Ik P w base (eE w) 371 370 zd λD=>qN D T Qp QB;have Ri:=Ik P w base (eE w) 376 375 zd λD=>rW D T;have Q4:=Ik P w base (eE w) 381 380 zd λD=>qf D T;have R5:=jy P w base X G 283 282 AX λD=>Ar D T Qp;have Rp:=jy P w base X G 288 287 AX λD=>rE D T Qp Ro;have QD:=jy P w base X G 295 294 AX λD=>oC D T Rp;have Sr:=jy P w base X G 300 299 AX λD=>B0 D T Qp Q2;have QT:=jy P w base X G 319 318 zd λD=>wJ D T Qs;have Q9:=jy P w base X G 326 325 zd λD=>qY D T Qs RN;have Rh:HQ P w (κ w) mg base aB 4 "Rungs" 2 [] gX:=⟨⟨366,iz,["self","vault"],[],[],mg_of X G ↑10,⟨↑10,↑10,↑10,↑10⟩,uz w,.nil,λ_=>.nil,rN (tV w) T Qp R5 QT Qs Q9 RM RL Q1⟩⟩
 have QF:=Ik P w base (eE w) 395 394 zd λD=>jF D T QD QT Qp Q1;have Q3:=Ik P w base (eE w) 402 401 zd λD=>o_ D T QF;have Qq:LD P w (κ w) mg base 7 "all_together" 2 (λps=>br (gU 9 ps)):=⟨⟨428,f9,["vault","setting"],mg_of X G ↑10,(jT w).kp,rfl,pq w,oB (jT w) T Ri Q5 Qp Sr Q3 Q4 Rt Rh QD⟩⟩
 have RC:=jy P w base X G 507 506 wW λD=>vb D T Qq;have Rk:=jy P w base X G 519 518 wW λD=>rJ D T QU QI QC RJ RC Qq QE;exact Jm (Nm w) T RA Rm Qr Rl QI RB Rj QC QR Qq QE Rk
def OS:yR (κ w)=true:=by kernel_rfl
def OL:nsIn (κ w) mainGlobals "law"=some (some (.ref 524)):=by kernel_rfl
end wV
open PySem PySem.W
def wV.hold(said:PySem.Challenge.rw_dialvault_k32_all_that_belong_together.wellSaid=true)(TV:∀ns:List Int,ns.length<=63->(∀i∈ns,Wl i<=1048576)->wV.sx [.jN (ns.map L2.PV.int)]=L2.M.ok (.bl true)):PySem.Challenge.rw_dialvault_k32_all_that_belong_together.Holds:=by
 refine holds_law said λsaid=>?_;refine holds_open (q:=HD.vw) (loose:=HD.loose) (Xt:=HD.Xt) (XP:=XL HD.vw []) (Yf:=Hook.obs HD.hook) (Ya:=Hook.val HD.hook) (YP:=Hook.says HD.hook) HD.LW (Hook.of HD.hook) (Hook.keeps HD.hook) (λs e=>xl_of s (Zv.mp e).1) XL.keeps (by rfl) (by rfl) (by rfl) (λs e=>recFacts_of (Zv.mp e).2) (by rfl) said (by decide +kernel) ⟨rfl,rfl,rfl,rfl,rfl,by decide +kernel⟩ ?hw ?hc
 case hw=>w_witness2
 refine L2.xi (l:=PySem.Challenge.rw_dialvault_k32_all_that_belong_together) (n:=63) (k:=10) (x := "_law_script") (K:=HD.K) (sem:=wV.sx) rfl ↑12 rfl ⟨rfl,by decide,by decide⟩ (λw h Y=>PySem.W.kIn_of Y) (λw=>wV.OS w) (λw mg fa h X G hmg=>?_) TV;have e:=hmg.symm.trans (acW X G (wV.OL w));cases e;exact⟨wV.xW,λs v=>.of_eq rfl,λbase X' G'=>wV.Iu X' G' base⟩
namespace Eu
def sJ(a b:Int)(hb:b≠0):(a-a.fdiv b*b).natAbs<b.natAbs/\0<=(a-a.fdiv b*b)*b/\(0<=a*b->a.natAbs=(a.fdiv b).natAbs*b.natAbs+(a-a.fdiv b*b).natAbs):=by
 have pos:∀(a b:Int),0<b->(a-a/b*b).natAbs<b.natAbs/\0<=(a-a/b*b)*b/\(0<=a*b->a.natAbs=(a/b).natAbs*b.natAbs+(a-a/b*b).natAbs):=by
  intro a b hb;have e:a-a/b*b=a%b:=by
   have h:=Za a b;rw[WR] at h;lia
  have h0:=Vk a (by lia:b≠0);have h1:=Vd a hb;rw[e];refine⟨by lia,Int.mul_nonneg h0 ⋯,λhab=>?_⟩;have ha:0<=a:=by
   rcases aaU a 0 with h|h
   .have:=Int.mul_neg_of_neg_of_pos h hb;lia
   .exact h
  have hq:0<=a/b:=WW ha ⋯;have h2:=Za a b;have h3:((a/b).natAbs*b.natAbs:Nat)=(b*(a/b)).natAbs:=by
   rw[Xa,ZQ]
  rw[h3];have h4:0<=b*(a/b):=Int.mul_nonneg ⋯ hq;lia
 rcases aaU 0 b with h|h
 .rw[Yj a ⋯];exact pos a b h
 .have h':0 < -b:=by lia
  have e:a.fdiv b=(-a)/(-b):=by
   rw[<- Yj (-a) (by lia:0<=-b),Int.neg_fdiv_neg]
  obtain⟨p1,p2,p3⟩:=pos (-a) (-b) h';have e2:-a-(-a)/(-b)*(-b)=-(a-a.fdiv b*b):=by
   rw[<- e,abq];lia
  rw[e2] at p1 p2 p3;rw[<- e] at p3;simp only[aab,Int.neg_mul_neg] at p1 p2 p3;exact⟨p1,p2,p3⟩
structure St (a b:Int) (r s t r' s' t':Int):Prop where
 c0:r=s*a+t*b
 c1:r'=s'*a+t'*b
 dv:∀d:Int,d∣r->d∣r'->d∣a/\d∣b
 bd:s'.natAbs*r.natAbs+s.natAbs*r'.natAbs<=b.natAbs
 sg:s'=0\/0<=r*r'
 b0:s.natAbs<=b.natAbs+1
 b1:s'.natAbs<=b.natAbs+1
 d0:t.natAbs<=a.natAbs+(b.natAbs+1)*a.natAbs+b.natAbs+1
 d1:t'.natAbs<=a.natAbs+(b.natAbs+1)*a.natAbs+b.natAbs+1
 m0:r.natAbs<=a.natAbs+b.natAbs
 m1:r'.natAbs<=b.natAbs
def start(a b:Int):St a b a 1 0 b 0 1 where
 c0:=by lia
 c1:=by lia
 dv:=λd h1 h2=>⟨h1,h2⟩
 bd:=by simp
 sg:=.inl rfl
 b0:=by lia
 b1:=by lia
 d0:=by simp
 d1:=by lia
 m0:=by lia
 m1:=by lia
def turn{a b r s t r' s' t':Int}(h:St a b r s t r' s' t')(h0:r'≠0):St a b r' s' t' (r-r.fdiv r'*r') (s-r.fdiv r'*s') (t-r.fdiv r'*t')/\(r-r.fdiv r'*r').natAbs<r'.natAbs:=by
 obtain⟨f1,f2,f3⟩:=sJ r r' h0;generalize hq:r.fdiv r'=q at *;have hb:b≠0:=by
  intro z;have:=h.m1;lia
 have hr':1<=r'.natAbs:=by lia
 have c1':r-q*r'=(s-q*s')*a+(t-q*t')*b:=by
  rw[h.c0,h.c1,Int.sub_mul,Int.sub_mul,Int.mul_add,Zp,Zp];lia
 have bd':(s-q*s').natAbs*r'.natAbs+s'.natAbs*(r-q*r').natAbs<=b.natAbs:=by
  have xw:(s-q*s').natAbs<=s.natAbs+q.natAbs*s'.natAbs:=by
   rw[<- Xa];lia
  have Uj:=h.bd;rcases h.sg with z|z
  .subst z;simp only[Xk,aaV,Int.natAbs_zero,Nat.zero_mul,Y4,aaO] at Uj ⊢;exact Uj
  .have e:=f3 z;have k1:(s-q*s').natAbs*r'.natAbs<=(s.natAbs+q.natAbs*s'.natAbs)*r'.natAbs:=Xb _ xw;have k2:(s.natAbs+q.natAbs*s'.natAbs)*r'.natAbs+s'.natAbs*(r-q*r').natAbs=s'.natAbs*r.natAbs+s.natAbs*r'.natAbs:=by
    rw[e,Nat.add_mul,Nat.mul_add,ZQ q.natAbs s'.natAbs,Nat.mul_assoc];lia
   lia
 have b1':(s-q*s').natAbs<=b.natAbs:=by
  have:(s-q*s').natAbs*1<=(s-q*s').natAbs*r'.natAbs:=XR _ hr';lia
 have mm:(r-q*r').natAbs<=b.natAbs:=by
  have:=h.m1;lia
 have d1':(t-q*t').natAbs<=a.natAbs+(b.natAbs+1)*a.natAbs+b.natAbs+1:=by
  have e:(t-q*t')*b=(r-q*r')-(s-q*s')*a:=by lia
  have e1:((t-q*t')*b).natAbs<=(r-q*r').natAbs+((s-q*s')*a).natAbs:=by lia
  rw[Xa,Xa] at e1;have k1:(t-q*t').natAbs*1<=(t-q*t').natAbs*b.natAbs:=XR _ ⋯;have k2:(s-q*s').natAbs*a.natAbs<=(b.natAbs+1)*a.natAbs:=Xb _ ⋯;lia
 refine⟨⟨h.c1,c1',λd e1 e2=>?_,bd',?_,h.b1,by lia,h.d1,d1',?_,mm⟩,f1⟩
 .refine h.dv d ?_ e1;have e3:d∣q*r':=WA e1 (W3 _ _);have e4:=Zw e2 e3
  rwa [abQ] at e4
 .exact .inr (by rwa[WR])
 .have:=h.m1;lia
def done{a b r s t s' t':Int}(h:St a b r s t 0 s' t'):r∣a/\r∣b:=h.dv r (aaW r) (WE r)
end Eu
namespace Lc
def MN(ns:List Nat):Nat:=ns.foldl aaX 1
def CV(m n:Nat):m/Nat.gcd m n*n=aaX m n:=by
 unfold aaX;rw[Nat.div_mul_right_comm (Nat.gcd_dvd_left m n)]
end Lc
namespace Rg
abbrev dE:=Nat->Int
def aZ(s:dE)(D:Nat->dE)(d:Nat):Int:=if D d d=0 then s d else D d d
def G(n:Nat)(s:dE)(D:Nat->dE):Nat->Nat->dE->Prop
 | 0,_,v=>∀i,i<n->s i∣v i
 |k+1,d,v=>aZ s D d∣v d/\G n s D k (d+1) λi=>v i-v d/aZ s D d*D d i
def U(i:Nat)(c:Int):dE:=λj=>if j=i then c else 0
variable{D:Nat->dE}{s:dE}{n:Nat}
theorem G.ext:∀{k d:Nat}{v w:dE},d+k=n->(∀i,i<n->v i=w i)->G n s D k d v->G n s D k d w
 | 0,d,v,w,_,e,h=>λi hi=>by rw[<- e i hi];exact h i hi
 | k+1,d,v,w,hn,e,h=>by
  have ed:=e d ⋯;refine⟨by rw[<- ed];exact h.1,G.ext ⋯ (λi hi=>?_) h.2⟩;rw[e i hi,ed]
theorem G.add:∀{k d:Nat}{v w:dE},d+k=n->G n s D k d v->G n s D k d w->G n s D k d λi=>v i+w i
 | 0,d,v,w,_,h,h'=>λi hi=>Zw (h i hi) (h' i hi)
 | k+1,d,v,w,hn,h,h'=>by
  refine⟨Zw h.1 h'.1,G.ext ⋯ (λi hi=>?_) (G.add ⋯ h.2 h'.2)⟩;show _=v i+w i-(v d+w d)/aZ s D d*D d i;rw[Int.add_ediv_of_dvd_left h.1,Int.add_mul];lia
theorem G.mul(c:Int):∀{k d:Nat}{v:dE},d+k=n->G n s D k d v->G n s D k d λi=>c*v i
 | 0,d,v,_,h=>λi hi=>WA (h i hi) (W3 _ _)
 | k+1,d,v,hn,h=>by
  refine⟨WA h.1 (W3 _ _),G.ext ⋯ (λi hi=>?_) (G.mul c ⋯ h.2)⟩;show _=c*v i-c*v d/aZ s D d*D d i;rw[abR c h.1,Int.mul_sub,Zp]
theorem G.zero:∀{k d:Nat},d+k=n->G n s D k d λ_=>0
 | 0,d,_=>λi _=>WE _
 |k+1,d,hn=>⟨WE _,G.ext ⋯ (λi hi=>by simp) (G.zero (k:=k) (d:=d+1) ⋯)⟩
theorem G.skip{v:dE}:∀{j k d:Nat},d+(j+k)=n->(∀i,d<=i->i<d+j->v i=0)->G n s D k (d+j) v->G n s D (j+k) d v
 | 0,k,d,_,_,h=>by rwa[Y4]
 | j+1,k,d,hn,hz,h=>by
  rw[show j+1+k=(j+k)+1 by lia];have z:=hz d (UZ _) ⋯;refine⟨by rw[z];exact WE _,G.ext (v:=v) ⋯ (λi hi=>by rw[z];simp) (G.skip ⋯ (λi h1 h2=>hz i ⋯ ⋯) (by rwa[show d+1+j=d+(j+1) by lia]))⟩
structure Good (n:Nat) (s:dE) (D:Nat->dE):Prop where
 sp:∀i,i<n->0<s i
 kU:∀d,d<n->∀i,i<n->0<=D d i/\D d i<s i
 xw:∀d,d<n->∀i,i<d->D d i=0
 dv:∀d,d<n->aZ s D d∣s d
 Nw:∀d k,d+(k+1)=n->G n s D k (d+1) λi=>s d/aZ s D d*D d i
variable{d:Nat}
variable{k:Nat}
theorem Good.pos(g:Good n s D)(h:d<n):0<aZ s D d/\aZ s D d<=s d:=by
 have h1:=g.kU d h d h;have h2:=g.sp d h;unfold aZ
 split<;>lia
theorem Good.diag(g:Good n s D)(h:d<n):s d∣D d d-aZ s D d:=by
 unfold aZ
 split
 .rename_i z;rw[z];exact⟨-1,by lia⟩
 .rw[acf];exact WE _
theorem Good.turn(g:Good n s D):∀{k d i:Nat}(c:Int),d+k=n->i<n->G n s D k d (U i (c*s i))
 | 0,d,i,c,_,hi=>λj hj=>by
  unfold U
  split
  .rename_i z;rw[z];exact W3 _ _
  .exact WE _
 | k+1,d,i,c,hn,hi=>by
  have hd:d<n:=by lia
  by_cases z:i=d
  .subst z;have dv:=g.dv i hi;refine⟨by show _∣U i _ i;rw[U,if_pos rfl];exact WA dv (W3 _ _),?_⟩;refine G.ext ⋯ (λj hj=>?_) (G.add ⋯ (g.turn (k:=k) (d:=i+1) (i:=i) c ⋯ hi) (G.mul (-c) ⋯ (g.Nw i k hn)));show U i (c*s i) j+-c*(s i/aZ s D i*D i j)=U i (c*s i) j-U i (c*s i) i/aZ s D i*D i j;rw[show U i (c*s i) i=c*s i by rw[U,if_pos rfl],abR c dv,acJ,Zp];lia
  .have u0:U i (c*s i) d=0:=by rw[U,if_neg (W5 z)]
   refine⟨by rw[u0];exact WE _,G.ext ⋯ (λj hj=>?_) (g.turn (k:=k) (d:=d+1) (i:=i) c ⋯ hi)⟩;rw[u0];simp
def G.l9{v w:dE}(ht:∀i c,i<n->G n s D k d (U i (c*s i)))(hn:d+k=n)(h:∀i,i<n->s i∣w i-v i)(hv:G n s D k d v):G n s D k d w:=by
 have key:∀m,m<=n->G n s D k d λi=>if i<m then w i else v i:=by
  intro m
  induction m with
  | zero=>intro _;exact G.ext hn (λi _=>by simp) hv
  | succ m ih =>
   intro hm;obtain⟨c,hc⟩:=h m ⋯;refine G.ext hn (λi hi=>?_) (G.add hn (ih ⋯) (ht m c ⋯));show (if i<m then w i else v i)+U m (c*s m) i=if i<m+1 then w i else v i;unfold U
   by_cases z:i=m
   .subst z;rw[if_neg ⋯,if_pos rfl,if_pos ⋯,WR c];lia
   .rw[if_neg z]
    by_cases q:i<m
    .rw[if_pos q,if_pos ⋯];lia
    .rw[if_neg q,if_neg ⋯];lia
 exact G.ext hn (λi hi=>by simp[hi]) (key n (UZ _))
theorem Good.l9(g:Good n s D){k d:Nat}{v w:dE}(hn:d+k=n)(h:∀i,i<n->s i∣w i-v i)(hv:G n s D k d v):G n s D k d w :=
 G.l9 (λi c hi=>g.turn c hn hi) hn h hv
def Good.sub(g:Good n s D){v w:dE}(hn:d+k=n)(hv:G n s D k d v)(hw:G n s D k d w):G n s D k d λi=>v i-w i :=
 G.ext hn (λi _=>by lia) (G.add hn hv (G.mul (-1) hn hw))
def Good.own(g:Good n s D)(hn:d+(k+1)=n):G n s D (k+1) d (D d):=by
 have hd:d<n:=by lia
 by_cases z:D d d=0
 .have e:aZ s D d=s d:=by unfold aZ;rw[if_pos z]
  have c:=g.Nw d k hn;rw[e] at c;refine⟨by rw[z];exact WE _,G.ext ⋯ (λi hi=>?_) c⟩;rw[z,abD (by have:=g.sp d hd;lia)];simp
 .have e:aZ s D d=D d d:=by unfold aZ;rw[if_neg z]
  refine⟨by rw[e];exact aaW _,G.ext ⋯ (λi hi=>?_) (G.zero (k:=k) (d:=d+1) ⋯)⟩;rw[e,abD z];lia
theorem Good.row(g:Good n s D)(hd:d<n):∀{k e:Nat},e+k=n->e<=d->G n s D k e (D d):=by
 intro k e hn he;have h:=g.own (d:=d) (k:=n-d-1) ⋯;have:=G.skip (n:=n) (s:=s) (D:=D) (v:=D d) (j:=d-e) (k:=n-d-1+1) (d:=e) ⋯ (λi h1 h2=>g.xw d hd i ⋯) (by rwa[show e+(d-e)=d by lia]);rwa[show d-e+(n-d-1+1)=k by lia] at this
structure Tk (n:Nat) (s:dE) (D D' L:Nat->dE) (u v g:Nat->Int):Prop where
 gp:∀d,d<n->0<g d
 bz:∀d,d<n->u d*aZ s D d+v d*L d d=g d
 g1:∀d,d<n->g d∣aZ s D d
 g2:∀d,d<n->g d∣L d d
 r0:∀d,d<n->∀i,i<n->D' d i=(u d*D d i+v d*L d i)%s i
 M8:∀d,d<n->∀i,i<n->L (d+1) i=(aZ s D d/g d*L d i+-(L d d/g d)*D d i)%s i
 l0:∀i,i<n->0<=L 0 i/\L 0 i<s i
variable{b:Int}
section
variable{D' L:Nat->dE}{u v g:Nat->Int}
theorem gP(a b:Int):b∣a%b-a:=⟨-(a/b),by have:=Y5 a b;rw[abq];lia⟩
theorem zS(a b:Int):b∣a-a%b:=⟨a/b,by have:=Y5 a b;lia⟩
theorem Tk.kept(t:Tk n s D D' L u v g)(G:Good n s D):∀d,d<=n->∀i,i<n->0<=L d i/\L d i<s i:=by
 intro d hd i hi;cases d with
 | zero=>exact t.l0 i hi
 | succ d =>
  rw[t.M8 d ⋯ i hi];have:=G.sp i hi;exact⟨Vk _ ⋯,Vd _ this⟩
theorem nA{a:Int}(h0:0<=a)(h1:a<b)(h:b∣a):a=0:=by
 obtain⟨c,rfl⟩:=h;rcases aaU 0 c with hc|hc
 .have:b*1<=b*c:=U7 hc ⋯;lia
 .have:b*c<=0:=YI ⋯ hc;lia
theorem Tk.zero(t:Tk n s D D' L u v g)(G:Good n s D):∀d,d<=n->∀i,i<d->L d i=0:=by
 intro d
 induction d with
 | zero=>intro _ i hi;lia
 | succ d ih =>
  intro hd i hi;have Tz:d<n:=by lia
  have k:=t.kept G (d+1) hd i ⋯;refine nA k.1 k.2 ?_;rw[t.M8 d Tz i ⋯];rcases VH i d with h|h
  .rw[ih ⋯ i h,G.xw d Tz i h];simp
  .obtain rfl:i=d:=by lia
   refine WA ?_ (aaW _);obtain⟨c,hc⟩:=G.diag Tz;obtain⟨a,ha⟩:=t.g1 i Tz;obtain⟨b,hb⟩:=t.g2 i Tz;have gp:=t.gp i Tz;have e1:aZ s D i/g i=a:=by rw[ha];exact V1 a ⋯
   have e2:L i i/g i=b:=by rw[hb];exact V1 b ⋯
   rw[e1,e2];have e3:a*L i i+-b*D i i=s i*(-b*c):=by
    have:D i i=aZ s D i+s i*c:=by lia
    rw[this,ha,hb];grind
   rw[e3,Int.mul_emod_right];exact WE _
theorem Tk.step(t:Tk n s D D' L u v g)(G:Good n s D)(hd:d<n):aZ s D' d=g d:=by
 obtain⟨c,hc⟩:=G.diag hd;have gp:=t.gp d hd;have sp:=G.sp d hd;have st:=G.pos hd;have le:g d<=aZ s D d:=Int.le_of_dvd st.1 (t.g1 d hd);have e:D' d d=g d%s d:=by
  rw[t.r0 d hd d hd,<- t.bz d hd];have:D d d=aZ s D d+s d*c:=by lia
  rw[this,show u d*(aZ s D d+s d*c)+v d*L d d=(u d*aZ s D d+v d*L d d)+s d*(u d*c) by grind,Int.add_mul_emod_self_left]
 unfold aZ;rw[e]
 by_cases z:g d=s d
 .rw[z,Int.emod_self,if_pos rfl]
 .rw[Xe ⋯ ⋯,if_neg ⋯]
theorem Tk.main(t:Tk n s D D' L u v g)(Gd:Good n s D):∀k d,d+k=n->(∀w,G n s D k d w->G n s D' k d w)/\G n s D' k d (L d)
 | 0,d,hn=>by
  refine⟨λw h=>h,λi hi=>?_⟩;rw[t.zero Gd d ⋯ i ⋯];exact WE _
 | k+1,d,hn=>by
  obtain⟨i1,i2⟩:=t.main Gd k (d+1) ⋯;have hd:d<n:=by lia
  have turn:∀i c,i<n->G n s D' k (d+1) (U i (c*s i)):=λi c hi=>i1 _ (Gd.turn c ⋯ hi);have st:=t.step Gd hd;have gp:=t.gp d hd;obtain⟨a,ha⟩:=t.g1 d hd;obtain⟨b,hb⟩:=t.g2 d hd;have e1:aZ s D d/g d=a:=by rw[ha];exact V1 a ⋯
  have e2:L d d/g d=b:=by rw[hb];exact V1 b ⋯
  have bz:u d*a+v d*b=1:=by
   have:=t.bz d hd;rw[ha,hb,show u d*(g d*a)+v d*(g d*b)=g d*(u d*a+v d*b) by grind] at this;have h2:g d*(u d*a+v d*b)=g d*1:=by lia
   exact WY ⋯ h2
  have w1:∀i,i<n->∃c,D' d i=u d*D d i+v d*L d i+s i*c:=λi hi=>by
   obtain⟨c,hc⟩:=gP (u d*D d i+v d*L d i) (s i);exact⟨c,by rw[t.r0 d hd i hi];lia⟩
  have w2:∀i,i<n->∃c,L (d+1) i=a*L d i+-b*D d i+s i*c:=λi hi=>by
   obtain⟨c,hc⟩:=gP (a*L d i+-b*D d i) (s i);exact⟨c,by rw[t.M8 d hd i hi,e1,e2];lia⟩
  constructor
  .intro w h;obtain⟨h1,h2⟩:=h;refine⟨by rw[st];exact WA (t.g1 d hd) h1,?_⟩;obtain⟨q,hq⟩:=h1;have sp:=(Gd.pos hd).1;have q1:w d/aZ s D d=q:=by rw[hq];exact V1 q ⋯
   have q2:w d/aZ s D' d=q*a:=by
    rw[st,hq,ha,show g d*a*q=g d*(q*a) by grind];exact V1 _ ⋯
   rw[q2];rw[q1] at h2;refine G.l9 turn ⋯ (λi hi=>?_) (G.add ⋯ (i1 _ h2) (G.mul (q*-(v d)) ⋯ i2));obtain⟨c1,hc1⟩:=w1 i hi;obtain⟨c2,SO⟩:=w2 i hi;refine⟨q*(v d*c2-a*c1),?_⟩;rw[hc1,SO];grind
  .refine⟨by rw[st];exact t.g2 d hd,?_⟩;rw[st,e2];refine G.l9 turn ⋯ (λi hi=>?_) (G.mul (u d) ⋯ i2);obtain⟨c1,hc1⟩:=w1 i hi;obtain⟨c2,SO⟩:=w2 i hi;refine⟨-(b*c1)-u d*c2,?_⟩;rw[hc1,SO];grind
theorem Tk.good(t:Tk n s D D' L u v g)(Gd:Good n s D):Good n s D' where
 sp:=Gd.sp
 kU:=λd hd i hi=>by
  rw[t.r0 d hd i hi];have:=Gd.sp i hi;exact⟨Vk _ ⋯,Vd _ this⟩
 xw:=λd hd i hi=>by
  rw[t.r0 d hd i ⋯,Gd.xw d hd i hi,t.zero Gd d ⋯ i hi];simp
 dv:=λd hd=>by
  rw[t.step Gd hd];exact WA (t.g1 d hd) (Gd.dv d hd)
 Nw:=λd k hn=>by
  have hd:d<n:=by lia
  have h1:=(t.main Gd (k+1) d hn).1 _ (Gd.turn (i:=d) 1 hn hd);have h2:=(t.main Gd k (d+1) ⋯).1 _ (Gd.turn (i:=d) 1 ⋯ hd);have h3:=h1.2;have ud:U d (1*s d) d=s d:=by rw[U,if_pos rfl,Yk]
  rw[ud] at h3;refine G.ext ⋯ (λi hi=>?_) (G.add ⋯ h2 (G.mul (-1) ⋯ h3));show U d (1*s d) i+-1*(U d (1*s d) i-s d/aZ s D' d*D' d i)=_;lia
end
variable{W:Nat->dE}
variable{i:Nat}
section
variable{D':Nat->dE}
theorem Good.GO(Gd:Good n s D)(kU:∀d,d<n->∀i,i<n->0<=D' d i/\D' d i<s i)(xw:∀d,d<n->∀i,i<d->D' d i=0)(dv:∀d,d<n->aZ s D' d∣s d)(h:∀k d,d+k=n->∀w,G n s D k d w->G n s D' k d w):Good n s D' where
 sp:=Gd.sp
 kU:=kU
 xw:=xw
 dv:=dv
 Nw:=λd k hn=>by
  have hd:d<n:=by lia
  have h1:=h (k+1) d hn _ (Gd.turn (i:=d) 1 hn hd);have h2:=h k (d+1) ⋯ _ (Gd.turn (i:=d) 1 ⋯ hd);have h3:=h1.2;have ud:U d (1*s d) d=s d:=by rw[U,if_pos rfl,Yk]
  rw[ud] at h3;refine G.ext ⋯ (λi hi=>?_) (G.add ⋯ h2 (G.mul (-1) ⋯ h3));show U d (1*s d) i+-1*(U d (1*s d) i-s d/aZ s D' d*D' d i)=_;lia
structure Dn (n:Nat) (s:dE) (D:Nat->dE) (f:Nat) (W:Nat->dE):Prop where
 w0:∀i,i<n->0<=W f i/\W f i<s i
 ws:∀d,f<=d->d<n->∀i,i<n->W (d+1) i=(1*W d i+-(W d d/aZ s D d)*D d i)%s i
variable{f:Nat}
theorem Dn.kept(h:Dn n s D f W)(Gd:Good n s D):∀d,f<=d->d<=n->∀i,i<n->0<=W d i/\W d i<s i:=by
 intro d hf hd i hi;rcases VH f d with q|q
 .obtain⟨e,rfl⟩:∃e,d=e+1:=⟨d-1,by lia⟩
  rw[h.ws e ⋯ ⋯ i hi];have:=Gd.sp i hi;exact⟨Vk _ ⋯,Vd _ this⟩
 .obtain rfl:d=f:=by lia
  exact h.w0 i hi
theorem Dn.ahead(h:Dn n s D f W)(Gd:Good n s D)(hf:f<=d)(hd:d<n)(hi:i<d):W (d+1) i=W d i:=by
 have k:=h.kept Gd d hf ⋯ i ⋯;rw[h.ws d hf hd i ⋯,Gd.xw d hd i hi,Xk,ZT,Yk,Xe k.1 k.2]
theorem Dn.at_(h:Dn n s D f W)(Gd:Good n s D)(hf:f<=d)(hd:d<n):W (d+1) d=W d d%aZ s D d:=by
 have k:=h.kept Gd d hf ⋯ d hd;have p:=Gd.pos hd;rw[h.ws d hf hd d hd];have e:=Y5 (W d d) (aZ s D d);have q0:=Vk (W d d) (show aZ s D d≠0 by lia);have q1:=Vd (W d d) p.1
 by_cases z:D d d=0
 .have st:aZ s D d=s d:=by unfold aZ;rw[if_pos z]
  rw[z,st,Xe k.1 k.2,Xk,ZT,Yk,Xe k.1 k.2]
 .have st:aZ s D d=D d d:=by unfold aZ;rw[if_neg z]
  rw[<- st,show 1*W d d+-(W d d/aZ s D d)*aZ s D d=W d d%aZ s D d by rw[e];grind];exact Xe q0 ⋯
theorem Dn.low(h:Dn n s D f W)(Gd:Good n s D):∀d,f<=d->d<=n->∀e,f<=e->e<d->0<=W d e/\W d e<aZ s D e:=by
 intro d
 induction d with
 | zero=>intro _ _ e _ he;lia
 | succ d ih =>
  intro hf hd e he hed;rcases VH e d with q|q
  .rw[h.ahead Gd ⋯ ⋯ q];exact ih ⋯ ⋯ e he q
  .obtain rfl:e=d:=by lia
   have p:=Gd.pos (show e<n by lia);rw[h.at_ Gd he ⋯];exact⟨Vk _ ⋯,Vd _ p.1⟩
theorem Dn.front(h:Dn n s D f W)(Gd:Good n s D):∀d,f<=d->d<=n->∀i,i<f->W d i=W f i:=by
 intro d
 induction d with
 | zero=>intro h1 _ i hi;lia
 | succ d ih =>
  intro hf hd i hi;rcases VH d f with q|q
  .rw[show d+1=f by lia]
  .rw[h.ahead Gd q ⋯ ⋯];exact ih q ⋯ i hi
theorem Dn.away(h:Dn n s D f W)(Gd:Good n s D):∀d,f<=d->d<=n->∀k,f+k=n->G n s D k f λi=>W f i-W d i:=by
 intro d
 induction d with
 | zero =>
  intro hf _ k hn;obtain rfl:f=0:=by lia
  exact G.ext hn (λi _=>by lia) (G.zero hn)
 | succ d ih =>
  intro hf hd k hn;rcases VH d f with q|q
  .rw[show d+1=f by lia];exact G.ext hn (λi _=>by lia) (G.zero hn)
  .refine Gd.l9 hn (λi hi=>?_) (G.add hn (ih q ⋯ k hn) (G.mul (W d d/aZ s D d) hn (Gd.row (show d<n by lia) hn q)));rw[h.ws d q ⋯ i hi];have:=zS (1*W d i+-(W d d/aZ s D d)*D d i) (s i);obtain⟨c,hc⟩:=this;exact⟨c,by rw[<- hc];grind⟩
theorem G.small(Gd:Good n s D):∀k d (v:dE),d+k=n->(∀i,i<n->0<=v i/\v i<s i)->(∀i,d<=i->i<n->v i<aZ s D i)->G n s D k d v->∀i,i<n->v i=0
 | 0,d,v,hn,h0,_,g,i,hi=>nA (h0 i hi).1 (h0 i hi).2 (g i hi)
 | k+1,d,v,hn,h0,h1,g,i,hi=>by
  have z:v d=0:=nA (h0 d ⋯).1 (h1 d (UZ _) ⋯) g.1;refine G.small Gd k (d+1) v ⋯ h0 (λj hj=>h1 j ⋯) (G.ext ⋯ (λj hj=>?_) g.2) i hi;rw[z];simp
theorem v5(Gd:Good n s D)(W:Nat->Nat->dE)(hW:∀d,d<n->Dn n s D (d+1) (W d))(h0:∀d,d<n->∀i,i<n->W d (d+1) i=D d i)(hD:∀d,d<n->∀i,i<n->D' d i=W d n i):Good n s D'/\(∀d,d<n->aZ s D' d=aZ s D d)/\(∀d,d<n->∀e,d<e->e<n->D' d e<aZ s D e)/\(∀d,d<n->D' d d=0->∀i,i<n->D' d i=0)/\(∀k d,d+k=n->∀w,G n s D k d w->G n s D' k d w):=by
 have dg:∀d,d<n->∀i,i<=d->D' d i=D d i:=λd hd i hi=>by
  rw[hD d hd i ⋯,(hW d hd).front Gd n ⋯ (UZ _) i ⋯,h0 d hd i ⋯]
 have st:∀d,d<n->aZ s D' d=aZ s D d:=λd hd=>by
  unfold aZ;rw[dg d hd d (UZ _)]
 have UK:∀k d,d+k=n->∀w,G n s D k d w->G n s D' k d w:=by
  intro k
  induction k with
  | zero=>intro d _ w h;exact h
  | succ k ih =>
   intro d hn w h;have hd:d<n:=by lia
   refine⟨by rw[st d hd];exact h.1,ih (d+1) ⋯ _ ?_⟩;rw[st d hd];refine G.ext ⋯ (λi hi=>?_) (G.add ⋯ h.2 (G.mul (w d/aZ s D d) ⋯ ((hW d hd).away Gd n ⋯ (UZ _) k ⋯)));show w i-w d/aZ s D d*D d i+w d/aZ s D d*(W d (d+1) i-W d n i)=_;rw[h0 d hd i hi,hD d hd i hi];grind
 have good:Good n s D':=Gd.GO (λd hd i hi=>by rw[hD d hd i hi];exact(hW d hd).kept Gd n ⋯ (UZ _) i hi) (λd hd i hi=>by rw[dg d hd i ⋯];exact Gd.xw d hd i hi) (λd hd=>by rw[st d hd];exact Gd.dv d hd) UK;have lt:∀d,d<n->∀e,d<e->e<n->D' d e<aZ s D e:=λd hd e he hen=>by
  rw[hD d hd e hen];exact((hW d hd).low Gd n ⋯ (UZ _) e ⋯ hen).2
 refine⟨good,st,lt,λd hd z=>?_,UK⟩;have h1:=good.own (d:=d) (k:=n-d-1) ⋯;have h2:=h1.2;refine G.small good (n-d-1) (d+1) (D' d) ⋯ (good.kU d hd) (λi h1 h2=>by rw[st i h2];exact lt d hd i ⋯ h2) (G.ext ⋯ (λi hi=>?_) h2);rw[z];simp
end
noncomputable def eW:Nat->(Nat->Int)->Int
 | 0,_=>0
 |m+1,f=>eW m f+f m
theorem vV(a b:Int)(f g h:Nat->Int):∀m,(∀l,l<m->h l=a*f l+b*g l)->eW m h=a*eW m f+b*eW m g
 | 0,_=>by simp[eW]
 | m+1,e=>by
  rw[eW,eW,eW,vV a b f g h m λl hl=>e l ⋯,e m ⋯];grind
theorem iI{f g:Nat->Int}:∀{m:Nat},(∀l,l<m->f l=g l)->eW m f=eW m g
 | 0,_=>rfl
 |m+1,e=>by rw[eW,eW,iI λl hl=>e l ⋯,e m ⋯]
theorem gH:∀m,eW m (λ_=>0)=0
 | 0=>rfl
 |m+1=>by rw[eW,gH m];rfl
theorem mS(k:Nat)(a:Int):∀m,k<m->∀f:Nat->Int,(∀l,l<m->f l=if l=k then a else 0)->eW m f=a
 | 0,h,_,_=>by lia
 | m+1,h,f,e=>by
  rw[eW]
  by_cases z:k=m
  .subst z;rw[iI (g:=λ_=>0) λl hl=>by rw[e l ⋯,if_neg ⋯],gH,e k ⋯,if_pos rfl];lia
  .rw[mS k a m ⋯ f λl hl=>e l ⋯,e m ⋯,if_neg ⋯];lia
def Led(n:Nat)(s:dE)(m:Nat)(A:Nat->dE)(v P:dE):Prop:=∀i,i<n->s i∣v i-eW m λl=>P l*A l i
variable{m:Nat}
theorem Led.mix{A:Nat->dE}{v w x P Q R:dE}{a:Int}(h1:Led n s m A v P)(h2:Led n s m A w Q)(hx:∀i,i<n->s i∣x i-(a*v i+b*w i))(hR:∀l,l<m->R l=a*P l+b*Q l):Led n s m A x R:=λi hi=>by
 obtain⟨c1,e1⟩:=h1 i hi;obtain⟨c2,e2⟩:=h2 i hi;obtain⟨c3,e3⟩:=hx i hi;rw[vV a b (λl=>P l*A l i) (λl=>Q l*A l i) (λl=>R l*A l i) m λl hl=>by rw[hR l hl];grind];exact⟨a*c1+b*c2+c3,by grind⟩
noncomputable def aw:Nat->(Nat->Int)->Int
 | 0,_=>1
 |m+1,f=>aw m f*f m
theorem nz{f g h:Nat->Int}:∀{m:Nat},(∀l,l<m->f l=g l*h l)->aw m f=aw m g*aw m h
 | 0,_=>rfl
 |m+1,e=>by rw[aw,aw,aw,nz λl hl=>e l ⋯,e m ⋯];grind
theorem eZ{f g:Nat->Int}:∀{m:Nat},(∀l,l<m->f l=g l)->aw m f=aw m g
 | 0,_=>rfl
 |m+1,e=>by rw[aw,aw,eZ λl hl=>e l ⋯,e m ⋯]
theorem cY{f:Nat->Int}:∀{m:Nat},(∀l,l<m->0<f l)->0<aw m f
 | 0,_=>(by decide:(0:Int)<1)
 |m+1,e=>abr (cY λl hl=>e l ⋯) (e m ⋯)
def vf(xs:List Int):dE:=λi=>xs.getD i 0
variable{xs:List Int}
def bh(h:i<xs.length):vf xs i=xs[i]:=by
 unfold vf;rw[Ve,UW h];rfl
def w6(h:xs.length<=i):vf xs i=0:=by
 unfold vf;rw[Ve,Y_ h];rfl
def n9(xs:List Int)(a:Int)(ys:List Int)(b:Int):List Int:=(xs.zip ys).map λz=>a*z.1+b*z.2
def Ac(xs Qf:List Int):List Int:=(xs.zip Qf).map λz=>z.1%z.2
variable{ys:List Int}
def bP{a:Int}:(n9 xs a ys b).length=min xs.length ys.length:=by simp[n9]
def iF:(Ac xs ys).length=min xs.length ys.length:=by simp[Ac]
theorem e7{a:Int}(h1:i<xs.length)(h2:i<ys.length):vf (n9 xs a ys b) i=a*vf xs i+b*vf ys i:=by
 rw[bh (by rw[bP];lia),bh h1,bh h2];simp[n9]
theorem jw(h1:i<xs.length)(h2:i<ys.length):vf (Ac xs ys) i=vf xs i%vf ys i:=by
 rw[bh (by rw[iF];lia),bh h1,bh h2];simp[Ac]
def Bu(hl:xs.length=ys.length)(h:∀i,i<xs.length->vf xs i=vf ys i):xs=ys:=by
 refine acD hl λi h1 h2=>?_;have:=h i h1
 rwa [bh h1,bh h2] at this
def mR(n:Nat)(i:Nat):vf (UY n 0) i=0:=by
 rcases VH i n with h|h
 .rw[bh (by simpa using h)];simp
 .rw[w6 (by simpa using h)]
def Bd(B:Nat)(xs:List Int):Prop:=∀x∈xs,x.natAbs<2^B
def Bd.mono{B C:Nat}(h:Bd B xs)(hc:B<=C):Bd C xs:=λx hx=>U8 (h x hx) (WL ↑12 hc)
theorem Bd.vf{B:Nat}{xs:List Int}(h:Bd B xs)(i:Nat):(vf xs i).natAbs<2^B:=by
 rcases VH i xs.length with q|q
 .rw[bh q];exact h _ (VP q)
 .rw[w6 q];exact WV B
def wX{a:Int}{A B:Nat}(ha:a.natAbs<2^A)(hb:b.natAbs<2^B):(a*b).natAbs<2^(A+B):=by
 rw[Xa,acK];have h0:0<2^A:=WV A;have h1:0<2^B:=WV B;exact Nat.mul_lt_mul_of_lt_of_le ha (Xg hb) h1
theorem Lj{a:Int}{A:Nat}(ha:a.natAbs<2^A)(hb:b.natAbs<2^A):(a+b).natAbs<2^(A+1):=by
 rw[acg];lia
def Bd.mix{A B:Nat}{a:Int}(hx:Bd B xs)(hy:Bd B ys)(ha:a.natAbs<2^A)(hb:b.natAbs<2^A):Bd (A+B+1) (n9 xs a ys b):=by
 intro z hz;obtain⟨w,hw,rfl⟩:=VI.mp hz;have:=WU (a:=w.1) (b:=w.2) hw;exact Lj (wX ha (hx _ this.1)) (wX hb (hy _ this.2))
abbrev Row:=List Int×List Int
noncomputable def row(rows:List Row)(d:Nat):Row:=rows.getD d ([],[])
def DD(rows:List Row):Nat->dE:=λd=>vf (row rows d).1
def PP(rows:List Row):Nat->dE:=λd=>vf (row rows d).2
structure Wf (n m:Nat) (rows:List Row):Prop where
 len:rows.length=n
 l1:∀r∈rows,r.1.length=n
 l2:∀r∈rows,r.2.length=m
variable{rows:List Row}
def ij(h:d<rows.length):row rows d=rows[d]:=by
 unfold row;rw[Ve,UW h];rfl
def Wf.oH(w:Wf n m rows)(h:d<n):(row rows d).1.length=n:=by
 rw[ij (by rwa[w.len])];exact w.l1 _ (VP _)
def Wf.at2(w:Wf n m rows)(h:d<n):(row rows d).2.length=m:=by
 rw[ij (by rwa[w.len])];exact w.l2 _ (VP _)
noncomputable def rm(Qf:List Int)(r:Row)(a:Int)(q:Row)(b:Int):Row:=(Ac (n9 r.1 a q.1 b) Qf,n9 r.2 a q.2 b)
noncomputable def az(c:Int->Int->Int×Int)(Qf:List Int)(rows:List Row)(left:Row):Nat->Row
 | 0=>left
 | d+1 =>
  let l:=az c Qf rows left d
  let st:=aZ (vf Qf) (DD rows) d
  let nt:=vf l.1 d
  rm Qf l (st/(Vv st nt:Nat)) (row rows d) (-(nt/(Vv st nt:Nat)))
noncomputable def dN(c:Int->Int->Int×Int)(Qf:List Int)(rows:List Row)(left:Row)(d:Nat):Row :=
 let l:=az c Qf rows left d
 let st:=aZ (vf Qf) (DD rows) d
 let nt:=vf l.1 d
 rm Qf (row rows d) (c st nt).1 l (c st nt).2
noncomputable def cF(c:Int->Int->Int×Int)(Qf:List Int)(rows:List Row)(left:Row)(n:Nat):List Row:=(Vc n).map (dN c Qf rows left)
variable{left:Row}{Qf:List Int}{c:Int->Int->Int×Int}
theorem cV(w:Wf n m rows)(hs:Qf.length=n)(h1:left.1.length=n)(h2:left.2.length=m):∀d,d<=n->(az c Qf rows left d).1.length=n/\(az c Qf rows left d).2.length=m
 | 0,_=>⟨h1,h2⟩
 | d+1,hd=>by
  obtain⟨i1,i2⟩:=cV w hs h1 h2 d ⋯;have e1:=w.oH (d:=d) ⋯;have e2:=w.at2 (d:=d) ⋯;simp only[az,rm];rw[iF,bP,bP];exact⟨by lia,by lia⟩
def kH(h:d<n):row (cF c Qf rows left n) d=dN c Qf rows left d:=by
 rw[ij (by simp[cF,h])];simp[cF]
theorem DQ(w:Wf n m rows)(hs:Qf.length=n)(h1:left.1.length=n)(h2:left.2.length=m):Wf n m (cF c Qf rows left n):=by
 have key:∀d,d<n->(dN c Qf rows left d).1.length=n/\(dN c Qf rows left d).2.length=m:=λd hd=>by
  obtain⟨i1,i2⟩:=cV (c:=c) w hs h1 h2 d ⋯;have e1:=w.oH (d:=d) hd;have e2:=w.at2 (d:=d) hd;simp only[dN,rm];rw[iF,bP,bP];exact⟨by lia,by lia⟩
 refine⟨by simp[cF],λr hr=>?_,λr hr=>?_⟩
 .obtain⟨d,hd,rfl⟩:=VI.mp hr;exact(key d (V3.mp hd)).1
 .obtain⟨d,hd,rfl⟩:=VI.mp hr;exact(key d (V3.mp hd)).2
theorem gx{a:Int}(h:0<a):0<(Vv a b:Int):=by
 have:=Int.gcd_pos_of_ne_zero_left b (show a≠0 by lia);lia
theorem Nh(w:Wf n m rows)(hs:Qf.length=n)(h1:left.1.length=n)(h2:left.2.length=m)(Gd:Good n (vf Qf) (DD rows))(h0:∀i,i<n->0<=vf left.1 i/\vf left.1 i<vf Qf i)(hc:∀d,d<n->(c (aZ (vf Qf) (DD rows) d) (vf (az c Qf rows left d).1 d)).1*aZ (vf Qf) (DD rows) d+(c (aZ (vf Qf) (DD rows) d) (vf (az c Qf rows left d).1 d)).2*vf (az c Qf rows left d).1 d=(Vv (aZ (vf Qf) (DD rows) d) (vf (az c Qf rows left d).1 d):Nat)):Tk n (vf Qf) (DD rows) (DD (cF c Qf rows left n)) (λd=>vf (az c Qf rows left d).1) (λd=>(c (aZ (vf Qf) (DD rows) d) (vf (az c Qf rows left d).1 d)).1) (λd=>(c (aZ (vf Qf) (DD rows) d) (vf (az c Qf rows left d).1 d)).2) (λd=>(Vv (aZ (vf Qf) (DD rows) d) (vf (az c Qf rows left d).1 d):Nat)) where
 gp:=λd hd=>gx (Gd.pos hd).1
 bz:=hc
 g1:=λd hd=>XY ..
 g2:=λd hd=>ach ..
 r0:=λd hd i hi=>by
  obtain⟨i1,i2⟩:=cV (c:=c) w hs h1 h2 d ⋯;have e1:=w.oH (d:=d) hd;show vf (row (cF c Qf rows left n) d).1 i=_;rw[kH hd];simp only[dN,rm];rw[jw (by rw[bP];lia) ⋯,e7 ⋯ ⋯];rfl
 M8:=λd hd i hi=>by
  obtain⟨i1,i2⟩:=cV (c:=c) w hs h1 h2 d ⋯;have e1:=w.oH (d:=d) hd;simp only[az,rm];rw[jw (by rw[bP];lia) ⋯,e7 ⋯ ⋯];rfl
 l0:=h0
section
variable{A:Nat->dE}
def CB(c:Int->Int->Int×Int):Prop:=∀a b:Int,0<a->a<=360->0<=b->b<=360->(c a b).1*a+(c a b).2*b=(Vv a b:Nat)/\(c a b).1.natAbs<2^20/\(c a b).2.natAbs<2^20
theorem j5{a:Int}(h:0<a)(h2:a<=360):0<a/(Vv a b:Nat)/\a/(Vv a b:Nat)<=360:=by
 have g:=gx (b:=b) h;obtain⟨q,hq⟩:((Vv a b:Nat):Int)∣a:=XY ..;have e:a/(Vv a b:Nat)=q:=by
  have:((Vv a b:Nat):Int)≠0:=by lia
  exact Int.ediv_eq_of_eq_mul_right this hq
 rw[e];have q0:0<q:=by
  rcases aaU 0 q with z|z
  .exact z
  .have:=YI (X6 g) z;lia
 refine⟨q0,?_⟩;have:1*q<=(Vv a b:Nat)*q:=Wg ⋯ ⋯;lia
theorem lU{a:Int}(h:0<a)(h1:0<=b)(h2:b<=360):0<=b/(Vv a b:Nat)/\b/(Vv a b:Nat)<=360:=by
 have g:=gx (b:=b) h;exact⟨WW h1 ⋯,ZU (Ys _ h1) h2⟩
def Zf(k m:Nat)(P:dE):Prop:=∀l,k<=l->l<m->P l=0
structure St (n m:Nat) (Qf:List Int) (A:Nat->dE) (k:Nat) (rows:List Row):Prop where
 wf:Wf n m rows
 hs:Qf.length=n
 sm:∀i,i<n->vf Qf i<=360
 gd:Good n (vf Qf) (DD rows)
 led:∀d,d<n->Led n (vf Qf) m A (DD rows d) (PP rows d)
 zf:∀d,d<n->Zf k m (PP rows d)
 bd:∀d,d<n->Bd (150*k+1) (row rows d).2
 cl:∀l,l<k->G n (vf Qf) (DD rows) n 0 (A l)
structure Lv (n m:Nat) (Qf:List Int) (A:Nat->dE) (k:Nat) (left:Row):Prop where
 l1:left.1.length=n
 l2:left.2.length=m
 km:k<m
 at_:∀i,i<n->vf left.1 i=A k i
 kU:∀i,i<n->0<=A k i/\A k i<vf Qf i
 un:∀l,l<m->vf left.2 l=if l=k then 1 else 0
theorem kf(h:St n m Qf A k rows)(L:Lv n m Qf A k left):∀d,d<=n->∀i,i<n->0<=vf (az c Qf rows left d).1 i/\vf (az c Qf rows left d).1 i<vf Qf i
 | 0,_,i,hi=>by show 0<=vf left.1 i/\vf left.1 i<vf Qf i;rw[L.at_ i hi];exact L.kU i hi
 | d+1,hd,i,hi=>by
  obtain⟨i1,i2⟩:=cV (c:=c) h.wf h.hs L.l1 L.l2 d ⋯;have e1:=h.wf.oH (d:=d) ⋯;have hs:=h.hs;simp only[az,rm];rw[jw (by rw[bP];lia) ⋯];have:=h.gd.sp i hi;exact⟨Vk _ ⋯,Vd _ this⟩
theorem St.tk(h:St n m Qf A k rows)(L:Lv n m Qf A k left)(cb:CB c):Tk n (vf Qf) (DD rows) (DD (cF c Qf rows left n)) (λd=>vf (az c Qf rows left d).1) (λd=>(c (aZ (vf Qf) (DD rows) d) (vf (az c Qf rows left d).1 d)).1) (λd=>(c (aZ (vf Qf) (DD rows) d) (vf (az c Qf rows left d).1 d)).2) (λd=>(Vv (aZ (vf Qf) (DD rows) d) (vf (az c Qf rows left d).1 d):Nat)) :=
 Nh h.wf h.hs L.l1 L.l2 h.gd (λi hi=>by rw[L.at_ i hi];exact L.kU i hi) λd hd=>by
  have p:=h.gd.pos hd;have q:=kf (c:=c) h L d ⋯ d hd;have s:=h.sm d hd;exact(cb _ _ p.1 ⋯ q.1 ⋯).1
theorem pB(h:St n m Qf A k rows)(L:Lv n m Qf A k left):∀d,d<=n->Led n (vf Qf) m A (vf (az c Qf rows left d).1) (vf (az c Qf rows left d).2)
 | 0,_=>λi hi=>by
  show vf Qf i∣vf left.1 i-eW m λl=>vf left.2 l*A l i;rw[L.at_ i hi,mS k (A k i) m L.km (λl=>vf left.2 l*A l i) λl hl=>by
   rw[L.un l hl]
   by_cases z:l=k
   .subst z;rw[if_pos rfl,if_pos rfl,Yk]
   .rw[if_neg z,if_neg z,Y6]]
  rw[acf];exact WE _
 | d+1,hd=>by
  obtain⟨i1,i2⟩:=cV (c:=c) h.wf h.hs L.l1 L.l2 d ⋯;have e1:=h.wf.oH (d:=d) ⋯;have e2:=h.wf.at2 (d:=d) ⋯;have hs:=h.hs;refine Led.mix (a:=aZ (vf Qf) (DD rows) d/(Vv (aZ (vf Qf) (DD rows) d) (vf (az c Qf rows left d).1 d):Nat)) (b:=-(vf (az c Qf rows left d).1 d/(Vv (aZ (vf Qf) (DD rows) d) (vf (az c Qf rows left d).1 d):Nat))) (pB h L d ⋯) (h.led d ⋯) (λi hi=>?_) λl hl=>?_
  .simp only[az,rm];rw[jw (by rw[bP];lia) ⋯,e7 ⋯ ⋯];exact gP _ _
  .simp only[az,rm];rw[e7 ⋯ ⋯];rfl
theorem u4(h:St n m Qf A k rows)(L:Lv n m Qf A k left):∀d,d<=n->Zf (k+1) m (vf (az c Qf rows left d).2)/\vf (az c Qf rows left d).2 k=aw d λe=>aZ (vf Qf) (DD rows) e/(Vv (aZ (vf Qf) (DD rows) e) (vf (az c Qf rows left e).1 e):Nat)
 | 0,_=>⟨λl h1 h2=>by show vf left.2 l=0;rw[L.un l h2,if_neg ⋯],by show vf left.2 k=1;rw[L.un k L.km,if_pos rfl]⟩
 | d+1,hd=>by
  obtain⟨i1,i2⟩:=cV (c:=c) h.wf h.hs L.l1 L.l2 d ⋯;have e2:=h.wf.at2 (d:=d) ⋯;obtain⟨j1,j2⟩:=u4 h L d ⋯;have z:=h.zf d ⋯;have km:=L.km;constructor
  .intro l h1 h2;simp only[az,rm];rw[e7 ⋯ ⋯,j1 l h1 h2,show vf (row rows d).2 l=0 from z l ⋯ h2];simp
  .rw[aw,<- j2];simp only[az,rm];rw[e7 ⋯ ⋯,show vf (row rows d).2 k=0 from z k (UZ _) km]
   grind
theorem oO(h:St n m Qf A k rows)(L:Lv n m Qf A k left)(hn:n<=6):∀d,d<=n->Bd (150*k+1+11*d) (az c Qf rows left d).2
 | 0,_=>λx hx=>by
  have hx:x∈left.2:=hx;obtain⟨i,hi,rfl⟩:=Vn.mp hx;have hm:i<m:=by rwa[<- L.l2]
  have e:=L.un i hm;rw[bh hi] at e;show (left.2[i]).natAbs<_;rw[e];have:2^1<=2^(150*k+1+11*0):=WL ↑12 ⋯;refine U8 ?_ this
  split
  .decide
  .decide
 | d+1,hd=>by
  have p:=h.gd.pos (show d<n by lia);have s:=h.sm d ⋯;have q:=kf (c:=c) h L d ⋯ d ⋯;have a1:=j5 (b:=vf (az c Qf rows left d).1 d) p.1 ⋯;have a2:=lU (b:=vf (az c Qf rows left d).1 d) p.1 q.1 ⋯;have:=Bd.mix (A:=9+1) (oO h L hn d ⋯) ((h.bd d ⋯).mono (show 150*k+1<=150*k+1+11*d by lia)) (a:=aZ (vf Qf) (DD rows) d/(Vv (aZ (vf Qf) (DD rows) d) (vf (az c Qf rows left d).1 d):Nat)) (b:=-(vf (az c Qf rows left d).1 d/(Vv (aZ (vf Qf) (DD rows) d) (vf (az c Qf rows left d).1 d):Nat))) ⋯ ⋯;exact this.mono ⋯
theorem St.next(h:St n m Qf A k rows)(L:Lv n m Qf A k left)(cb:CB c)(hn:n<=6):St n m Qf A (k+1) (cF c Qf rows left n):=by
 have T:=h.tk L cb;have hs:=h.hs;refine⟨DQ h.wf h.hs L.l1 L.l2,h.hs,h.sm,T.good h.gd,λd hd=>?_,λd hd=>?_,λd hd=>?_,λl hl=>?_⟩
 .obtain⟨i1,i2⟩:=cV (c:=c) h.wf h.hs L.l1 L.l2 d ⋯;have e1:=h.wf.oH (d:=d) hd;have e2:=h.wf.at2 (d:=d) hd;unfold DD PP;rw[kH hd];refine Led.mix (a:=(c (aZ (vf Qf) (DD rows) d) (vf (az c Qf rows left d).1 d)).1) (b:=(c (aZ (vf Qf) (DD rows) d) (vf (az c Qf rows left d).1 d)).2) (h.led d hd) (pB (c:=c) h L d ⋯) (λi hi=>?_) λl hl=>?_
  .simp only[dN,rm];rw[jw (by rw[bP];lia) ⋯,e7 ⋯ ⋯];exact gP _ _
  .simp only[dN,rm];rw[e7 ⋯ ⋯];rfl
 .obtain⟨i1,i2⟩:=cV (c:=c) h.wf h.hs L.l1 L.l2 d ⋯;have e2:=h.wf.at2 (d:=d) hd;intro l h1 h2;unfold PP;rw[kH hd];simp only[dN,rm];rw[e7 ⋯ ⋯,(u4 (c:=c) h L d ⋯).1 l h1 h2,show vf (row rows d).2 l=0 from h.zf d hd l ⋯ h2];simp
 .rw[kH hd];have p:=h.gd.pos hd;have s:=h.sm d hd;have q:=kf (c:=c) h L d ⋯ d hd;have b:=cb (aZ (vf Qf) (DD rows) d) (vf (az c Qf rows left d).1 d) p.1 ⋯ q.1 ⋯;have:=Bd.mix (A:=20) ((h.bd d hd).mono (show 150*k+1<=150*k+1+11*d by lia)) (oO (c:=c) h L hn d ⋯) b.2.1 b.2.2;exact this.mono ⋯
 .rcases VH l k with q|q
  .exact(T.main h.gd n 0 ⋯).1 _ (h.cl l q)
  .obtain rfl:l=k:=by lia
   exact G.ext ⋯ (λi hi=>L.at_ i hi) (T.main h.gd n 0 ⋯).2
end
noncomputable def aW(Qh:List (List Int))(k:Nat)(P:List Int):Nat->List Int
 | 0=>P
 | c+1 =>
  let z:=aW Qh k P c
  let r:=Qh.getD (k-1-c) []
  n9 z 1 r (-(vf z (k-1-c)/vf r (k-1-c)))
def II(Qh:List (List Int)):Nat->dE:=λj=>vf (Qh.getD j [])
structure AV (n m:Nat) (s:dE) (A:Nat->dE) (k:Nat) (Qh:List (List Int)):Prop where
 len:Qh.length=k
 l2:∀j,j<k->(Qh.getD j []).length=m
 pos:∀j,j<k->0<II Qh j j
 le:∀j,j<k->II Qh j j<2^60
 zero:∀j,j<k->∀l,j<l->l<m->II Qh j l=0
 nf:∀j,j<k->∀l,l<j->0<=II Qh j l/\II Qh j l<II Qh l l
 tD:∀j,j<k->Led n s m A (λ_=>0) (II Qh j)
variable{Qh:List (List Int)}
variable{j:Nat}
section
variable{A:Nat->dE}{P:List Int}
theorem AV.bd(h:AV n m s A k Qh)(hj:j<k)(hm:k<=m):Bd 60 (Qh.getD j []):=λx hx=>by
 obtain⟨l,hl,rfl⟩:=Vn.mp hx;rw[h.l2 j hj] at hl;have e:II Qh j l=(Qh.getD j [])[l]'(by rwa[h.l2 j hj]):=bh _;rw[<- e];rcases VH l j with q|q
 .have h1:=h.nf j hj l q;have h2:=h.le l ⋯;lia
 .rcases VH j l with q2|q2
  .rw[h.zero j hj l q2 hl];exact WV _
  .obtain rfl:l=j:=by lia
   have h1:=h.pos l hj;have h2:=h.le l hj;lia
theorem span_len(h:AV n m s A k Qh)(hP:P.length=m):∀c,c<=k->(aW Qh k P c).length=m
 | 0,_=>hP
 | c+1,hc=>by
  simp only[aW];rw[bP,span_len h hP c ⋯,h.l2 _ ⋯];lia
theorem oK(h:AV n m s A k Qh)(hP:P.length=m){c l:Nat}(hc:c<k)(hl:l<m):vf (aW Qh k P (c+1)) l=vf (aW Qh k P c) l-vf (aW Qh k P c) (k-1-c)/II Qh (k-1-c) (k-1-c)*II Qh (k-1-c) l:=by
 simp only[aW];rw[e7 (by rwa[span_len h hP c ⋯]) (by rwa[h.l2 _ ⋯])];unfold II
 grind
theorem vQ(h:AV n m s A k Qh)(hP:P.length=m):∀c,c<=k->∀l,k<=l->l<m->vf (aW Qh k P c) l=vf P l
 | 0,_,_,_,_=>rfl
 | c+1,hc,l,h1,h2=>by
  rw[oK h hP ⋯ h2,h.zero _ ⋯ l ⋯ h2,vQ h hP c ⋯ l h1 h2];simp
theorem yC(h:AV n m s A k Qh)(hP:P.length=m)(hm:k<=m):∀c,c<=k->∀l,k-c<=l->l<k->0<=vf (aW Qh k P c) l/\vf (aW Qh k P c) l<II Qh l l
 | 0,_,l,h1,h2=>by lia
 | c+1,hc,l,h1,h2=>by
  rw[oK h hP ⋯ ⋯];rcases VH (k-1-c) l with q|q
  .rw[h.zero _ ⋯ l q ⋯,Xk,aaV];exact yC h hP hm c ⋯ l ⋯ h2
  .obtain rfl:l=k-1-c:=by lia
   have p:=h.pos (k-1-c) ⋯;have e:=Y5 (vf (aW Qh k P c) (k-1-c)) (II Qh (k-1-c) (k-1-c));rw[WR (vf (aW Qh k P c) (k-1-c)/_),<- e];exact⟨Vk _ ⋯,Vd _ p⟩
theorem wM(h:AV n m s A k Qh)(hP:P.length=m){v:dE}(hv:Led n s m A v (vf P)):∀c,c<=k->Led n s m A v (vf (aW Qh k P c))
 | 0,_=>hv
 | c+1,hc=>by
  refine Led.mix (a:=1) (b:=-(vf (aW Qh k P c) (k-1-c)/II Qh (k-1-c) (k-1-c))) (wM h hP hv c ⋯) (h.tD (k-1-c) ⋯) (λi hi=>?_) λl hl=>?_
  .rw[Xk,ZT,Yk,acf];exact WE _
  .rw[oK h hP ⋯ hl];grind
theorem yA(h:AV n m s A k Qh)(hP:P.length=m)(hm:k<=m){B:Nat}(hB:60<=B)(hb:Bd B P):∀c,c<=k->Bd (B+62*c) (aW Qh k P c)
 | 0,_=>hb
 | c+1,hc=>by
  have ih:=yA h hP hm hB hb c ⋯;intro x hx;obtain⟨l,hl,rfl⟩:=Vn.mp hx;rw[span_len h hP (c+1) hc] at hl;rw[<- bh,oK h hP ⋯ hl];have p:=h.pos (k-1-c) ⋯;have q1:(vf (aW Qh k P c) (k-1-c)/II Qh (k-1-c) (k-1-c)).natAbs<2^(B+62*c+1):=by
   have h1:=ih.vf (k-1-c);have h2:=aag (vf (aW Qh k P c) (k-1-c)) (II Qh (k-1-c) (k-1-c));rw[acg];lia
  have q2:(II Qh (k-1-c) l).natAbs<2^60:=(h.bd (j:=k-1-c) ⋯ hm).vf l;have q3:=wX q1 q2;have q4:=ih.vf l;have q5:2^(B+62*c)<=2^(B+62*c+1+60):=WL ↑12 ⋯;have q6:(2:Nat)^(B+62*(c+1))=2^(B+62*c+1+60)*2:=by rw[<- acg];congr 1
  rw[q6];lia
end
section
variable{A:Nat->dE}
theorem Tk.order{s:dE}{D D' L:Nat->dE}{u v g:Nat->Int}(t:Tk n s D D' L u v g)(Gd:Good n s D):∀(k d:Nat)(x:Int),d+k=n->G n s D k d (λi=>x*L d i)->aw n (λe=>aZ s D e/g e)∣x*aw d (λe=>aZ s D e/g e)
 | 0,d,x,hn,h=>by
  obtain rfl:d=n:=by lia
  exact W3 _ _
 | k+1,d,x,hn,h=>by
  have hd:d<n:=by lia
  obtain⟨a,ha⟩:=t.g1 d hd;obtain⟨b,hb⟩:=t.g2 d hd;have gp:=t.gp d hd;have sp:=(Gd.pos hd).1;have e1:aZ s D d/g d=a:=by rw[ha];exact V1 a ⋯
  have e2:L d d/g d=b:=by rw[hb];exact V1 b ⋯
  have bz:u d*a+v d*b=1:=by
   have:=t.bz d hd;rw[ha,hb,show u d*(g d*a)+v d*(g d*b)=g d*(u d*a+v d*b) by grind] at this;have h2:g d*(u d*a+v d*b)=g d*1:=by lia
   exact WY ⋯ h2
  obtain⟨q,hq⟩:=h.1;have hax:a∣x:=by
   have h3:g d*(x*b)=g d*(a*q):=by
    have:x*L d d=aZ s D d*q:=hq;rw[hb,ha] at this;grind
   have h4:x*b=a*q:=WY ⋯ h3;exact⟨u d*x+v d*q,by
    have:x=x*(u d*a+v d*b):=by rw[bz,acG]
    rw[this];have:x*(u d*a+v d*b)=a*(u d*x)+v d*(x*b):=by grind
    rw[this,h4];grind⟩
  obtain⟨y,hy⟩:=hax;have QQ:q=b*y:=by
   have h3:g d*(a*q)=g d*(a*(b*y)):=by
    have:x*L d d=aZ s D d*q:=hq;rw[hb,ha,hy] at this;grind
   have ap:a≠0:=by intro z;rw[z,Xk] at ha;lia
   exact WY ap (WY ⋯ h3)
  have h2:=h.2;have q1:x*L d d/aZ s D d=q:=by
   show x*L d d/aZ s D d=q;rw[show x*L d d=aZ s D d*q from hq];exact V1 q ⋯
  have:=t.order Gd k (d+1) y ⋯ (Gd.l9 ⋯ (λi hi=>?_) h2)
  .rw[aw,e1] at this;rw[hy,show a*y*aw d (λe=>aZ s D e/g e)=y*(aw d (λe=>aZ s D e/g e)*a) by grind];exact this
  .show s i∣y*L (d+1) i-(x*L d i-x*L d d/aZ s D d*D d i);rw[q1,t.M8 d hd i hi,e1,e2];obtain⟨z,hz⟩:=gP (a*L d i+-b*D d i) (s i);refine⟨y*z,?_⟩;have:(a*L d i+-b*D d i)%s i=a*L d i+-b*D d i+s i*z:=by lia
   rw[this,hy,QQ];grind
theorem G.sum(Gd:Good n (vf Qf) (DD rows)){P:dE}:∀k',(∀l,l<k'->G n (vf Qf) (DD rows) n 0 (A l))->G n (vf Qf) (DD rows) n 0 (λi=>eW k' λl=>P l*A l i)
 | 0,_=>G.zero ⋯
 |k'+1,h=>G.ext ⋯ (λi _=>rfl) (G.add ⋯ (G.sum Gd k' λl hl=>h l ⋯) (G.mul (P k') ⋯ (h k' ⋯)))
end
def nM(m k:Nat):List Int:=(Vc m).map λl=>if l=k then 1 else 0
def wq{l:Nat}(h:l<m):vf (nM m k) l=if l=k then 1 else 0:=by
 rw[bh (by simp[nM,h])];simp[nM]
def AA(Ls:List (List Int)):Nat->dE:=λl=>vf (Ls.getD l [])
noncomputable def bL(Ls:List (List Int))(m k:Nat):Row:=(Ls.getD k [],nM m k)
noncomputable def RK(c:Int->Int->Int×Int)(Qf:List Int)(Ls:List (List Int))(n m:Nat):Nat->List Row×List (List Int)
 | 0=>(UY n (UY n 0,UY m 0),[])
 | k+1 =>
  (cF c Qf (RK c Qf Ls n m k).1 (bL Ls m k) n,(RK c Qf Ls n m k).2++[aW (RK c Qf Ls n m k).2 k (az c Qf (RK c Qf Ls n m k).1 (bL Ls m k) n).2 k])
structure MO (n m:Nat) (Qf:List Int) (Ls:List (List Int)):Prop where
 len:Ls.length=m
 at_:∀l,l<m->(Ls.getD l []).length=n
 kU:∀l,l<m->∀i,i<n->0<=AA Ls l i/\AA Ls l i<vf Qf i
structure EH (n m:Nat) (Qf:List Int) (Ls:List (List Int)) (k:Nat) (r:List Row×List (List Int)):Prop where
 st:St n m Qf (AA Ls) k r.1
 tD:AV n m (vf Qf) (AA Ls) k r.2
 pr:aw k (λj=>II r.2 j j)*aw n (aZ (vf Qf) (DD r.1))=aw n (vf Qf)
 ord:∀j,j<k->∀P:dE,Zf (j+1) m P->Led n (vf Qf) m (AA Ls) (λ_=>0) P->II r.2 j j∣P j
variable{x:List Int}
section
variable{Ls:List (List Int)}
def iy(h:j<Qh.length):II (Qh++[x]) j=II Qh j:=by
 unfold II;rw[Ve,VX h,<- Ve]
def j4:II (Qh++[x]) Qh.length=vf x:=by
 unfold II;rw[Ve,Vp (UZ _)];simp
def EE(h:j<Qh.length):(Qh++[x]).getD j []=Qh.getD j []:=by
 rw[Ve,VX h,<- Ve]
def DH:(Qh++[x]).getD Qh.length []=x:=by
 rw[Ve,Vp (UZ _)];simp
theorem o7{f:Nat->Int}{k:Nat}:∀{m:Nat},k<m->(∀l,k<l->l<m->f l=0)->eW m f=eW k f+f k
 | 0,h,_=>by lia
 | m+1,h,e=>by
  rw[eW]
  by_cases z:k=m
  .subst z;rfl
  .rw[o7 (m:=m) ⋯ λl h1 h2=>e l h1 ⋯,e m ⋯ ⋯];lia
theorem wF:∀{n:Nat}{f:Nat->Int},(∀i,i<n->0<f i/\f i<=360)->aw n f<=360^n
 | 0,f,_=>by simp[aw]
 | n+1,f,h=>by
  rw[aw,Int.pow_succ];exact Int.mul_le_mul (wF λi hi=>h i ⋯) (h n ⋯).2 (by have:=(h n ⋯).1;lia) (Int.pow_nonneg ↑12)
theorem N3(h:n<=6):(360:Int)^n<=360^6:=by
 have:n=0\/n=1\/n=2\/n=3\/n=4\/n=5\/n=6:=by lia
 rcases this with rfl|rfl|rfl|rfl|rfl|rfl|rfl<;>decide
theorem EH.next{r:List Row×List (List Int)}(h:EH n m Qf Ls k r)(LL:MO n m Qf Ls)(cb:CB c)(hn:n<=6)(hk:k<m):EH n m Qf Ls (k+1) (cF c Qf r.1 (bL Ls m k) n,r.2++[aW r.2 k (az c Qf r.1 (bL Ls m k) n).2 k]):=by
 have L:Lv n m Qf (AA Ls) k (bL Ls m k):=⟨LL.at_ k hk,by simp[bL,nM],hk,λi hi=>rfl,LL.kU k hk,λl hl=>wq hl⟩
 have T:=h.st.tk L cb;have ll:=cV (c:=c) h.st.wf h.st.hs L.l1 L.l2 n (UZ _);have zf:=u4 (c:=c) h.st L n (UZ _);have led:=pB (c:=c) h.st L n (UZ _);have l0:=T.zero h.st.gd n (UZ _);have il:r.2.length=k:=h.tD.len;have out:=vQ h.tD ll.2 k (UZ _);have jk:vf (aW r.2 k (az c Qf r.1 (bL Ls m k) n).2 k) k=aw n λe=>aZ (vf Qf) (DD r.1) e/(Vv (aZ (vf Qf) (DD r.1) e) (vf (az c Qf r.1 (bL Ls m k) e).1 e):Nat):=by
  rw[out k (UZ _) hk];exact zf.2
 have pos:∀e,e<n->0<aZ (vf Qf) (DD r.1) e/(Vv (aZ (vf Qf) (DD r.1) e) (vf (az c Qf r.1 (bL Ls m k) e).1 e):Nat):=λe he=>by
  have p:=h.st.gd.pos he;have s:=h.st.sm e he;exact(j5 p.1 ⋯).1
 have pr:aw (k+1) (λj=>II (r.2++[aW r.2 k (az c Qf r.1 (bL Ls m k) n).2 k]) j j)*aw n (aZ (vf Qf) (DD (cF c Qf r.1 (bL Ls m k) n)))=aw n (vf Qf):=by
  rw[aw,show II (r.2++[aW r.2 k (az c Qf r.1 (bL Ls m k) n).2 k]) k=vf (aW r.2 k (az c Qf r.1 (bL Ls m k) n).2 k) by rw[<- il];exact j4];rw[eZ (g:=λj=>II r.2 j j) λj hj=>by rw[iy ⋯],<- h.pr,jk];rw[eZ (g:=λd=>((Vv (aZ (vf Qf) (DD r.1) d) (vf (az c Qf r.1 (bL Ls m k) d).1 d):Nat):Int)) λd hd=>T.step h.st.gd hd];rw[nz (f:=aZ (vf Qf) (DD r.1)) (g:=λd=>((Vv (aZ (vf Qf) (DD r.1) d) (vf (az c Qf r.1 (bL Ls m k) d).1 d):Nat):Int)) (h:=λe=>aZ (vf Qf) (DD r.1) e/(Vv (aZ (vf Qf) (DD r.1) e) (vf (az c Qf r.1 (bL Ls m k) e).1 e):Nat)) λd hd=>(Int.mul_ediv_cancel' (XY ..)).symm]
  grind
 have jpos:0<vf (aW r.2 k (az c Qf r.1 (bL Ls m k) n).2 k) k:=by rw[jk];exact cY pos
 have St':=h.st.next L cb hn;have jle:vf (aW r.2 k (az c Qf r.1 (bL Ls m k) n).2 k) k<2^60:=by
  have b:aw n (vf Qf)<=360^n:=wF λi hi=>⟨h.st.gd.sp i hi,h.st.sm i hi⟩
  have b2:(360:Int)^n<=360^6:=N3 hn;have b3:(360:Int)^6<2^60:=by decide
  rw[aw,show II (r.2++[aW r.2 k (az c Qf r.1 (bL Ls m k) n).2 k]) k=vf (aW r.2 k (az c Qf r.1 (bL Ls m k) n).2 k) by rw[<- il];exact j4] at pr;have p1:0<aw k (λj=>II (r.2++[aW r.2 k (az c Qf r.1 (bL Ls m k) n).2 k]) j j):=cY λj hj=>by rw[iy ⋯];exact h.tD.pos j hj
  have p2:0<aw n (aZ (vf Qf) (DD (cF c Qf r.1 (bL Ls m k) n))):=cY λd hd=>(St'.gd.pos hd).1;generalize aw k (λj=>II (r.2++[aW r.2 k (az c Qf r.1 (bL Ls m k) n).2 k]) j j)=a at *;generalize aw n (aZ (vf Qf) (DD (cF c Qf r.1 (bL Ls m k) n)))=b' at *;generalize vf (aW r.2 k (az c Qf r.1 (bL Ls m k) n).2 k) k=x at *;have e1:1*x<=a*x:=Wg ⋯ ⋯;have e2:a*x*1<=a*x*b':=U7 ⋯ ⋯;lia
 refine⟨St',⟨by simp[il],λj hj=>?_,λj hj=>?_,λj hj=>?_,λj hj l h1 h2=>?_,λj hj l hl=>?_,λj hj=>?_⟩,pr,λj hj P hz hP=>?_⟩
 all_goals
  rcases VH j k with q|q
 .rw[EE ⋯];exact h.tD.l2 j q
 .obtain rfl:j=r.2.length:=by lia
  rw[DH];exact span_len h.tD ll.2 k (UZ _)
 .rw[iy ⋯];exact h.tD.pos j q
 .obtain rfl:j=r.2.length:=by lia
  rwa[j4,il]
 .rw[iy ⋯];exact h.tD.le j q
 .obtain rfl:j=r.2.length:=by lia
  rwa[j4,il]
 .rw[iy ⋯];exact h.tD.zero j q l h1 h2
 .obtain rfl:j=r.2.length:=by lia
  rw[j4,out l ⋯ h2];exact zf.1 l ⋯ h2
 .rw[iy ⋯,iy ⋯];exact h.tD.nf j q l hl
 .obtain rfl:j=r.2.length:=by lia
  rw[j4,iy ⋯];exact yC h.tD ll.2 ⋯ k (UZ _) l ⋯ ⋯
 .rw[iy ⋯];exact h.tD.tD j q
 .obtain rfl:j=r.2.length:=by lia
  rw[j4];refine wM h.tD ll.2 (λi hi=>?_) k (UZ _);have:=led i hi;rwa[show vf (az c Qf r.1 (bL Ls m k) n).1 i=0 from l0 i hi] at this
 .rw[iy ⋯];exact h.ord j q P hz hP
 .obtain rfl:j=k:=by lia
  rw[show II (r.2++[aW r.2 j (az c Qf r.1 (bL Ls m j) n).2 j]) j=vf (aW r.2 j (az c Qf r.1 (bL Ls m j) n).2 j) by rw[<- il];exact j4,jk];have:=T.order h.st.gd n 0 (P j) ⋯ ?_
  .rwa [aw,acG] at this
  .refine h.st.gd.l9 ⋯ (λi hi=>?_) (G.mul (-1) ⋯ (G.sum (A:=AA Ls) (P:=P) h.st.gd j h.st.cl));have e:=hP i hi;rw[o7 hk λl h1 h2=>by rw[hz l ⋯ h2,Y6]] at e;obtain⟨x,hx⟩:=e;have hx:(0:Int)-(eW j (λl=>P l*AA Ls l i)+P j*AA Ls j i)=vf Qf i*x:=hx;show vf Qf i∣P j*AA Ls j i - -1*eW j λl=>P l*AA Ls l i;exact⟨-x,by rw[abq];lia⟩
theorem EH.start(hs:Qf.length=n)(hp:∀i,i<n->0<vf Qf i/\vf Qf i<=360):EH n m Qf Ls 0 (UY n (UY n 0,UY m 0),[]):=by
 have rw0:∀d,d<n->row (UY n (UY n 0,UY m 0)) d=(UY n 0,UY m 0):=λd hd=>by
  rw[ij (by simpa using hd)];simp
 have D0:∀d,d<n->∀i,DD (UY n (UY n 0,UY m 0)) d i=0:=λd hd i=>by
  unfold DD;rw[rw0 d hd];exact mR n i
 have P0:∀d,d<n->∀i,PP (UY n (UY n 0,UY m 0)) d i=0:=λd hd i=>by
  unfold PP;rw[rw0 d hd];exact mR m i
 have st:∀d,d<n->aZ (vf Qf) (DD (UY n (UY n 0,UY m 0))) d=vf Qf d:=λd hd=>by
  unfold aZ;rw[if_pos (D0 d hd d)]
 refine⟨⟨⟨by simp,λr hr=>by rw[XN hr];simp,λr hr=>by rw[XN hr];simp⟩,hs,λi hi=>(hp i hi).2,⟨λi hi=>(hp i hi).1,λd hd i hi=>?_,λd hd i hi=>D0 d hd i,λd hd=>by rw[st d hd];exact aaW _,λd k hn=>?_⟩,λd hd i hi=>?_,λd hd l _ _=>P0 d hd l,λd hd=>?_,λl hl=>by lia⟩,⟨rfl,λj hj=>by lia,λj hj=>by lia,λj hj=>by lia,λj hj=>by lia,λj hj=>by lia,λj hj=>by lia⟩,?_,λj hj=>by lia⟩
 .rw[D0 d hd i];have:=(hp i hi).1;lia
 .exact G.ext ⋯ (λi hi=>by rw[D0 d ⋯ i,Xk]) (G.zero ⋯)
 .rw[D0 d hd i,iI (g:=λ_=>0) λl hl=>by rw[P0 d hd l,Y6],gH];exact WE _
 .rw[rw0 d hd];intro x hx;rw[XN hx];exact WV _
 .rw[aw,Yk];exact eZ λd hd=>st d hd
theorem EH.all(hs:Qf.length=n)(hp:∀i,i<n->0<vf Qf i/\vf Qf i<=360)(LL:MO n m Qf Ls)(cb:CB c)(hn:n<=6):∀k,k<=m->EH n m Qf Ls k (RK c Qf Ls n m k)
 | 0,_=>EH.start hs hp
 |k+1,hk=>(EH.all hs hp LL cb hn k ⋯).next LL cb hn ⋯
end
theorem ko{a:Int}(h:b∣a)(h1:-b<a)(h2:a<b):a=0:=by
 obtain⟨c,rfl⟩:=h;rcases aci c 0 with q|q|q
 .have:b*c<=b*(-1):=U7 ⋯ ⋯;lia
 .rw[q,Xk]
 .have:b*1<=b*c:=U7 ⋯ ⋯;lia
theorem G.diff(Gd:Good n s D):∀k d (v:dE),d+k=n->(∀i,i<n->-(s i)<v i/\v i<s i)->(∀i,d<=i->i<n->-(aZ s D i)<v i/\v i<aZ s D i)->G n s D k d v->∀i,i<n->v i=0
 | 0,d,v,hn,h0,_,g,i,hi=>ko (g i hi) (h0 i hi).1 (h0 i hi).2
 | k+1,d,v,hn,h0,h1,g,i,hi=>by
  have z:=ko g.1 (h1 d (UZ _) ⋯).1 (h1 d (UZ _) ⋯).2;refine G.diff Gd k (d+1) v ⋯ h0 (λi hi=>h1 i ⋯) (G.ext ⋯ (λi _=>?_) g.2) i hi;show v i-v d/aZ s D d*D d i=v i;rw[z];simp
variable{Q:Int}
section
variable{D:Nat->dE}{w v u:dE}
def mG(s:dE)(D:Nat->dE)(d:Nat):Int:=s d/aZ s D d
end
end Rg
namespace wV
open PySem L2 PyProof.Rows Rg
local macro_rules|`(tactic| dsimp? [$ts,*])=>do
 let l<-("cI bB aH gU ak vU v9 retS ba lW l4 mM ar M.aO M.bind_some M.bind_none M.DB M.bind_assoc ae ai ah aa aj Fc Fl Kd Il K2 IY JB IE KA Lb J4 JG KP Lh Ku Lf fL om IL LH Lr G4 PD AN k8 MQ lH G5 itemsOf jR G_ Fh zR Gy Gb Dv Dh Ez GZ He DM vI Bw f_ cC M3 JQ List.length_cons List.length_nil List.map_cons List.map_nil List.cons_append List.nil_append List.replicate List.getElem?_cons_zero List.getElem?_cons_succ List.getElem?_nil List.set_cons_zero List.set_cons_succ List.set_nil Nat.reduceAdd Nat.reduceSub if_true if_false Bool.not_true Bool.not_false Bool.false_eq_true ite_true ite_false reduceIte reduceCtorEq Nat.sub_self lB b_ cm Option.map_some Option.map_none Ei JR I_ GG Gi Fp K3 Gg FP EZ oo List.any_cons List.any_nil String.reduceBEq Bool.or_false Bool.or_true Bool.true_or Bool.false_or Bool.and_true Bool.and_false Bool.true_and Bool.false_and F8 FE Ll IV E3 GF Fe FO Cg Dp gT m_ List.foldl_cons List.foldl_nil nX".splitOn " ").toArray.mapM fun n=>`(Lean.Parser.Tactic.simpLemma|$(Lean.mkIdent n.toName):term)
 `(tactic| simp only[$(⟨(Lean.Syntax.TSepArray.ofElems (sep:=",") l).elemsAndSeps⟩),*,aq trivial,$(⟨ts.elemsAndSeps⟩),*])
def kK(i:Int):dQ [.int i]=M.ok (.bl true):=by rfl
def Bh(b:Bool):dQ [.bl b]=M.ok (.bl false):=by rfl
variable{p:PV}{α:Type}
def ua{inj:α->PV}{h:α->Bool}(xs:List α)(n:Int)(hp:p=.tup (xs.map inj)\/p=.lst (xs.map inj))(H:∀a∈xs,dQ [inj a]=M.ok (.bl (h a)))(hz:xs.length<=sizeLine):fN [p,.int n]=M.ok (.bl (decide ((xs.length:Int)=n)&&xs.all h)):=by
 have key:bC (bA 0) none (ah dQ (aa (ae 0) aj)) (xs.map inj) [none]=M.ok (xs.map λa=>.bl (h a)):=eM xs λa ha=>by dsimp? [H a ha]
 have key2:vq [.lst (xs.map λa=>.bl (h a))]=M.ok (.bl (xs.all h)):=by
  have:=vB (xs.map h);rw[VB] at this;rw[show (λa=>PV.bl (h a))=PV.bl∘h from rfl,this];simp[List.all_map]
 unfold fN jZ;rcases hp with rfl|rfl
 all_goals
  dsimp? [U0]
  by_cases e:(xs.length:Int)=n
  .simp only[e,decide_true,Bool.not_true,M.aO,V5,if_false,vU,abE];dsimp? [U0,aq hz,key,key2]
  .simp only[e,decide_false,Bool.not_false,M.aO,if_true,v9,ZZ];dsimp? []
def DE(xs:List Int)(n:Int)(hz:xs.length<=sizeLine):fN [tI xs,.int n]=M.ok (.bl (decide ((xs.length:Int)=n))):=by
 exact(ua (p:=tI xs) (h:=λ_=>true) xs n (.inl rfl) (λa _=>kK a) hz).trans (by rw[Wd.mpr λ_ _=>rfl,abF])
def Ks(xs:List Int)(n:Int)(hz:xs.length<=sizeLine):fN [lI xs,.int n]=M.ok (.bl (decide ((xs.length:Int)=n))):=by
 exact(ua (p:=lI xs) (h:=λ_=>true) xs n (.inr rfl) (λa _=>kK a) hz).trans (by rw[Wd.mpr λ_ _=>rfl,abF])
def LU{f:List Int->PV}(hf:f=tI\/f=lI)(xs:List Int)(n:Int)(hz:xs.length<=sizeLine):fN [f xs,.int n]=M.ok (.bl (decide ((xs.length:Int)=n))):=by
 rcases hf with rfl|rfl
 .exact DE xs n hz
 .exact Ks xs n hz
def Nc{f:List Int->PV}(hf:f=tI\/f=lI)(xs:List Int):bY (f xs)=some (xs.map PV.int):=by rcases hf with rfl|rfl<;>rfl
def within_int(x a b:Int):fV [.int x,.int a,.int b]=M.ok (.bl (decide (a<=x/\x<=b))):=by
 unfold fV fM;dsimp? [kK]
 by_cases h:a<=x
 .simp only[h,decide_true,if_true,true_and];dsimp? []
 .simp only[h,decide_false,false_and];dsimp? []
def iP{xs:List PV}(h:bY p=some xs):tZ p=M.ok (.int xs.length):=by
 cases p<;>first|(cases h;rfl)|cases h
theorem rR(xs:List Int)(hp:bY p=some (xs.map PV.int))(h1:1<=xs.length)(h6:xs.length<=6)(hx:∀x∈xs,2<=x/\x<=360):gm [p]=M.ok .c8:=by
 unfold gm gj;have a1:¬ (6:Int)<xs.length:=by lia
 have a2:¬ (xs.length:Int)=0:=by lia
 dsimp? [a1,a2,decide_false,iP hp,U0,uV xs hp];refine dY xs.zipIdx (λzs env=>(∃b c,env=[some (.sh p),b,c])/\∀z∈zs,2<=z.1/\z.1<=360) ⟨⟨_,_,rfl⟩,λz hz=>hx z.1 (Yl hz)⟩ ?_ ?_
 .rintro⟨a,i⟩ r env ⟨⟨b,c,rfl⟩,hz⟩;have ha:=hz (a,i) VA;refine⟨_,[some (.sh p),some (.sh (.int i)),some (.sh (.int a))],rfl,?_,⟨_,_,rfl⟩,λz TZ=>hz z (Vm _ TZ)⟩;dsimp? [within_int,ha,and_self,decide_true]
 .rintro Qj ⟨⟨b,c,rfl⟩,_⟩;rfl
theorem qZ{f:List Int->PV}(hf:f=tI\/f=lI)(n:Nat)(xs:List (List Int))(h8:xs.length<=8)(hx:∀x∈xs,x.length=n)(hn:n<=100):fD [.lst (xs.map f),.int n]=M.ok .c8:=by
 unfold fD fg;have a1:¬ (8:Int)<xs.length:=by lia
 dsimp? [a1,decide_false,U0,oR];refine dY xs.zipIdx (λzs env=>(∃b c,env=[some (.sh (.lst (xs.map f))),some (.sh (.int n)),b,c])/\∀z∈zs,z.1.length=n) ⟨⟨_,_,rfl⟩,λz hz=>hx z.1 (Yl hz)⟩ ?_ ?_
 .rintro⟨a,i⟩ r env ⟨⟨b,c,rfl⟩,hz⟩;have ha:a.length=n:=hz (a,i) VA;refine⟨_,[some (.sh (.lst (xs.map f))),some (.sh (.int n)),some (.sh (.int i)),some (.sh (f a))],rfl,?_,⟨_,_,rfl⟩,λz TZ=>hz z (Vm _ TZ)⟩;dsimp? [LU hf a n (aX ⋯),ha,decide_true]
 .rintro Qj ⟨⟨b,c,rfl⟩,_⟩;rfl
def A0(n:Nat)(p:PV):(UY n [p]).flatten=UY n p:=by
 induction n with
 | zero=>rfl
 |succ n ih=>rw[Wk,WQ,ih];rfl
theorem mul_one(p:PV)(n:Nat)(h8:n<=1000):cA (.tup [p]) (.int (n:Int))=M.ok (.tup (UY n p)):=by
 have h2:[p].length*(n:Int).toNat<=sizeLine:=by
  rw[VE];exact aX (by show 1*n<=1000;lia)
 have h3:(n:Int)<2^63:=Int.lt_of_le_of_lt (Int.ofNat_le.mpr h8) ↑12;have h4:-(2^63)<=(n:Int):=ZU ↑12 (Int.natCast_nonneg n);rw[cA,aq ⟨rfl,h4,h3,h2⟩,VE,A0]
theorem kC(xs:List PV)(h8:xs.length<=8):gi [.lst xs,.c8]=M.ok (tI (UY xs.length 1)):=by
 unfold gi gE;dsimp? [Ct,yu,mul_one (.int 1) xs.length ⋯];rw[tI,X7]
def vk(xs Qf:List Int):List Int:=(xs.zip Qf).map λz=>z.1%z.2
def qL(p q:PV)(xs Qf:List Int)(hp:bY p=some (xs.map PV.int))(hq:bY q=some (Qf.map PV.int))(hs:∀s∈Qf,0<s)(hz:xs.length<=1000):jf [p,q]=M.ok (tI (vk xs Qf)):=by
 have key:bC (dj 0 1) none (ai cD (ae 0) (ae 1)) ((xs.zip Qf).map λz=>.tup [.int z.1,.int z.2]) [none,none]=M.ok ((xs.zip Qf).map λz=>.int (z.1%z.2)):=by
  refine jQ (p:=λz:Int×Int=>PV.int z.1) (q:=λz:Int×Int=>PV.int z.2) (xs.zip Qf) λz hz=>?_;have:=hs z.2 (WU (a:=z.1) (b:=z.2) hz).2;dsimp? [aA this]
 unfold jf ki;have hl:(xs.zip Qf).length<=sizeLine:=by rw[WG];exact aX (VM (ZG _ _) hz)
 dsimp? [jM xs Qf hp hq,U0,aq hl,key];rw[tI,vk,VB];rfl
def xt(a b c:PV):aJ (.tup [a,b,c]) (.int 0)=M.ok a:=bu (j:=0) rfl rfl
def KQ(a b c:PV):aJ (.tup [a,b,c]) (.int 1)=M.ok b:=bu (j:=1) rfl rfl
def JE(a b c:PV):aJ (.tup [a,b,c]) (.int 2)=M.ok c:=bu (j:=2) rfl rfl
theorem tJ(a b:Int)(ha:a.natAbs<2^60)(hb:b.natAbs<2^60):∃s t,fX [.int a,.int b]=M.ok (.tup [.int (Vv a b),.int s,.int t])/\s*a+t*b=Vv a b/\s.natAbs<=b.natAbs+1/\t.natAbs<=a.natAbs+(b.natAbs+1)*a.natAbs+b.natAbs+1:=by
 let J:af->Prop:=λenv=>∃r s t r' s' t' x y,env=[some (.sh (.int a)),some (.sh (.int b)),some (.sh ((PV.tup [PV.int r,PV.int s,PV.int t]))),some (.sh ((PV.tup [PV.int r',PV.int s',PV.int t']))),x,y]/\Eu.St a b r s t r' s' t'
 let m:af->Nat:=λenv=>match env with
  | [_,_,_,some (.sh (.tup [.int r,_,_])),_,_]=>r.natAbs
  | _=>0
 have hk:(b.natAbs+1)*a.natAbs<=2^60*2^60:=Ym ⋯ ⋯;have hk2:(2:Nat)^60*2^60=2^120:=by decide
 have start:J [some (.sh (.int a)),some (.sh (.int b)),some (.sh ((PV.tup [PV.int a,PV.int 1,PV.int 0]))),some (.sh ((PV.tup [PV.int b,PV.int 0,PV.int 1]))),none,none]:=⟨_,_,_,_,_,_,_,_,rfl,Eu.start a b⟩
 have loop:=mO (u:=fL (ai vg (ai aJ (ae 3) (λ_=>M.ok (.int 0))) (λ_=>M.ok (.int 0)))) (b:=(ak (ba 4 (ai cG (ai aJ (ae 2) (λ_=>M.ok (.int 0))) (ai aJ (ae 3) (λ_=>M.ok (.int 0)))))
  (ak (ba 5 (kN (aa (ai i8 (ai aJ (ae 2) (λ_=>M.ok (.int 0))) (ai cA (ae 4) (ai aJ (ae 3) (λ_=>M.ok (.int 0))))) (aa (ai i8 (ai aJ (ae 2) (λ_=>M.ok (.int 1))) (ai cA (ae 4) (ai aJ (ae 3) (λ_=>M.ok (.int 1))))) (aa (ai i8 (ai aJ (ae 2) (λ_=>M.ok (.int 2))) (ai cA (ae 4) (ai aJ (ae 3) (λ_=>M.ok (.int 2))))) aj)))))
  (ak (ba 2 (ae 3))
  (ak (ba 3 (ae 5))
  ar))))) J m ?_ _ start
 .obtain⟨Qj,e1,⟨r,s,t,r',s',t',x,y,rfl,st⟩,e2⟩:=loop;have hr':r'=0:=by
   revert e2;dsimp? [xt];intro e2;have:(!decide (r'=0))=false:=by injection e2 with e2;injection e2
   simpa using this
  subst hr';obtain⟨d1,d2⟩:=Eu.done st;have hg:(r.natAbs:Int)=Vv a b:=by
   have h1:r.natAbs∣Vv a b:=Int.dvd_gcd (Int.natAbs_dvd.mpr d1) (Int.natAbs_dvd.mpr d2);have h2:((Vv a b:Nat):Int)∣r:=by
    rw[st.c0];exact Zw (WA (XY ..) (W3 _ _)) (WA (ach ..) (W3 _ _))
   have h3:Vv a b∣r.natAbs:=Int.ofNat_dvd_left.mp h2;rw[Nat.dvd_antisymm h1 h3]
  unfold fX jU;dsimp? [];rw[e1];dsimp? [xt,KQ,JE]
  by_cases hneg:r<0
  .refine⟨-s,-t,?_,?_,by rw[aab];exact st.b0,by rw[aab];exact st.d0⟩
   .simp only[hneg,decide_true,if_true];dsimp? [];rw[show -r=(Vv a b:Int) by lia]
   .have:=st.c0;rw[acJ,acJ];lia
  .refine⟨s,t,?_,?_,st.b0,st.d0⟩
   .simp only[hneg,decide_false,V5,if_false];dsimp? [];rw[show r=(Vv a b:Int) by lia]
   .have:=st.c0;lia
 .rintro env ⟨r,s,t,r',s',t',x,y,rfl,st⟩
  by_cases h0:r'=0
  .refine .inl ?_;dsimp? [xt];simp[h0]
  .refine .inr ⟨?_,?_⟩
   .dsimp? [xt];simp[h0]
   .obtain⟨Qz,lt⟩:=Eu.turn st h0;have b1:=st.m1;have b0:=st.m0;have c1:=st.b1;have c2:=st.d1;have c3:=Qz.m1;have q1:(r.fdiv r').natAbs<=r.natAbs+1:=by
     obtain⟨f1,f2,f3⟩:=Eu.sJ r r' h0;generalize r.fdiv r'=q at *;have e:q*r'=r-(r-q*r'):=by lia
     have e2:(q*r').natAbs<=r.natAbs+(r-q*r').natAbs:=by lia
     rw[Xa] at e2;have:q.natAbs*1<=q.natAbs*r'.natAbs:=XR _ ⋯;rcases VH (r.natAbs+1) q.natAbs with h|h
     .have h5:(r.natAbs+2)*r'.natAbs<=q.natAbs*r'.natAbs:=Xb _ ⋯;have h6:r.natAbs*1<=r.natAbs*r'.natAbs:=XR _ ⋯;rw[Nat.add_mul] at h5;lia
     .exact h
    have q2:(r.fdiv r').natAbs<2^200:=by lia
    refine⟨[some (.sh (.int a)),some (.sh (.int b)),some (.sh ((PV.tup [PV.int r',PV.int s',PV.int t']))),some (.sh ((PV.tup [PV.int (r-r.fdiv r'*r'),PV.int (s-r.fdiv r'*s'),PV.int (t-r.fdiv r'*t')]))),some (.sh (.int (r.fdiv r'))),some (.sh ((PV.tup [PV.int (r-r.fdiv r'*r'),PV.int (s-r.fdiv r'*s'),PV.int (t-r.fdiv r'*t')])))],?_,⟨_,_,_,_,_,_,_,_,rfl,Qz⟩,lt⟩;dsimp? [xt,KQ,JE,sO h0 (U8 (show r'.natAbs<2^200 by lia) (WL ↑12 ↑12)),bI (k:=200) (l:=200) q2 (show r'.natAbs<2^200 by lia),bI (k:=200) (l:=200) q2 (show s'.natAbs<2^200 by lia),bI (k:=200) (l:=200) q2 (show t'.natAbs<2^200 by lia)]
def R(Qf:List Int):Int:=(Lc.MN (Qf.map Int.toNat):Nat)
structure Sz (Qf:List Int):Prop where
 h1:1<=Qf.length
 h6:Qf.length<=6
 hx:∀x∈Qf,2<=x/\x<=360
structure Acc (Qf r:List Int) (acc:Nat):Prop where
 pos:0<acc
 le:acc<=2^(9*(6-r.length))
 len:r.length<=6
 val:(r.map Int.toNat).foldl aaX acc=Lc.MN (Qf.map Int.toNat)
 kU:∀x∈r,2<=x/\x<=360
variable{Qf:List Int}
def Acc.start(h:Sz Qf):Acc Qf Qf 1:=⟨by decide,Nat.one_le_two_pow,h.h6,rfl,h.hx⟩
variable{acc:Nat}
theorem Acc.lt{r:List Int}(h:Acc Qf r acc):acc<2^60:=by
 have h2:(2:Nat)^(9*(6-r.length))<=2^54:=WL ↑12 ⋯;have:=h.le;lia
variable{x:Int}
theorem Acc.turn{r:List Int}(h:Acc Qf (x::r) acc):Acc Qf r (aaX acc x.toNat)/\(acc:Int)/(Vv acc x:Nat)*x=(aaX acc x.toNat:Nat)/\(acc:Int)/(Vv acc x:Nat)<=acc/\0<Vv acc x:=by
 have hx:=h.kU x VA;have hp:=h.pos;obtain⟨n,rfl⟩:=Wh (show 0<=x by lia);have hg:Vv (acc:Int) (n:Int)=Nat.gcd acc n:=rfl;refine⟨⟨Nat.lcm_pos hp ⋯,?_,?_,h.val,λy hy=>h.kU y (Vm _ hy)⟩,?_,?_,?_⟩
 .have h1:aaX acc n<=acc*n:=Nat.le_of_dvd (Nat.mul_pos hp ⋯) (Nat.lcm_dvd (Nat.dvd_mul_right ..) (Nat.dvd_mul_left ..));have h2:acc*n<=2^(9*(6-(r.length+1)))*2^9:=Ym h.le ⋯;have hl:r.length+1<=6:=h.len;rw[<- acK,show 9*(6-(r.length+1))+9=9*(6-r.length) by lia] at h2;exact VM h1 h2
 .have hl:r.length+1<=6:=h.len;lia
 .rw[hg,VE,<- Lc.CV];norm_cast
 .rw[hg];exact Int.ofNat_le.mpr (Nat.div_le_self acc (Nat.gcd acc n))
 .rw[hg];exact Nat.gcd_pos_of_pos_left _ hp
theorem ig(Qf:List Int)(hp:bY p=some (Qf.map PV.int))(h:Sz Qf):fx [p]=M.ok (.int (R Qf)):=by
 unfold fx fK;dsimp? [hp];refine dY Qf (λr env=>∃acc x,env=[some (.sh p),some (.sh (.int (acc:Nat))),x]/\Acc Qf r acc) ⟨1,_,rfl,.start h⟩ ?_ ?_
 .rintro a r env ⟨acc,x,rfl,A⟩;obtain⟨A2,e1,e2,e3⟩:=A.turn;have l1:=A.lt;have ha:=A.kU a VA;obtain⟨s,t,ec,_,_,_⟩:=tJ (acc:Int) a ⋯ ⋯;have g1:Vv acc a<=acc:=Nat.le_of_dvd A.pos (Int.ofNat_dvd.mp (XY ..));have d0:0<=(acc:Int)/(Vv acc a:Nat):=WW ⋯ ⋯;refine⟨_,[some (.sh p),some (.sh (.int (aaX acc a.toNat:Nat))),some (.sh (.int a))],rfl,?_,_,_,rfl,A2⟩;dsimp? [ec,xt,bo (i:=(acc:Int)) (show (0:Int)<(Vv acc a:Nat) by lia) (show ((Vv acc a:Nat):Int)<2^64 by lia),bI (k:=64) (l:=64) (show ((acc:Int)/(Vv acc a:Nat)).natAbs<2^64 by lia) (show a.natAbs<2^64 by lia),e1]
 .rintro Qj ⟨acc,x,rfl,A⟩;dsimp? [];have:=A.val;rw[R,<- this];rfl
noncomputable def vh(Qf:List Int)(levers:List (List Int)):List (Str×PV):=[("dial_sizes",tI Qf),("lever_settings",.tup (levers.map tI)),("lever_prices",tI (UY levers.length 1)),("least_round",.int (R Qf))]
def dS(Qf:List Int)(levers:List (List Int)):PV:=.obj aE (vh Qf levers)
structure MX (Qf xs:List Int):Prop where
 len:xs.length=Qf.length
 kU:∀z∈xs.zip Qf,0<=z.1/\z.1<z.2
theorem wt(f:Str)(p:PV):∀fs:List (Str×PV),(uC f p fs).length<=fs.length+1
 | []=>by simp[uC]
 | (g,q)::r=>by
  have:=wt f p r;unfold uC
  split
  .simp
  .simp;lia
variable{n:Nat}
theorem jt{f:Str}{fs:List (Str×PV)}(h:fs.length<=n):(uC f p fs).length<=n+1:=VM (wt f p fs) ⋯
def jh(a C:Addr)(f:Str)(p:PV)(fs:List (Str×PV))(r:af)(h:fs.length<1000):Dq 0 C f p (some (.bd a C fs)::r)=M.ok (.nx (some (.bd a C (uC f p fs))::r)):=by
 show cQ _ _=_;rw[aq ⟨rfl,h⟩];rfl
theorem F9{f:List Int->PV}(hf:f=tI\/f=lI)(Qf:List Int)(levers:List (List Int))(hp:bY p=some (Qf.map PV.int))(h:Sz Qf)(h8:levers.length<=8)(hl:∀l∈levers,l.length=Qf.length):jB aE fy [.c8] [p,.lst (levers.map f)]=M.ok (dS Qf (levers.map λl=>vk l Qf)):=by
 have key:∀a,fy a ([p,.lst (levers.map f)]++[.c8])=M.ok (vh Qf (levers.map λl=>vk l Qf)):=by
  intro a;have e1:bC (bA 0) none (ah jf (aa (ae 0) (aa (ae 1) aj))) (levers.map f) [none,some (.sh p)]=M.ok (levers.map λl=>tI (vk l Qf)):=by
   refine eM levers λl hm=>?_;have hs:=hl l hm;have:=qL (f l) p l Qf (Nc hf l) hp (λs hs=>by have:=h.hx s hs;lia) (by rw[hs];have:=h.h6;lia);dsimp? [this]
  unfold fy jb;simp only[t9];rw[aq (show ([p,PV.lst (levers.map f)]++[PV.c8]).length+1=4 from rfl)];simp only[Au,zT];dsimp? [hp,iP hp,rR Qf hp h.h1 h.h6 h.hx,qZ hf Qf.length levers h8 hl (by have:=h.h6;lia),lF,hp,iP hp,U0,aq (aX (show levers.length<=1000 by lia)),e1,kC _ (show (levers.map f).length<=8 by rwa[U0]),ig Qf hp h];rw[jh _ _ _ _ _ _ ↑13];dsimp? [lF,hp,iP hp,U0,aq (aX (show levers.length<=1000 by lia)),e1,kC _ (show (levers.map f).length<=8 by rwa[U0]),ig Qf hp h];rw[jh _ _ _ _ _ _ (V9 (jt (Va 0)) ↑12)];dsimp? [lF,hp,iP hp,U0,aq (aX (show levers.length<=1000 by lia)),e1,kC _ (show (levers.map f).length<=8 by rwa[U0]),ig Qf hp h];rw[jh _ _ _ _ _ _ (V9 (jt (jt (Va 0))) ↑12)];dsimp? [lF,hp,iP hp,U0,aq (aX (show levers.length<=1000 by lia)),e1,kC _ (show (levers.map f).length<=8 by rwa[U0]),ig Qf hp h];rw[jh _ _ _ _ _ _ (V9 (jt (jt (jt (Va 0)))) ↑12)];dsimp? [];show cQ _ _=_;rw[aq ⟨rfl,rfl⟩];rw[vh,VB,U0];rfl
 unfold jB;rw[B6 key];rfl
def CO(Qf:List Int)(levers:List (List Int)):(vh Qf levers).lookup (VF "dial_sizes")=some (tI Qf):=rfl
def AH(Qf:List Int)(levers:List (List Int)):(vh Qf levers).lookup (VF "lever_settings")=some (.tup (levers.map tI)):=rfl
def Nj(Qf:List Int)(levers:List (List Int)):(vh Qf levers).lookup (VF "sizes")=none:=rfl
def Np(Qf:List Int)(levers:List (List Int)):(vh Qf levers).lookup (VF "levers")=none:=rfl
def wj(Qf:List Int)(levers:List (List Int)):bj [dS Qf levers]=M.ok (tI Qf):=by
 unfold bj bD;dsimp? [iA,dS,beq_self_eq_true,CO]
def zM(Qf:List Int)(levers:List (List Int)):bZ [dS Qf levers]=M.ok (.tup (levers.map tI)):=by
 unfold bZ cN;dsimp? [iA,dS,beq_self_eq_true,AH]
variable{levers:List (List Int)}
def oW{g:af->M PV}{env:af}(h:g env=M.ok (dS Qf levers)):cM aE "sizes" bj g aj env=M.ok (tI Qf):=by
 have:=wj Qf levers;rw[cM,h,M.aO];show cQ _ (M.bind (aj env) _)=_;rw[aq ⟨rfl,Nj Qf levers⟩];exact this
def pf{g:af->M PV}{env:af}(h:g env=M.ok (dS Qf levers)):cM aE "levers" bZ g aj env=M.ok (.tup (levers.map tI)):=by
 have:=zM Qf levers;rw[cM,h,M.aO];show cQ _ (M.bind (aj env) _)=_;rw[aq ⟨rfl,Np Qf levers⟩];exact this
noncomputable def rD(Qf xs:List Int):Bool:=decide ((xs.length:Int)=Qf.length)&&(xs.zip Qf).all λz=>decide (0<=z.1/\z.1<z.2)
variable{xs:List Int}
theorem Ha:rD Qf xs=true ↔ MX Qf xs:=by
 unfold rD;constructor
 .intro h;simp only[VR,decide_eq_true_eq,Wd] at h;exact⟨by lia,h.2⟩
 .intro h;simp only[VR,decide_eq_true_eq,Wd];exact⟨by rw[h.len],h.kU⟩
def Dy(x s:Int):∀env:af,env=[some (.sh (.int x)),some (.sh (.int s))]->lH Fm FW (λ_=>M.ok (.int 0)) (ae 0) (ae 1) env=M.ok (.bl (decide (0<=x/\x<s))):=by
 rintro env rfl;dsimp? []
 by_cases h:0<=x
 .simp only[h,decide_true,if_true,true_and]
  try dsimp? []
 .simp only[h,decide_false,false_and]
  try dsimp? []
def IM(h:α->Bool)(xs:List α):vq [.lst (xs.map λa=>.bl (h a))]=M.ok (.bl (xs.all h)):=by
 have:=vB (xs.map h);rw[VB] at this;rw[show (λa=>PV.bl (h a))=PV.bl∘h from rfl,this];simp[List.all_map]
def qm(h:Sz Qf)(xs:List Int)(hz:xs.length<=1000):aS [dS Qf levers,tI xs]=M.ok (.bl (rD Qf xs)):=by
 have key:bC (dj 0 1) none (lH Fm FW (λ_=>M.ok (.int 0)) (ae 0) (ae 1)) ((xs.zip Qf).map λz=>.tup [.int z.1,.int z.2]) [none,none]=M.ok ((xs.zip Qf).map λz=>.bl (decide (0<=z.1/\z.1<z.2))) :=
  jQ (p:=λz:Int×Int=>PV.int z.1) (q:=λz:Int×Int=>PV.int z.2) (xs.zip Qf) λz hz=>Dy z.1 z.2 _ rfl
 have hl:(xs.zip Qf).length<=sizeLine:=by rw[WG];exact aX (VM (ZG _ _) hz)
 unfold aS cy;dsimp? [oW (Qf:=Qf) (levers:=levers) (g:=ae 0) (env:=[some (.sh (dS Qf levers)),some (.sh (tI xs)),none]) rfl,DE xs Qf.length (aX hz)];unfold rD
 by_cases e:(xs.length:Int)=Qf.length
 .simp only[e,decide_true,Bool.not_true,V5,if_false,abE];dsimp? [jM (p:=tI xs) (q:=tI Qf) xs Qf rfl rfl,U0,aq hl,key,IM]
 .simp only[e,decide_false,Bool.not_false,if_true,ZZ];dsimp? []
theorem uj(h:Sz Qf)(hs:MX Qf xs):cj [dS Qf levers,tI xs]=M.ok .c8:=by
 unfold cj cK;dsimp? [qm (levers:=levers) h xs (by rw[hs.len];have:=h.h6;lia),Ha.mpr hs]
variable{ys:List Int}
def yp{z:Int×Int}(h:z∈xs.zip ys):z.1∈xs/\z.2∈ys:=WU (a:=z.1) (b:=z.2) h
def uo(xs Qf:List Int):vk xs Qf=Ac xs Qf:=rfl
def cf(a b:Int):Int×Int:=open Classical in if h:∃p:Int×Int,fX [.int a,.int b]=M.ok (.tup [.int (Vv a b),.int p.1,.int p.2])/\p.1*a+p.2*b=Vv a b/\p.1.natAbs<=b.natAbs+1/\p.2.natAbs<=a.natAbs+(b.natAbs+1)*a.natAbs+b.natAbs+1 then h.choose else (0,0)
def HC(a b:Int)(ha:a.natAbs<2^60)(hb:b.natAbs<2^60):fX [.int a,.int b]=M.ok (.tup [.int (Vv a b),.int (cf a b).1,.int (cf a b).2])/\(cf a b).1*a+(cf a b).2*b=Vv a b/\(cf a b).1.natAbs<=b.natAbs+1/\(cf a b).2.natAbs<=a.natAbs+(b.natAbs+1)*a.natAbs+b.natAbs+1:=by
 have h:∃p:Int×Int,fX [.int a,.int b]=M.ok (.tup [.int (Vv a b),.int p.1,.int p.2])/\p.1*a+p.2*b=Vv a b/\p.1.natAbs<=b.natAbs+1/\p.2.natAbs<=a.natAbs+(b.natAbs+1)*a.natAbs+b.natAbs+1:=by
  obtain⟨s,t,h⟩:=tJ a b ha hb;exact⟨(s,t),h⟩
 unfold cf;rw[dif_pos h];exact h.choose_spec
theorem C9:CB cf:=λa b h1 h2 h3 h4=>by
 obtain⟨_,e,b1,b2⟩:=HC a b ⋯ ⋯;refine⟨e,by lia,?_⟩;have:(b.natAbs+1)*a.natAbs<=361*360:=Ym ⋯ ⋯;lia
noncomputable def mk(r:Row):PV:=.tup [tI r.1,tI r.2]
def vG(r:Row):aJ (mk r) (.int 0)=M.ok (tI r.1):=bu (p:=mk r) (j:=0) rfl rfl
def HF(r:Row):aJ (mk r) (.int 1)=M.ok (tI r.2):=bu (p:=mk r) (j:=1) rfl rfl
variable{i:Nat}
def lA(h:i<xs.length):aJ (tI xs) (.int (i:Int))=M.ok (.int (vf xs i)) :=
 bu (p:=tI xs) rfl (by rw[Vu,UW h,bh h];rfl)
variable{d:Nat}{rows:List Row}
def vC(h:d<rows.length):aJ (.lst (rows.map mk)) (.int (d:Int))=M.ok (mk (row rows d)) :=
 bu (p:=.lst (rows.map mk)) rfl (by rw[Vu,UW h,ij h];rfl)
def pJ{A B:Nat}(p q:PV)(xs ys:List Int)(a b:Int)(hp:bY p=some (xs.map PV.int))(hq:bY q=some (ys.map PV.int))(hx:Bd B xs)(hy:Bd B ys)(ha:a.natAbs<2^A)(hb:b.natAbs<2^A)(hB:B<=9000)(hA:A<=9000)(hz:xs.length<=1000):kL [p,.int a,q,.int b]=M.ok (tI (n9 xs a ys b)):=by
 have key:bC (dj 0 1) none (ai bU (ai cA (ae 2) (ae 0)) (ai cA (ae 3) (ae 1))) ((xs.zip ys).map λz=>.tup [.int z.1,.int z.2]) [none,none,some (.sh (.int a)),some (.sh (.int b))]=M.ok ((xs.zip ys).map λz=>.int (a*z.1+b*z.2)):=by
  refine jQ (p:=λz:Int×Int=>PV.int z.1) (q:=λz:Int×Int=>PV.int z.2) (xs.zip ys) λz hz=>?_;have m:=WU (a:=z.1) (b:=z.2) hz;dsimp? [bI (k:=A) (l:=B) ha (hx _ m.1) hA hB,bI (k:=A) (l:=B) hb (hy _ m.2) hA hB]
 have hl:(xs.zip ys).length<=sizeLine:=by rw[WG];exact aX (VM (ZG _ _) hz)
 unfold kL mD;dsimp? [jM xs ys hp hq,U0,aq hl,key];rw[tI,n9,VB];rfl
variable{r:Row}
theorem w9{A B:Nat}{q:Row}{a b:Int}(hs:∀s∈Qf,0<s)(h1:Bd B r.1)(h2:Bd B r.2)(h3:Bd B q.1)(h4:Bd B q.2)(ha:a.natAbs<2^A)(hb:b.natAbs<2^A)(hB:B<=9000)(hA:A<=9000)(z1:r.1.length<=100)(z2:r.2.length<=100):dG [tI Qf,mk r,.int a,mk q,.int b]=M.ok (mk (rm Qf r a q b)):=by
 unfold dG eS;dsimp? [vG,HF,pJ (tI r.1) (tI q.1) r.1 q.1 a b rfl rfl h1 h3 ha hb hB hA ⋯,pJ (tI r.2) (tI q.2) r.2 q.2 a b rfl rfl h2 h4 ha hb hB hA ⋯,qL (tI (n9 r.1 a q.1 b)) (tI Qf) (n9 r.1 a q.1 b) Qf rfl rfl hs (by rw[bP];lia)];rfl
variable{m:Nat}
theorem u5(w:Wf n m rows)(hs:Qf.length=n)(hd:d<n):dD [tI Qf,.lst (rows.map mk),.int (d:Int)]=M.ok (.int (aZ (vf Qf) (DD rows) d)):=by
 unfold dD dX;have e1:=w.oH hd;dsimp? [vC (rows:=rows) (d:=d) (by rwa[w.len]),vG,lA (xs:=(row rows d).1) (i:=d) ⋯];unfold aZ
 by_cases z:DD rows d d=0
 .have z':vf (row rows d).1 d=0:=z;simp only[z',z,decide_true,if_true];dsimp? [lA (xs:=Qf) (i:=d) ⋯]
 .have z':¬ vf (row rows d).1 d=0:=z;simp only[z',z,decide_false,V5,if_false];dsimp? [];rfl
def drop_cons{xs:List α}{a:α}{r:List α}(h:xs.drop d=a::r):d<xs.length/\xs[d]?=some a/\xs.drop (d+1)=r:=by
 have hd:d<xs.length:=by
  rcases VH d xs.length with q|q
  .exact q
  .rw[X5 q] at h;cases h
 rw[WX hd] at h;injection h with h1 h2
 exact⟨hd,by rw[UW hd,h1],h2⟩
def d_(env:af):fU aj env=M.ok []:=by
 simp only[fU,aj,M.aO];exact if_pos (Va _)
def yB{f:af->M PV}{env:af}{xs:List PV}(h:env[i]?=some (some (.ow xs)))(hf:f env=M.ok p)(hz:xs.length<1000):j6 i f env=M.ok (.nx (env.set i (some (.ow (xs++[p]))))):=by
 unfold j6;rw[h];show M.bind (f env) _=_;rw[hf,M.aO,if_pos (kG (Xg hz))]
theorem uW(hl:xs.length=n)(h:∀i,i<n->0<=vf xs i/\vf xs i<vf Qf i)(hs:∀i,i<n->vf Qf i<=360):Bd 9 xs:=λx hx=>by
 obtain⟨i,hi,rfl⟩:=Vn.mp hx;have h1:=h i ⋯;have h2:=hs i ⋯;rw[bh hi] at h1;lia
theorem Cn{a b:Int}(h1:-1000<=a)(h2:a<=1000)(h3:-1000<=b)(h4:b<=1000):wo [.int a,.int b]=M.ok ((Vc (b-a).toNat).map λ(i:Nat)=>.int (a+(i:Int))):=by
 have h:-(2^62)<=a/\a<2^62/\-(2^62)<=b/\b<2^62:=by lia
 show cQ (-(2^62)<=a/\a<2^62/\-(2^62)<=b/\b<2^62) _=_;rw[aq h]
variable{k:Nat}
section
variable{A:Nat->dE}{left:Row}
def St.C8(h:St n m Qf A k rows)(hd:d<n):Bd 9 (row rows d).1:=uW (h.wf.oH hd) (λi hi=>h.gd.kU d hd i hi) h.sm
def Et(h:St n m Qf A k rows):∀s∈Qf,0<s:=λs hs=>by
 obtain⟨i,hi,rfl⟩:=Vn.mp hs;have:=h.gd.sp i (by rwa[<- h.hs])
 rwa [bh hi] at this
theorem By(h:St n m Qf A k rows)(L:Lv n m Qf A k left)(hn:n<=6)(hm:m<=8):jv [tI Qf,.lst (rows.map mk),mk left]=M.ok (.tup [.lst ((cF cf Qf rows left n).map mk),tI (az cf Qf rows left n).2]):=by
 have rl:=h.wf.len;have hkm:=L.km;unfold jv iW;dsimp? [d_,oR];refine dY rows.zipIdx (λzs env=>∃d x4 x5 x6 x7 x8,d<=n/\rows.zipIdx.drop d=zs/\env=[some (.sh (tI Qf)),some (.sh (.lst (rows.map mk))),some (.sh (mk (az cf Qf rows left d))),some (.ow ((cF cf Qf rows left d).map mk)),x4,x5,x6,x7,x8]) ⟨0,none,none,none,none,none,Va _,rfl,rfl⟩ ?_ ?_
 .rintro⟨a,i⟩ zs env ⟨d,x4,x5,x6,x7,x8,hd,Sd,rfl⟩;obtain⟨h1,h2,h3⟩:=drop_cons Sd;rw[W4,rl] at h1;have h4:a=row rows d/\i=d:=by
   rw[List.getElem?_zipIdx] at h2;rw[ij (by rwa[rl])];rw[UW (by rwa[rl])] at h2;simp at h2;exact⟨h2.1.symm,h2.2.symm⟩
  obtain⟨rfl,rfl⟩:=h4;have ll:=cV (c:=cf) h.wf h.hs L.l1 L.l2 i ⋯;have lk:=kf (c:=cf) h L i ⋯;have lb:=oO (c:=cf) h L hn i ⋯;have st:=h.gd.pos h1;have sm:=h.sm i h1;have nt:=lk i h1;have e1:=h.wf.oH h1;have e2:=h.wf.at2 h1;generalize QO:aZ (vf Qf) (DD rows) i=Qn at *;generalize hnt:vf (az cf Qf rows left i).1 i=nt' at *;obtain⟨c1,c2,c3,c4⟩:=HC Qn nt' ⋯ ⋯;have cb:=C9 Qn nt' st.1 ⋯ nt.1 ⋯;have gp:=gx (b:=nt') st.1;have gl:(Vv Qn nt':Int)<=Qn:=Int.le_of_dvd st.1 (XY ..);have a1:=j5 (b:=nt') st.1 ⋯;have a2:=lU (b:=nt') st.1 nt.1 ⋯;have B1:Bd 1300 (row rows i).1:=(St.C8 h h1).mono ⋯;have B2:Bd 1300 (row rows i).2:=(h.bd i h1).mono ⋯;have B3:Bd 1300 (az cf Qf rows left i).1:=(uW ll.1 lk h.sm).mono ⋯;have B4:Bd 1300 (az cf Qf rows left i).2:=lb.mono ⋯;have w1:=w9 (A:=20) (Qf:=Qf) (Et h) B1 B2 B3 B4 cb.2.1 cb.2.2 ↑12 ↑12 ⋯ ⋯;have w2:=w9 (A:=20) (Qf:=Qf) (a:=Qn/(Vv Qn nt':Nat)) (b:=-(nt'/(Vv Qn nt':Nat))) (Et h) B3 B4 B1 B2 ⋯ ⋯ ↑12 ↑12 ⋯ ⋯;have ew:dN cf Qf rows left i=rm Qf (row rows i) (cf Qn nt').1 (az cf Qf rows left i) (cf Qn nt').2:=by
   simp only[dN,QO,hnt]
  have el:az cf Qf rows left (i+1)=rm Qf (az cf Qf rows left i) (Qn/(Vv Qn nt':Nat)) (row rows i) (-(nt'/(Vv Qn nt':Nat))):=by
   simp only[az,QO,hnt]
  refine⟨_,[some (.sh (tI Qf)),some (.sh (.lst (rows.map mk))),some (.sh (mk (az cf Qf rows left (i+1)))),some (.ow ((cF cf Qf rows left (i+1)).map mk)),some (.sh (.int i)),some (.sh (mk (row rows i))),some (.sh (.int Qn)),some (.sh (.int nt')),some (.sh (.tup [.int (Vv Qn nt'),.int (cf Qn nt').1,.int (cf Qn nt').2]))],rfl,?_,i+1,_,_,_,_,_,by lia,h3,rfl⟩;have sok:=u5 h.wf h.hs h1;rw[QO] at sok;have nok:=lA (xs:=(az cf Qf rows left i).1) (i:=i) ⋯;rw[hnt] at nok;dsimp? [sok,vG,nok,c1];rw[yB (i:=3) rfl (p:=mk (dN cf Qf rows left i)) (by dsimp? [KQ,JE,w1,ew]) (by simp[cF];lia)];dsimp? [xt,bo (i:=Qn) gp ⋯,bo (i:=nt') gp ⋯,w2,el];rw[cF,cF,YG,WH,WH];rfl
 .rintro env ⟨d,x4,x5,x6,x7,x8,hd,Sd,rfl⟩;have Tz:d=n:=by
   have:=congrArg WJ Sd;rw[V2,W4,rl] at this;simp at this;lia
  subst Tz;dsimp? [HF]
noncomputable def bH(Qf:List Int)(rows:List Row)(r:Row)(f:Nat):Nat->Row
 | 0=>r
 | c+1 =>
  let l:=bH Qf rows r f c
  rm Qf l 1 (row rows (f+c)) (-(vf l.1 (f+c)/aZ (vf Qf) (DD rows) (f+c)))
theorem jn(h:St n m Qf A k rows){r:Row}{f:Nat}(h1:r.1.length=n)(h2:r.2.length=m):∀c,f+c<=n->(bH Qf rows r f c).1.length=n/\(bH Qf rows r f c).2.length=m
 | 0,_=>⟨h1,h2⟩
 | c+1,hc=>by
  obtain⟨i1,i2⟩:=jn h (f:=f) h1 h2 c ⋯;have e1:=h.wf.oH (d:=f+c) ⋯;have e2:=h.wf.at2 (d:=f+c) ⋯;have hs:=h.hs;simp only[bH,rm];rw[iF,bP,bP];exact⟨by lia,by lia⟩
theorem p9(h:St n m Qf A k rows){f:Nat}(h1:r.1.length=n)(h2:r.2.length=m)(h0:∀i,i<n->0<=vf r.1 i/\vf r.1 i<vf Qf i):Dn n (vf Qf) (DD rows) f (λd=>vf (bH Qf rows r f (d-f)).1) where
 w0:=λi hi=>by rw[acj];exact h0 i hi
 ws:=λd hf hd i hi=>by
  obtain⟨c,rfl⟩:∃c,d=f+c:=⟨d-f,by lia⟩
  obtain⟨i1,i2⟩:=jn h (f:=f) h1 h2 c ⋯;have e1:=h.wf.oH (d:=f+c) ⋯;have hs:=h.hs;show vf (bH Qf rows r f (f+c+1-f)).1 i=_;rw[show f+c+1-f=c+1 by lia,show f+c-f=c by lia];simp only[bH,rm];rw[jw (by rw[bP];lia) ⋯,e7 ⋯ ⋯];rfl
theorem zh(h:St n m Qf A k rows){r:Row}{f:Nat}(h1:r.1.length=n)(h2:r.2.length=m){P₀:dE}{B:dE}(hl:Led n (vf Qf) m A (λi=>vf r.1 i-B i) (λl=>vf r.2 l-P₀ l)):∀c,f+c<=n->Led n (vf Qf) m A (λi=>vf (bH Qf rows r f c).1 i-B i) (λl=>vf (bH Qf rows r f c).2 l-P₀ l)
 | 0,_=>hl
 | c+1,hc=>by
  obtain⟨i1,i2⟩:=jn h (f:=f) h1 h2 c ⋯;have e1:=h.wf.oH (d:=f+c) ⋯;have e2:=h.wf.at2 (d:=f+c) ⋯;have hs:=h.hs;refine Led.mix (a:=1) (b:=-(vf (bH Qf rows r f c).1 (f+c)/aZ (vf Qf) (DD rows) (f+c))) (zh h (f:=f) h1 h2 hl c ⋯) (h.led (f+c) ⋯) (λi hi=>?_) λl hl=>?_
  .simp only[bH,rm];rw[jw (by rw[bP];lia) ⋯,e7 ⋯ ⋯];obtain⟨z,hz⟩:=gP (1*vf (bH Qf rows r f c).1 i+-(vf (bH Qf rows r f c).1 (f+c)/aZ (vf Qf) (DD rows) (f+c))*vf (row rows (f+c)).1 i) (vf Qf i);refine⟨z,?_⟩;rw[<- hz];unfold DD
   grind
  .simp only[bH,rm];rw[e7 ⋯ ⋯];unfold PP
   grind
theorem ye(h:St n m Qf A k rows){r:Row}{f B:Nat}(h1:r.1.length=n)(h2:r.2.length=m)(h0:∀i,i<n->0<=vf r.1 i/\vf r.1 i<vf Qf i)(hB:150*k+1<=B)(hb:Bd B r.2):∀c,f+c<=n->Bd (B+11*c) (bH Qf rows r f c).2
 | 0,_=>hb
 | c+1,hc=>by
  have k0:=(p9 h (f:=f) h1 h2 h0).kept h.gd (f+c) ⋯ ⋯ (f+c) ⋯;rw[show f+c-f=c by lia] at k0;have sm:=h.sm (f+c) ⋯;have p:=h.gd.pos (d:=f+c) ⋯;have q:=Ys (aZ (vf Qf) (DD rows) (f+c)) k0.1;have q0:=WW k0.1 (X6 p.1);have:=Bd.mix (A:=10) (ye h (f:=f) h1 h2 h0 hB hb c ⋯) ((h.bd (f+c) ⋯).mono (show 150*k+1<=B+11*c by lia)) (a:=1) (b:=-(vf (bH Qf rows r f c).1 (f+c)/aZ (vf Qf) (DD rows) (f+c))) ↑12 ⋯;exact this.mono ⋯
theorem qt(h:St n m Qf A k rows){f B:Nat}(hn:n<=6)(hm:m<=8)(h1:r.1.length=n)(h2:r.2.length=m)(h0:∀i,i<n->0<=vf r.1 i/\vf r.1 i<vf Qf i)(hB:150*k+1<=B)(hB2:B<=8000)(hb:Bd B r.2)(hf:f<=n):fc [tI Qf,.lst (rows.map mk),mk r,.int (f:Int)]=M.ok (mk (bH Qf rows r f (n-f))):=by
 have hs:=h.hs;have rl:=h.wf.len;unfold fc iK;have kU:wo [.int (f:Int),.int (Qf.length:Int)]=M.ok ((Vc (n-f)).map λ(i:Nat)=>.int ((f+i:Nat):Int)):=by
  rw[Cn ⋯ ⋯ ⋯ ⋯,hs,show ((n:Int)-(f:Int)).toNat=n-f by lia];simp
 dsimp? [kU];refine dY (Vc (n-f)) (λzs env=>∃c x4 x5,c<=n-f/\(Vc (n-f)).drop c=zs/\env=[some (.sh (tI Qf)),some (.sh (.lst (rows.map mk))),some (.sh (mk (bH Qf rows r f c))),some (.sh (.int (f:Int))),x4,x5]) ⟨0,none,none,Va _,rfl,rfl⟩ ?_ ?_
 .rintro i zs env ⟨c,x4,x5,hc,Sd,rfl⟩;obtain⟨c1,c2,c3⟩:=drop_cons Sd;rw[VJ] at c1;obtain rfl:i=c:=by
   rw[WT c1] at c2;exact(Vf c2).symm
  have TB:f+i<n:=by lia
  have ll:=jn h (f:=f) h1 h2 i ⋯;have lk:=(p9 h (f:=f) h1 h2 h0).kept h.gd (f+i) ⋯ ⋯;rw[show f+i-f=i by lia] at lk;have k0:=lk (f+i) TB;have sm:=h.sm (f+i) TB;have p:=h.gd.pos TB;have e1:=h.wf.oH TB;have e2:=h.wf.at2 TB;have B1:Bd 8200 (row rows (f+i)).1:=(St.C8 h TB).mono ⋯;have B2:Bd 8200 (row rows (f+i)).2:=(h.bd _ TB).mono ⋯;have B3:Bd 8200 (bH Qf rows r f i).1:=(uW ll.1 lk h.sm).mono ⋯;have B4:Bd 8200 (bH Qf rows r f i).2:=(ye h (f:=f) h1 h2 h0 hB hb i ⋯).mono ⋯;have q:=Ys (aZ (vf Qf) (DD rows) (f+i)) k0.1;have q0:=WW k0.1 (X6 p.1);have w:=w9 (A:=20) (Qf:=Qf) (a:=1) (b:=-(vf (bH Qf rows r f i).1 (f+i)/aZ (vf Qf) (DD rows) (f+i))) (Et h) B3 B4 B1 B2 ↑12 ⋯ ↑12 ↑12 ⋯ ⋯;refine⟨_,[some (.sh (tI Qf)),some (.sh (.lst (rows.map mk))),some (.sh (mk (bH Qf rows r f (i+1)))),some (.sh (.int (f:Int))),some (.sh (.int ((f+i:Nat):Int))),some (.sh (.int (vf (bH Qf rows r f i).1 (f+i)/aZ (vf Qf) (DD rows) (f+i))))],rfl,?_,i+1,_,_,by lia,c3,rfl⟩;dsimp? [vG,lA (xs:=(bH Qf rows r f i).1) (i:=f+i) ⋯,u5 h.wf h.hs TB,bo (i:=vf (bH Qf rows r f i).1 (f+i)) p.1 ⋯,vC (rows:=rows) (d:=f+i) ⋯,w];rfl
 .rintro env ⟨c,x4,x5,hc,Sd,rfl⟩;have:c=n-f:=by
   have:=congrArg WJ Sd;rw[V2,VJ] at this;simp at this;lia
  subst this;dsimp? []
end
theorem FL(m k:Nat)(hm:m<=1000):jx [.int (m:Int),.int (k:Int)]=M.ok (tI (nM m k)):=by
 have key:bC (bA 0) none (AN (fL (ai uN (ae 0) (ae 1))) (λ_=>M.ok (.int 1)) (λ_=>M.ok (.int 0))) ((Vc m).map λ(i:Nat)=>.int (i:Int)) [none,some (.sh (.int (k:Int)))]=M.ok ((Vc m).map λ(i:Nat)=>.int (if i=k then 1 else 0)):=by
  refine eM (inj:=λ(i:Nat)=>PV.int (i:Int)) (Vc m) λi hi=>?_;dsimp? []
  by_cases z:i=k
  .subst z;simp only[decide_true,if_true]
  .have z':¬ (i:Int)=(k:Int):=by lia
   simp only[z,z',decide_false,V5,if_false]
 unfold jx iQ;dsimp? [dz (n:=(m:Int)) ⋯ ⋯,VE,U0,VJ,aq (aX hm),key];rw[tI,nM,VB];rfl
theorem sA{n:Int}(h:0<=n):Vs (n-1) (-1) (-1)=n:=by
 unfold Vs;rw[if_neg ↑12]
 split
 .rw[show -(-1:Int)=1 from rfl,Int.ediv_one];lia
 .lia
theorem Fx{n:Int}(h:0<=n)(h2:n<=1000):C3 (n-1) (-1) (-1)=true:=by
 unfold C3 ZM;have f:∀x:Int,-(2^40)<x->x<2^40->ZV x=true:=λx h1 h2=>by
  unfold ZV;simp only[VR,decide_eq_true_eq];lia
 simp only[sA h,f (n-1) ⋯ ⋯,f (-1) ↑12 ↑12,f n ⋯ ⋯,f (n-1+n*-1) ⋯ ⋯,abF,abE,Bool.and_self,VR,decide_eq_true_eq];refine⟨by decide,?_⟩;rw[if_neg ↑12,f (-1+(-1+1)) ↑12 ↑12,Bool.or_true]
theorem Be(k:Nat)(hk:k<=1000):Dz [.int ((k:Int)-1),.int (-1),.int (-1)]=M.ok ((Vc k).map λ(i:Nat)=>.int ((k:Int)-1+(i:Int)*-1)):=by
 show cQ (C3 ((k:Int)-1) (-1) (-1)=true) _=_;rw[aq (Fx ⋯ ⋯),sA ⋯,VE]
variable{Qh:List (List Int)}
def Gn{j:Nat}(h:j<Qh.length):aJ (.lst (Qh.map tI)) (.int (j:Int))=M.ok (tI (Qh.getD j [])) :=
 bu (p:=.lst (Qh.map tI)) rfl (by rw[Vu,UW h,Ve,UW h];rfl)
theorem A3{B:Nat}{s:dE}{A:Nat->dE}{P:List Int}(h:AV n m s A k Qh)(hP:P.length=m)(hm:m<=8)(hk:k<=m)(hB:60<=B)(hB2:B<=8000)(hb:Bd B P):iY [tI P,.lst (Qh.map tI)]=M.ok (tI (aW Qh k P k)):=by
 have il:=h.len;unfold iY jg;dsimp? [U0,il,Be k ⋯];refine dY (Vc k) (λzs env=>∃c x2 x3,c<=k/\(Vc k).drop c=zs/\env=[some (.sh (tI (aW Qh k P c))),some (.sh (.lst (Qh.map tI))),x2,x3]) ⟨0,none,none,Va _,rfl,rfl⟩ ?_ ?_
 .rintro i zs env ⟨c,x2,x3,hc,Sd,rfl⟩;obtain⟨c1,c2,c3⟩:=drop_cons Sd;rw[VJ] at c1;obtain rfl:i=c:=by
   rw[WT c1] at c2;exact(Vf c2).symm
  have hj:k-1-i<k:=by lia
  have ej:(k:Int)-1+(i:Int)*-1=((k-1-i:Nat):Int):=by lia
  have sl:=span_len h hP i ⋯;have rl:=h.l2 (k-1-i) hj;have p:=h.pos (k-1-i) hj;have pl60:=h.le (k-1-i) hj;have zb:=yA h hP hk hB hb i ⋯;have B1:Bd 8600 (aW Qh k P i):=zb.mono ⋯;have B2:Bd 8600 (Qh.getD (k-1-i) []):=(h.bd hj hk).mono ⋯;have q:(-(vf (aW Qh k P i) (k-1-i)/vf (Qh.getD (k-1-i) []) (k-1-i))).natAbs<2^8600:=by
   rw[aab];exact V9 (aag ..) (B1.vf _)
  have w:=pJ (A:=8600) (tI (aW Qh k P i)) (tI (Qh.getD (k-1-i) [])) (aW Qh k P i) (Qh.getD (k-1-i) []) 1 (-(vf (aW Qh k P i) (k-1-i)/vf (Qh.getD (k-1-i) []) (k-1-i))) rfl rfl B1 B2 (Nat.one_lt_two_pow ↑12) q ↑12 ↑12 ⋯;refine⟨_,[some (.sh (tI (aW Qh k P (i+1)))),some (.sh (.lst (Qh.map tI))),some (.sh (.int ((k-1-i:Nat):Int))),some (.sh (tI (Qh.getD (k-1-i) [])))],rfl,?_,i+1,_,_,by lia,c3,rfl⟩;rw[ej];dsimp? [Gn (Qh:=Qh) (j:=k-1-i) ⋯,lA (xs:=aW Qh k P i) (i:=k-1-i) ⋯,lA (xs:=Qh.getD (k-1-i) []) (i:=k-1-i) ⋯,bo (i:=vf (aW Qh k P i) (k-1-i)) (j:=vf (Qh.getD (k-1-i) []) (k-1-i)) p (by show II Qh (k-1-i) (k-1-i)<2^64;lia),w];rfl
 .rintro env ⟨c,x2,x3,hc,Sd,rfl⟩;have:c=k:=by
   have:=congrArg WJ Sd;rw[V2,VJ] at this;simp at this;lia
  subst this;dsimp? []
variable{Ls:List (List Int)}
theorem AG(h:Qf.length<=6):jL [dS Qf Ls]=M.ok (tI (UY Qf.length 0)):=by
 unfold jL l7;dsimp? [oW (Qf:=Qf) (levers:=Ls) (g:=ae 0) (env:=[some (.sh (dS Qf Ls))]) rfl,mul_one (.int 0) Qf.length ⋯];rw[tI,X7]
theorem nF(hm:Ls.length<=8)(xs:List Int):eX [dS Qf Ls,tI xs]=M.ok (mk (xs,UY Ls.length 0)):=by
 unfold eX gK;dsimp? [pf (Qf:=Qf) (levers:=Ls) (g:=ae 0) (env:=[some (.sh (dS Qf Ls)),some (.sh (tI xs))]) rfl,U0,mul_one (.int 0) Ls.length ⋯];rw[mk,tI,tI,X7]
theorem E8(hm:Ls.length<=8)(hk:k<Ls.length):fG [dS Qf Ls,.int (k:Int)]=M.ok (mk (bL Ls Ls.length k)):=by
 have e:aJ (.tup (Ls.map tI)) (.int (k:Int))=M.ok (tI (Ls.getD k [])):=bu (p:=.tup (Ls.map tI)) rfl (by rw[Vu,UW hk,Ve,UW hk];rfl);unfold fG fu;dsimp? [pf (Qf:=Qf) (levers:=Ls) (g:=ae 0) (env:=[some (.sh (dS Qf Ls)),some (.sh (.int (k:Int))),none]) rfl,U0,e,FL Ls.length k ⋯];rfl
def BZ:∀xs:List Int,qC (tI xs)=true:=by
 intro xs;have:∀ys:List Int,nu (ys.map PV.int)=true:=by
  intro ys
  induction ys with
  | nil=>rfl
  | cons a r ih=>simp[nu,qC,ih]
 exact this xs
def LO(x y:PV):aJ (.tup [x,y]) (.int 0)=M.ok x:=bu (j:=0) rfl rfl
def Ma(x y:PV):aJ (.tup [x,y]) (.int 1)=M.ok y:=bu (j:=1) rfl rfl
def ny(Qf:List Int)(rows:List Row)(n:Nat):List Row:=(Vc n).map λd=>bH Qf rows (row rows d) (d+1) (n-(d+1))
noncomputable def x_(V:PV)(rows:List Row)(Qh:List (List Int)):List (Str×PV):=[("vault",V),("made_rows",.lst (rows.map mk)),("idle_rows",.lst (Qh.map tI))]
theorem Dw(hn1:1<=Qf.length)(hn:Qf.length<=6)(hm:Ls.length<=8)(hp:∀i,i<Qf.length->0<vf Qf i/\vf Qf i<=360)(LL:MO Qf.length Ls.length Qf Ls):jB aB gX [] [dS Qf Ls]=M.ok (.obj aB (x_ (dS Qf Ls) (ny Qf (RK cf Qf Ls Qf.length Ls.length Ls.length).1 Qf.length) (RK cf Qf Ls Qf.length Ls.length Ls.length).2)):=by
 have all:=λk hk=>EH.all (c:=cf) rfl hp LL C9 hn k hk;have key:∀a,gX a ([dS Qf Ls]++[])=M.ok (x_ (dS Qf Ls) (ny Qf (RK cf Qf Ls Qf.length Ls.length Ls.length).1 Qf.length) (RK cf Qf Ls Qf.length Ls.length Ls.length).2):=by
  intro a;have e1:bC (bA 0) none (ah eX (aa (ae 1) (aa (ah jL (aa (ae 1) aj)) aj))) (Qf.map PV.int) [none,some (.sh (dS Qf Ls))]=M.ok ((UY Qf.length ((UY Qf.length (0:Int)),(UY Ls.length (0:Int)))).map mk):=by
   rw[eM (h:=λ_=>mk (UY Qf.length 0,UY Ls.length 0)) Qf λx _=>by dsimp? [AG (Ls:=Ls) hn,nF (Qf:=Qf) hm (UY Qf.length 0)]];congr 1;rw[acU,X7]
  have e2:bC (dj 0 1) none (ah fc (aa (ae 2) (aa (ae 3) (aa (ae 1) (aa (ai bU (ae 0) (λ_=>M.ok (.int 1))) aj))))) ((RK cf Qf Ls Qf.length Ls.length Ls.length).1.zipIdx.map λz=>.tup [.int (z.2:Int),mk z.1]) [none,none,some (.sh (tI Qf)),some (.sh (.lst ((RK cf Qf Ls Qf.length Ls.length Ls.length).1.map mk)))]=M.ok ((ny Qf (RK cf Qf Ls Qf.length Ls.length Ls.length).1 Qf.length).map mk):=by
   have I:=all Ls.length (UZ _);generalize RK cf Qf Ls Qf.length Ls.length Ls.length=rk at *;have rl:=I.st.wf.len;rw[jQ (p:=λz:Row×Nat=>PV.int (z.2:Int)) (q:=λz:Row×Nat=>mk z.1) (h:=λz:Row×Nat=>mk (bH Qf rk.1 z.1 (z.2+1) (Qf.length-(z.2+1)))) rk.1.zipIdx λz hz=>?_]
   .congr 1;rw[ny,VB];refine acD (by simp[rl]) λi h1 h2=>?_;have hi:i<rk.1.length:=by simpa using h1
    simp[ij hi]
   .obtain⟨i,hi,e⟩:=Vn.mp hz;rw[W4] at hi;rw[ZN] at e;have ez:z=(row rk.1 i,i):=by rw[<- e,ij hi];simp
    subst ez;have Uw:i<Qf.length:=by lia
    have:=qt (f:=i+1) (B:=150*Ls.length+1) I.st hn hm (I.st.wf.oH Uw) (I.st.wf.at2 Uw) (λj hj=>I.st.gd.kU i Uw j hj) (UZ _) ⋯ (I.st.bd i Uw) ⋯;rw[show ((i+1:Nat):Int)=(i:Int)+1 by lia] at this;dsimp? [this]
  have zl:Qf.length<=sizeLine:=aX ⋯;have I:=all Ls.length (UZ _);have rl:=I.st.wf.len;unfold gX i4;simp only[t9];rw[aq (show ([dS Qf Ls]++([]:List PV)).length+1=2 from rfl)];simp only[Au,zT];dsimp? [oW (Qf:=Qf) (levers:=Ls) (g:=ae 1) (env:=[some (.bd a aB []),some (.sh (dS Qf Ls)),none,none,none,none,none]) rfl,U0,aq zl,e1,d_,pf (Qf:=Qf) (levers:=Ls) (g:=ae 1) (env:=[some (.bd a aB []),some (.sh (dS Qf Ls)),some (.sh (tI Qf)),some (.sh (.lst ((UY Qf.length ((UY Qf.length (0:Int)),(UY Ls.length (0:Int)))).map mk))),some (.ow []),none,none]) rfl,dz (n:=(Ls.length:Int)) ⋯ ⋯,VE];refine dY (Vc Ls.length) (λzs env=>∃k x5 x6,k<=Ls.length/\(Vc Ls.length).drop k=zs/\env=[some (.bd a aB []),some (.sh (dS Qf Ls)),some (.sh (tI Qf)),some (.sh (.lst ((RK cf Qf Ls Qf.length Ls.length k).1.map mk))),some (.ow ((RK cf Qf Ls Qf.length Ls.length k).2.map tI)),x5,x6]) ⟨0,none,none,Va _,rfl,rfl⟩ ?_ ?_
  .rintro i zs env ⟨k,x5,x6,hk,Sd,rfl⟩;obtain⟨c1,c2,c3⟩:=drop_cons Sd;rw[VJ] at c1;obtain rfl:i=k:=by
    rw[WT c1] at c2;exact(Vf c2).symm
   have J:=all i hk;have L:Lv Qf.length Ls.length Qf (AA Ls) i (bL Ls Ls.length i):=⟨LL.at_ i c1,by simp[bL,nM],c1,λj hj=>rfl,LL.kU i c1,λl hl=>wq hl⟩
   have tk:=By J.st L hn hm;have ll:=cV (c:=cf) J.st.wf J.st.hs L.l1 L.l2 Qf.length (UZ _);have lb:=oO (c:=cf) J.st L hn Qf.length (UZ _);have sp:=A3 (B:=1400) J.tD ll.2 hm ⋯ ↑12 ↑12 (lb.mono ⋯);have il:=J.tD.len;refine⟨_,[some (.bd a aB []),some (.sh (dS Qf Ls)),some (.sh (tI Qf)),some (.sh (.lst ((RK cf Qf Ls Qf.length Ls.length (i+1)).1.map mk))),some (.ow ((RK cf Qf Ls Qf.length Ls.length (i+1)).2.map tI)),some (.sh (.int (i:Int))),some (.sh (.tup [.lst ((cF cf Qf (RK cf Qf Ls Qf.length Ls.length i).1 (bL Ls Ls.length i) Qf.length).map mk),tI (az cf Qf (RK cf Qf Ls Qf.length Ls.length i).1 (bL Ls Ls.length i) Qf.length).2]))],rfl,?_,i+1,_,_,by lia,c3,rfl⟩;dsimp? [E8 (Qf:=Qf) hm c1,tk,LO];rw[yB (i:=4) rfl (p:=tI (aW (RK cf Qf Ls Qf.length Ls.length i).2 i (az cf Qf (RK cf Qf Ls Qf.length Ls.length i).1 (bL Ls Ls.length i) Qf.length).2 i)) (by
    dsimp? [jX,ownAt,Ma,sp];exact aq (BZ _)) (by simp[il];lia)]
   dsimp? [RK,WH]
  .rintro env ⟨k,x5,x6,hk,Sd,rfl⟩;have:k=Ls.length:=by
    have:=congrArg WJ Sd;rw[V2,VJ] at this;simp at this;lia
   subst this;dsimp? [lF];rw[jh _ _ _ _ _ _ ↑13];dsimp? [lF,oR,U0,W4,rl,aq zl,e2];rw[jh _ _ _ _ _ _ (V9 (jt (Va 0)) ↑12)];dsimp? [lF];rw[jh _ _ _ _ _ _ (V9 (jt (jt (Va 0))) ↑12)];dsimp? [];show cQ _ _=_;rw[aq ⟨rfl,rfl⟩];rfl
 unfold jB;rw[B6 key];rfl
section
variable{A:Nat->dE}
def lN(h:d<n):row (ny Qf rows n) d=bH Qf rows (row rows d) (d+1) (n-(d+1)):=by
 rw[ij (by simp[ny,h])];simp[ny]
theorem Jo(h:St n m Qf A m rows)(hn:n<=6)(hA:∀i,A m i=0):St n m Qf A (m+1) (ny Qf rows n):=by
 have hl:∀d,d<n->(bH Qf rows (row rows d) (d+1) (n-(d+1))).1.length=n/\(bH Qf rows (row rows d) (d+1) (n-(d+1))).2.length=m:=λd hd=>jn h (h.wf.oH hd) (h.wf.at2 hd) _ ⋯;have lg:=v5 (D':=DD (ny Qf rows n)) h.gd (λd e=>vf (bH Qf rows (row rows d) (d+1) (e-(d+1))).1) (λd hd=>p9 h (h.wf.oH hd) (h.wf.at2 hd) λi hi=>h.gd.kU d hd i hi) (λd hd i hi=>by
  show vf (bH Qf rows (row rows d) (d+1) (d+1-(d+1))).1 i=_;rw[acj];rfl) λd hd i hi=>by
  unfold DD;rw[lN hd]
 refine⟨⟨by simp[ny],λr hr=>?_,λr hr=>?_⟩,h.hs,h.sm,lg.1,λd hd=>?_,λd hd l h1 h2=>by lia,λd hd=>?_,λl hl=>?_⟩
 .obtain⟨d,hd,rfl⟩:=VI.mp hr;exact(hl d (V3.mp hd)).1
 .obtain⟨d,hd,rfl⟩:=VI.mp hr;exact(hl d (V3.mp hd)).2
 .unfold DD PP;rw[lN hd];have:=zh h (f:=d+1) (h.wf.oH hd) (h.wf.at2 hd) (P₀:=λ_=>0) (B:=λ_=>0) (by
   have q:=h.led d hd;intro i hi;have:=q i hi;simp only[aaV];exact this) (n-(d+1)) ⋯
  intro i hi;have:=this i hi;simp only[aaV] at this;exact this
 .rw[lN hd];exact(ye h (f:=d+1) (h.wf.oH hd) (h.wf.at2 hd) (λi hi=>h.gd.kU d hd i hi) (UZ _) (h.bd d hd) (n-(d+1)) ⋯).mono ⋯
 .rcases VH l m with q|q
  .exact lg.2.2.2.2 n 0 ⋯ _ (h.cl l q)
  .obtain rfl:l=m:=by lia
   exact G.ext ⋯ (λi _=>(hA i).symm) (G.zero ⋯)
end
def uf(Qf:List Int)(Ls:List (List Int))(R:List Row)(Qh:List (List Int)):PV:=.obj aB (x_ (dS Qf Ls) R Qh)
section
variable{R:List Row}
def Nq:(x_ (dS Qf Ls) R Qh).lookup (VF "vault")=some (dS Qf Ls):=rfl
def MF:(x_ (dS Qf Ls) R Qh).lookup (VF "made_rows")=some (.lst (R.map mk)):=rfl
def Of:(x_ (dS Qf Ls) R Qh).lookup (VF "idle_rows")=some (.lst (Qh.map tI)):=rfl
def Pw{g:af->M PV}{env:af}(h:g env=M.ok (uf Qf Ls R Qh)):iA (λc=>c==aB) "vault" g env=M.ok (dS Qf Ls):=by
 rw[iA,h,M.aO];show cQ _ (fW (XF _ _))=_;rw[aq (beq_self_eq_true _),Nq];rfl
def P9{g:af->M PV}{env:af}(h:g env=M.ok (uf Qf Ls R Qh)):iA (λc=>c==aB) "made_rows" g env=M.ok (.lst (R.map mk)):=by
 rw[iA,h,M.aO];show cQ _ (fW (XF _ _))=_;rw[aq (beq_self_eq_true _),MF];rfl
theorem F1{A:Nat->dE}(S:Sz Qf)(hm:Ls.length<=8)(h:St Qf.length Ls.length Qf A k R)(hk:k<=9)(hx:MX Qf xs)(h0:∀i,i<Qf.length->0<=vf xs i/\vf xs i<vf Qf i):cv [uf Qf Ls R Qh,tI xs]=M.ok (mk (bH Qf R (xs,UY Ls.length 0) 0 Qf.length)):=by
 have lo:=qt (f:=0) (B:=150*k+1) (r:=(xs,UY Ls.length 0)) h S.h6 hm hx.len ↑13 h0 (UZ _) ⋯ (λx hx=>by rw[XN hx];exact WV _) (Va _);rw[Nat.sub_zero] at lo;unfold cv cx;dsimp? [Pw (Qf:=Qf) (Ls:=Ls) (R:=R) (Qh:=Qh) (g:=ae 0) (env:=[some (.sh (uf Qf Ls R Qh)),some (.sh (tI xs))]) rfl,P9 (Qf:=Qf) (Ls:=Ls) (R:=R) (Qh:=Qh) (g:=ae 0) (env:=[some (.sh (uf Qf Ls R Qh)),some (.sh (tI xs))]) rfl,uj (levers:=Ls) S hx,nF (Qf:=Qf) hm xs,oW (Qf:=Qf) (levers:=Ls) (g:=iA (λc=>c==aB) "vault" (ae 0)) (env:=[some (.sh (uf Qf Ls R Qh)),some (.sh (tI xs))]) (Pw (R:=R) (Qh:=Qh) rfl),show fc [tI Qf,.lst (R.map mk),mk (xs,UY Ls.length 0),.int 0]=_ from lo]
end
section
variable{R:List Row}
end
theorem pick(l:List Int)(c:Int)(n:Nat)(hn:l.length=n)(h0:0<n):∃x,x∈l/\aJ (.lst (l.map PV.int)) (.int (c%(n:Int)))=M.ok (.int x):=by
 have h1:0<=c%(n:Int):=Vk _ ⋯;have h2:c%(n:Int)<n:=Vd _ ⋯;obtain⟨j,hj⟩:=Wh h1;have hj':j<l.length:=by lia
 refine⟨l[j],VP _,?_⟩;rw[hj];exact bu (p:=.lst (l.map PV.int)) (j:=j) rfl (by rw[Vu,UW hj'];rfl)
def Dj(h:i<xs.length):aJ (lI xs) (.int (i:Int))=M.ok (.int (vf xs i)) :=
 bu (p:=lI xs) rfl (by rw[Vu,UW h,bh h];rfl)
variable{l:Nat}
def getD_at{β:Type}(f:α->β){xs:List α}{a:α}{b:β}(h:l<xs.length):(xs.map f).getD l b=f (xs.getD l a):=by
 rw[Ve,Ve,Vu,UW h];rfl
def getD_mem{xs:List α}{a:α}(h:l<xs.length):xs.getD l a∈xs:=by
 rw[Ve,UW h];exact VP h
variable{QA:List (List Int)}
theorem DG(S:Sz Qf)(hr:∀l∈QA,l.length=Qf.length/\Bd 200 l):MO Qf.length QA.length Qf (QA.map λl=>vk l Qf)/\∀l,l<QA.length->∀i,i<Qf.length->AA (QA.map λl=>vk l Qf) l i=vf (QA.getD l []) i%vf Qf i:=by
 have e:∀l,l<QA.length->∀i,i<Qf.length->AA (QA.map λl=>vk l Qf) l i=vf (QA.getD l []) i%vf Qf i:=λl hl i hi=>by
  unfold AA;rw[getD_at (a:=[]) _ hl,uo,jw (by rwa[(hr _ (getD_mem hl)).1]) hi]
 refine⟨⟨by simp,λl hl=>?_,λl hl i hi=>?_⟩,e⟩
 .rw[getD_at (a:=[]) _ hl,uo,iF,(hr _ (getD_mem hl)).1];lia
 .rw[e l hl i hi];have:=S.hx _ (VP hi);rw[<- bh hi] at this;exact⟨Vk _ ⋯,Vd _ ⋯⟩
theorem nJ(S:Sz Qf):∀i,i<Qf.length->0<vf Qf i/\vf Qf i<=360:=λi hi=>by
 have:=S.hx _ (VP hi);rw[<- bh hi] at this;lia
theorem Cq(h:xs.length=Qf.length)(h0:∀i,i<Qf.length->0<=vf xs i/\vf xs i<vf Qf i):MX Qf xs:=⟨h,λz hz=>by
 obtain⟨i,hi,rfl⟩:=Vn.mp hz;rw[WG] at hi;have:=h0 i ⋯;rw[bh ⋯,bh ⋯] at this;simpa using this⟩
noncomputable def yz(ns:List Int)(a b:Nat):List Int:=(ns.drop (HT.de ns.length 0 (some (a:Int)))).take (HT.de ns.length ns.length (some (b:Int))-HT.de ns.length 0 (some (a:Int)))
def F6(ns:List Int)(a b:Nat):Lu (.jN (ns.map PV.int)) (some (a:Int)) (some (b:Int))=M.ok (.lst ((yz ns a b).map PV.int)):=by
 show M.ok (PV.lst (oq (ns.map PV.int) _ _))=_;rw[oq,yz,List.map_take,List.map_drop,U0]
theorem Ap(xs:List Int)(h:xs.length<=100):bU (.lst (xs.map PV.int)) (.lst [.int 0])=M.ok (lI (xs++[0])):=by
 rw[bU,aq (aX (by simp;lia)),lI,WH];rfl
def xI{z:Int×Nat}(h:z∈xs.zipIdx):z.2<xs.length:=by
 obtain⟨i,hi,rfl⟩:=Vn.mp h;simp at hi ⊢;exact hi
def qp(xs:List Int):(xs.map λ_=>PV.int 0)=(UY xs.length 0).map PV.int:=by
 rw[X7];simp[acU]
def JT(Ls:List (List Int))(i:Nat):AA Ls Ls.length i=0:=by
 unfold AA;rw[Ve,Y_ (UZ _)];exact w6 (Va _)
section
variable{R:List Row}{A:Nat->dE}
def Az{m:Str}{sem:List PV->M PV}{x:M (List PV)}(h:(x_ (dS Qf Ls) R Qh).lookup m=none):yk aB m sem (uf Qf Ls R Qh) x=x.bind λps=>sem (uf Qf Ls R Qh::ps):=sk h
def PN:D6 (λc=>c==aB) "vault" (uf Qf Ls R Qh)=M.ok (dS Qf Ls):=qu (beq_self_eq_true _) Nq
def Po:D6 (λc=>c==aB) "made_rows" (uf Qf Ls R Qh)=M.ok (.lst (R.map mk)):=qu (beq_self_eq_true _) MF
def PM:D6 (λc=>c==aB) "idle_rows" (uf Qf Ls R Qh)=M.ok (.lst (Qh.map tI)):=qu (beq_self_eq_true _) Of
def Jw:yk aE "sizes" bj (dS Qf Ls) (M.ok [])=M.ok (tI Qf):=(sk (fl:=vh Qf Ls) rfl).trans (wj Qf Ls)
noncomputable def lst(Qf:List Int)(Ls:List (List Int))(R:List Row)(xs:List Int):List Int:=(bH Qf R (xs,UY Ls.length 0) 0 Qf.length).1
theorem iN(h:St Qf.length Ls.length Qf A k R)(hl:xs.length=Qf.length)(h0:∀i,i<Qf.length->0<=vf xs i/\vf xs i<vf Qf i):(lst Qf Ls R xs).length=Qf.length/\(∀i,i<Qf.length->0<=vf (lst Qf Ls R xs) i/\vf (lst Qf Ls R xs) i<aZ (vf Qf) (DD R) i)/\(∀i,i<Qf.length->0<=vf (lst Qf Ls R xs) i/\vf (lst Qf Ls R xs) i<vf Qf i)/\G Qf.length (vf Qf) (DD R) Qf.length 0 (λi=>vf xs i-vf (lst Qf Ls R xs) i):=by
 have r2:(UY Ls.length (0:Int)).length=Ls.length:=by simp
 have ll:=jn h (f:=0) (r:=(xs,UY Ls.length 0)) hl r2 Qf.length ⋯;have dn:=p9 h (f:=0) (r:=(xs,UY Ls.length 0)) hl r2 h0;exact⟨ll.1,λi hi=>dn.low h.gd Qf.length (Va _) (UZ _) i (Va _) hi,λi hi=>dn.kept h.gd Qf.length (Va _) (UZ _) i hi,dn.away h.gd Qf.length (Va _) (UZ _) Qf.length ⋯⟩
theorem Kq(h:St Qf.length Ls.length Qf A k R)(hl:xs.length=Qf.length)(h0:∀i,i<Qf.length->0<=vf xs i/\vf xs i<vf Qf i)(T9:ys.length=Qf.length)(h0':∀i,i<Qf.length->0<=vf ys i/\vf ys i<vf Qf i)(hg:G Qf.length (vf Qf) (DD R) Qf.length 0 (λi=>vf xs i-vf ys i)):lst Qf Ls R xs=lst Qf Ls R ys:=by
 obtain⟨a1,a2,a3,a4⟩:=iN h hl h0;obtain⟨b1,b2,b3,b4⟩:=iN h T9 h0';refine Bu (a1.trans b1.symm) λi hi=>?_;have g:=G.add ⋯ (h.gd.sub ⋯ hg a4) b4;have:=G.diff h.gd Qf.length 0 (λi=>vf (lst Qf Ls R xs) i-vf (lst Qf Ls R ys) i) ⋯ (λi hi=>by have:=a3 i hi;have:=b3 i hi;lia) (λi _ hi=>by have:=a2 i hi;have:=b2 i hi;lia) (G.ext ⋯ (λi _=>by lia) g) i ⋯;lia
def A8(S:Sz Qf)(hm:Ls.length<=8)(h:St Qf.length Ls.length Qf A k R)(hk:k<=9)(hl:xs.length=Qf.length)(h0:∀i,i<Qf.length->0<=vf xs i/\vf xs i<vf Qf i):fH [uf Qf Ls R Qh,tI xs]=M.ok (tI (lst Qf Ls R xs)):=by
 have dk:=F1 (Qh:=Qh) S hm h hk (Cq hl h0) h0;unfold fH fw;dsimp? [eT,Az (m := "brought_down") rfl,dk,vG];rfl
def qJ(Qf:List Int)(R:List Row):List Int:=(Vc Qf.length).map λd=>aZ (vf Qf) (DD R) d
def qO:(qJ Qf R).length=Qf.length:=by simp[qJ]
def Fz(h:i<Qf.length):vf (qJ Qf R) i=aZ (vf Qf) (DD R) i:=by
 rw[bh (by rwa[qO])];simp[qJ]
noncomputable def rh(Qh:List (List Int)):List Int:=Qh.zipIdx.map λz=>vf z.1 z.2
def l_:(rh Qh).length=Qh.length:=by simp[rh]
def xN(h:i<Qh.length):vf (rh Qh) i=II Qh i i:=by
 rw[bh (by rwa[l_])];simp only[rh,Xo,ZN,Y4];unfold II;rw[Ve,UW h];rfl
theorem ED(S:Sz Qf)(h:St Qf.length Ls.length Qf A k R):fE [uf Qf Ls R Qh]=M.ok (tI (qJ Qf R)):=by
 have l6:=S.h6;have key:bC (bA 0) none (ah dD (aa (ae 2) (aa (iA (λc=>c==aB) "made_rows" (ae 1)) (aa (ae 0) aj)))) ((Vc Qf.length).map λ(i:Nat)=>.int (i:Int)) [none,some (.sh (uf Qf Ls R Qh)),some (.sh (tI Qf))]=M.ok ((Vc Qf.length).map λd=>.int (aZ (vf Qf) (DD R) d)):=by
  refine eM (inj:=λ(i:Nat)=>PV.int (i:Int)) (Vc Qf.length) λi hi=>?_;dsimp? [oI,Po,u5 h.wf h.hs (V3.mp hi)]
 unfold fE fI;dsimp? [oI,PN,eT,Jw,dz (n:=(Qf.length:Int)) ⋯ ⋯,VE,U0,VJ,aq (aX (show Qf.length<=1000 by lia)),key];rw[tI,qJ,VB];rfl
theorem tF(hm:Ls.length<=8)(I:AV Qf.length Ls.length (vf Qf) A Ls.length Qh):fj [uf Qf Ls R Qh]=M.ok (tI (rh Qh)):=by
 have il:=I.len;have key:bC (dj 0 1) none (ai aJ (ae 1) (ae 0)) (Qh.zipIdx.map λz=>.tup [.int (z.2:Int),tI z.1]) [none,none]=M.ok (Qh.zipIdx.map λz=>.int (vf z.1 z.2)):=by
  refine jQ (p:=λz:List Int×Nat=>PV.int (z.2:Int)) (q:=λz:List Int×Nat=>tI z.1) Qh.zipIdx λz hz=>?_;obtain⟨i,hi,rfl⟩:=Vn.mp hz;rw[W4] at hi;have:=I.l2 i ⋯;rw[Ve,UW hi] at this;simp only[ZN,Y4];dsimp? [lA (xs:=Qh[i]) (i:=i) (by rw[show Qh[i].length=Ls.length from this];lia)]
 unfold fj fF;dsimp? [oI,PM,oR,U0,W4,aq (aX (show Qh.length<=1000 by lia)),key];rw[tI,rh,VB];rfl
def Gu(xs:List PV):aS [dS Qf Ls,.lst xs]=M.ok (.bl false):=by
 unfold aS cy;dsimp? [eT,Jw]
def FK:aS [dS Qf Ls,.c8]=M.ok (.bl false):=by
 unfold aS cy;dsimp? [eT,Jw]
def uG(S:Sz Qf)(hz:xs.length<=1000)(h:rD Qf xs=false):aS [dS Qf Ls,tI xs]=M.ok (.bl false):=by
 rw[qm S xs hz,h]
def DO(h:aS [dS Qf Ls,p]=M.ok (.bl false)):cj [dS Qf Ls,p]=some (.error (bW,none)):=by
 unfold cj cK;dsimp? [h,iR,aq (aX (show 1<=1000 by decide))]
end
section
variable{R:List Row}
theorem IA(S:Sz Qf):∀s∈Qf,0<s:=λs hs=>by have:=S.hx s hs;lia
theorem pR(S:Sz Qf):∀i,i<Qf.length->0<=vf (UY Qf.length 0) i/\vf (UY Qf.length 0) i<vf Qf i:=λi hi=>by rw[mR];have:=nJ S i hi;lia
theorem lK{F F':List Int}(h:F.length=Qf.length)(h':F'.length=Qf.length)(k:∀i,i<Qf.length->0<=vf F i/\vf F i<vf Qf i)(k':∀i,i<Qf.length->0<=vf F' i/\vf F' i<vf Qf i)(d:∀i,i<Qf.length->vf Qf i∣vf F i-vf F' i):F=F' :=
 Bu (h.trans h'.symm) λi hi=>by
  have:=k i ⋯;have:=k' i ⋯;have:=ko (d i ⋯) ⋯ ⋯;lia
theorem M6{P v:dE}(h:St Qf.length Ls.length Qf (AA Ls) k R)(hk:Ls.length<=k)(led:Led Qf.length (vf Qf) Ls.length (AA Ls) v P):G Qf.length (vf Qf) (DD R) Qf.length 0 v:=by
 have g:=G.sum (A:=AA Ls) (P:=P) h.gd Ls.length λl hl=>h.cl l ⋯;exact h.gd.l9 ⋯ (λi hi=>led i hi) g
theorem xF(S:Sz Qf){F:List Int}(h:F.length=Qf.length)(k:∀i,i<Qf.length->0<=vf F i/\vf F i<vf Qf i):Bd 200 F:=λx hx=>by
 obtain⟨i,hi,rfl⟩:=Vn.mp hx;have h2:=k i ⋯;rw[bh hi] at h2;have:=nJ S i ⋯;lia
structure jO (ns:List Int) (Qf:List Int) (QA Ls:List (List Int)) (R:List Row) (Qh:List (List Int)):Prop where
 S:Sz Qf
 hr:∀l∈QA,l.length=Qf.length/\Bd 200 l
 eL:Ls=QA.map λl=>vk l Qf
 hm:QA.length=Ls.length
 m8:Ls.length<=8
 eA:∀l,l<QA.length->∀i,i<Qf.length->AA Ls l i=vf (QA.getD l []) i%vf Qf i
 LL:MO Qf.length Ls.length Qf Ls
 st:St Qf.length Ls.length Qf (AA Ls) (Ls.length+1) R
 I:AV Qf.length Ls.length (vf Qf) (AA Ls) Ls.length Qh
 pr:aw Ls.length (λj=>II Qh j j)*aw Qf.length (aZ (vf Qf) (DD R))=aw Qf.length (vf Qf)
 ord:∀j,j<Ls.length->∀P:dE,Zf (j+1) Ls.length P->Led Qf.length (vf Qf) Ls.length (AA Ls) (λ_=>0) P->II Qh j j∣P j
 low:∀d,d<Qf.length->∀e,d<e->e<Qf.length->DD R d e<aZ (vf Qf) (DD R) e
 nul:∀d,d<Qf.length->DD R d d=0->∀i,i<Qf.length->DD R d i=0
 Mr:∀{p:PV}{f:List Int->PV},(f=tI\/f=lI)->bY p=some (Qf.map PV.int)->jB aE fy [.c8] [p,.lst (QA.map f)]=M.ok (dS Qf Ls)
 NH:jB aB gX [] [dS Qf Ls]=M.ok (uf Qf Ls R Qh)
theorem jO.get(ns:List Int)(S:Sz Qf)(r8:QA.length<=8)(hr:∀l∈QA,l.length=Qf.length/\Bd 200 l):∃Ls R Qh,jO ns Qf QA Ls R Qh:=by
 have l6:=S.h6;have sp:=nJ S;obtain⟨LL,eA⟩:=DG S hr;have Mr:=λ{p:PV} {f:List Int->PV} (hf:f=tI\/f=lI) hp=>F9 (p:=p) hf Qf QA hp S r8 λl h=>(hr l h).1;have hm:QA.length=(QA.map λl=>vk l Qf).length:=by simp
 generalize hLs:(QA.map λl=>vk l Qf)=Ls at *;rw[hm] at LL r8;have K:=EH.all (c:=cf) rfl sp LL C9 l6 Ls.length (UZ _);have NH:=Dw S.h1 l6 r8 sp LL;generalize RK cf Qf Ls Qf.length Ls.length Ls.length=rk at *;have h:=K.st;have hl:∀d,d<Qf.length->(bH Qf rk.1 (row rk.1 d) (d+1) (Qf.length-(d+1))).1.length=Qf.length:=λd hd=>(jn h (h.wf.oH hd) (h.wf.at2 hd) _ ⋯).1;have lg:=v5 (D':=DD (ny Qf rk.1 Qf.length)) h.gd (λd e=>vf (bH Qf rk.1 (row rk.1 d) (d+1) (e-(d+1))).1) (λd hd=>p9 h (h.wf.oH hd) (h.wf.at2 hd) λi hi=>h.gd.kU d hd i hi) (λd hd i hi=>by
  show vf (bH Qf rk.1 (row rk.1 d) (d+1) (d+1-(d+1))).1 i=_;rw[acj];rfl) (λd hd i hi=>by unfold DD;rw[lN hd])
 refine⟨Ls,ny Qf rk.1 Qf.length,rk.2,S,hr,hLs.symm,hm,r8,eA,LL,Jo K.st l6 (JT Ls),K.tD,?_,K.ord,?_,?_,Mr,NH⟩
 .rw[eZ (f:=aZ (vf Qf) (DD (ny Qf rk.1 Qf.length))) (g:=aZ (vf Qf) (DD rk.1)) lg.2.1];exact K.pr
 .intro d hd e h1 h2;rw[lg.2.1 e h2];exact lg.2.2.1 d hd e h1 h2
 .exact lg.2.2.2.1
end
variable{T:List Row}{ns:List Int}
def mf(x:Int):DR (M.ok (.int x))=M.ok (.int x):=Vz rfl rfl
noncomputable def ad(Qf xs ys:List Int)(t:Int):List Int:=vk ((xs.zip ys).map λz=>z.1+t*z.2) Qf
theorem ql{t:Int}(S:Sz Qf)(h1:xs.length=Qf.length)(h2:ys.length=Qf.length):(ad Qf xs ys t).length=Qf.length/\∀i,i<Qf.length->vf (ad Qf xs ys t) i=(vf xs i+t*vf ys i)%vf Qf i:=by
 have hl:((xs.zip ys).map λz=>z.1+t*z.2).length=Qf.length:=by simp;lia
 refine⟨by rw[ad,uo,iF,hl];simp,λi hi=>?_⟩;rw[ad,uo,jw (by rwa[hl]) hi,bh (by rwa[hl]),bh (xs:=xs) ⋯,bh (xs:=ys) ⋯];simp
theorem z_{t:Int}(S:Sz Qf)(h1:xs.length=Qf.length)(hy:Bd 200 ys)(ht:t.natAbs<2^200):mC [dS Qf Ls,tI xs,tI ys,.int t]=M.ok (tI (ad Qf xs ys t)):=by
 have l6:=S.h6;have k1:bC (dj 0 1) none (ai bU (ae 0) (ai cA (ae 2) (ae 1))) ((xs.zip ys).map λz=>.tup [.int z.1,.int z.2]) [none,none,some (.sh (.int t))]=M.ok ((xs.zip ys).map λz=>.int (z.1+t*z.2)):=by
  refine jQ (p:=λz:Int×Int=>PV.int z.1) (q:=λz:Int×Int=>PV.int z.2) (xs.zip ys) λz hz=>?_;dsimp? [bI (k:=200) (l:=200) ht (hy _ (yp hz).2)]
 have z1:(xs.zip ys).length<=sizeLine:=by rw[WG];exact aX (VM (ZG _ _) ⋯)
 have e0:bY (.lst ((xs.zip ys).map λz=>PV.int (z.1+t*z.2)))=some (((xs.zip ys).map λz=>z.1+t*z.2).map PV.int):=by
  rw[vI,VB];rfl
 have r:=qL (.lst ((xs.zip ys).map λz=>PV.int (z.1+t*z.2))) (tI Qf) _ Qf e0 rfl (IA S) (by rw[U0,WG];lia);unfold mC oN;dsimp? [jM (p:=tI xs) (q:=tI ys) xs ys rfl rfl,U0,aq z1,k1,eT,Jw,r];rfl
def Kp(Qf xs:List Int):Prop:=xs.length=Qf.length/\∀i,i<Qf.length->0<=vf xs i/\vf xs i<vf Qf i
def Kp.Pp(h:Kp Qf xs):MX Qf xs:=Cq h.1 h.2
theorem wG(S:Sz Qf){t:Int}(h1:xs.length=Qf.length)(h2:ys.length=Qf.length):Kp Qf (ad Qf xs ys t)/\∀i,i<Qf.length->vf Qf i∣vf (ad Qf xs ys t) i-(vf xs i+t*vf ys i):=by
 obtain⟨a,b⟩:=ql (t:=t) S h1 h2;refine⟨⟨a,λi hi=>?_⟩,λi hi=>?_⟩
 .have:=nJ S i hi;rw[b i hi];exact⟨Vk _ ⋯,Vd _ this.1⟩
 .rw[b i hi];have:=Y5 (vf xs i+t*vf ys i) (vf Qf i);exact⟨-((vf xs i+t*vf ys i)/vf Qf i),by rw[this];grind⟩
theorem Od(c k:Int)(hk:k.natAbs<2^31):∃m:Int,aC [.int c,.int k]=M.ok (.int m)/\0<=m/\m<2^31:=by
 unfold aC bV;have a1:=Vk (c+7919*k+12345) (show (2147483629:Int)≠0 by decide);have a2:=Vd (c+7919*k+12345) (show (0:Int)<2147483629 by decide);generalize hn:(c+7919*k+12345)%2147483629=n at *;have b1:=Vk (n*n+48271*k) (show (2147483629:Int)≠0 by decide);have b2:=Vd (n*n+48271*k) (show (0:Int)<2147483629 by decide);generalize hm:(n*n+48271*k)%2147483629=m at *;have c1:=Vk (m*m) (show (2147483587:Int)≠0 by decide);have c2:=Vd (m*m) (show (0:Int)<2147483587 by decide);exact⟨m*m%2147483587,by dsimp? [bI (i:=7919) (j:=k) (k:=31) (l:=31) ↑12 hk,aA (i:=c+7919*k+12345) (j:=2147483629) ↑12,hn,bI (i:=n) (j:=n) (k:=31) (l:=31) ⋯ ⋯,bI (i:=48271) (j:=k) (k:=31) (l:=31) ↑12 hk,aA (i:=n*n+48271*k) (j:=2147483629) ↑12,hm,bI (i:=m) (j:=m) (k:=31) (l:=31) ⋯ ⋯,aA (i:=m*m) (j:=2147483587) ↑12],c1,by lia⟩
def mx(c k:Int):Int:=open Classical in if h:∃m:Int,aC [.int c,.int k]=M.ok (.int m)/\0<=m/\m<2^31 then h.choose else 0
def vi(c k:Int)(hk:k.natAbs<2^31):aC [.int c,.int k]=M.ok (.int (mx c k))/\0<=mx c k/\mx c k<2^31:=by
 have h:=Od c k hk;have e:mx c k=h.choose:=dif_pos h;rw[e];exact h.choose_spec
theorem zw(c:Int)(p:PV)(bases:List Int)(hp:bY p=some (bases.map PV.int))(hb:∀b∈bases,0<b/\b<2^60)(hl:bases.length<=100):kc (fm [.int c,p]) λq=>∃xs:List Int,q=lI xs/\xs.length=bases.length/\∀i,i<bases.length->0<=vf xs i/\vf xs i<vf bases i:=by
 unfold fm fk;dsimp? [d_,hp];refine kc.loop (xs:=bases) (inj:=PV.int) (λzs env=>∃(c:Int)(ss:List Int)(y:Option SV),env=[some (.sh (.int c)),some (.sh p),some (.ow (ss.map PV.int)),y]/\zs=bases.drop ss.length/\ss.length<=bases.length/\∀i,i<ss.length->0<=vf ss i/\vf ss i<vf bases i) ⟨c,[],none,rfl,rfl,by simp,λi hi=>by simp at hi⟩ ?_ ?_
 .rintro s r env ⟨c,ss,y,rfl,hd,T9,hs⟩;obtain⟨c1,c2,c3⟩:=drop_cons hd.symm;rw[UW c1] at c2;have e2:bases[ss.length]=s:=Vf c2;have hz:=hb s (by rw[<- e2];exact VP _);have hk:(ss.map PV.int).length<1000:=by simp;lia
  have m0:=Vk c (show s≠0 by lia);have m1:=Vd c hz.1;dsimp? [bA,aA (i:=c) (j:=s) hz.1,je,ownAt,jd hk,kq,bo (i:=c) (j:=s) hz.1 ⋯];refine⟨_,rfl,_,ss++[c%s],_,rfl,by rw[Vb];exact c3.symm,by simp;lia,λi hi=>?_⟩;have SD:i<=ss.length:=by simp at hi;lia
  rw[bh hi];rcases aac SD with q|q
  .rw[aas q,<- bh q];exact hs i q
  .subst q;rw[List.getElem_append_right (UZ _),bh c1,e2];simp;lia
 .rintro env ⟨c,ss,y,rfl,hd,T9,hs⟩;have:=congrArg WJ hd;rw[V2] at this;simp at this;exact⟨_,rfl,ss,rfl,by lia,λi hi=>hs i ⋯⟩
def HB(h1:1<=xs.length)(h6:xs.length<=6)(hx:∀x∈xs,2<=x/\x<=360):Sz xs:=⟨h1,h6,hx⟩
def M4:Fu (.int 10) (.int 24)=M.ok (.int (10^24)):=by
 rfl
theorem Dx(S:Sz Qf)(c:Int):kc (dF [.int c,lI Qf]) λp=>∃xs:List Int,p=lI xs/\xs.length=Qf.length/\Bd 200 xs:=by
 have l6:=S.h6;unfold dF gA;have m2:=aA (i:=c) (j:=2) ↑12
 by_cases h:c%2=1
 .obtain⟨_,ed,xs,rfl,xl,xb⟩:=zw (c/2) (lI Qf) Qf rfl (λb hb=>by have:=S.hx b hb;lia) ⋯;dsimp? [m2,h,decide_true,bo (i:=c) (j:=2) ↑12 ↑12,ed];refine⟨_,rfl,xs,rfl,xl,λx hx=>?_⟩;obtain⟨i,hi,rfl⟩:=Vn.mp hx;have a:=xb i ⋯;have b:=nJ S i ⋯;rw[bh hi] at a;lia
 .obtain⟨e5,p1,p2⟩:=vi c 5 ↑12;obtain⟨e6,q1,q2⟩:=vi c 6 ↑12;obtain⟨y,hy,ey⟩:=pick [1,1,2,3,4,6] (mx c 5) 6 rfl ↑12;rw[show ((6:Nat):Int)=6 from rfl] at ey;simp only[Vg,Xh] at ey;have hy':1<=y/\y<=6:=by simp at hy;lia
  obtain⟨t,ht,et⟩:=pick [0,1,10^24] (mx c 6) 3 rfl ↑12;rw[show ((3:Nat):Int)=3 from rfl] at et;simp only[Vg,Xh] at et;have ht':0<=t/\t<=10^24:=by
   rcases U9.mp ht with rfl|ht
   .decide
   rcases U9.mp ht with rfl|ht
   .decide
   rw[Vr.mp ht];decide
  dsimp? [m2,h,decide_false,e5,aA (i:=mx c 5) (j:=6) ↑12];rw[ey];dsimp? [M4,e6,aA (i:=mx c 6) (j:=3) ↑12];rw[et];dsimp? [d_,dz (n:=(Qf.length:Int)) ⋯ ⋯,VE];refine kc.loop (xs:=Vc Qf.length) (inj:=λ(i:Nat)=>.int (i:Int)) (λzs env=>∃(ss:List Int)(y5 y6 y7:Option SV),env=[some (.sh (.int c)),some (.sh (lI Qf)),some (.sh (.int y)),some (.sh (.int t)),some (.ow (ss.map PV.int)),y5,y6,y7]/\ss.length+zs.length=Qf.length/\Bd 200 ss/\∀z∈zs,z<Qf.length) ⟨[],none,none,none,rfl,by simp,(λ_ h=>nomatch h),λz hz=>V3.mp hz⟩ ?_ ?_
  .rintro i r env ⟨ss,y5,y6,y7,rfl,hl,hs,hm⟩;have hi:=hm i VA;have R_:=S.hx Qf[i] (VP hi);obtain⟨ea,a1,a2⟩:=vi c (40+(i:Int)) ⋯;obtain⟨eb,b1,b2⟩:=vi c (60+(i:Int)) ⋯;generalize mx c (40+(i:Int))=a at *;generalize mx c (60+(i:Int))=b at *;have T9:(ss.map PV.int).length<1000:=by simp at hl ⊢;lia
   obtain⟨k,ek,hk⟩:∃k:Int,tq (λi j=>if j<i then j else i) [.int (a%4),.int 1]=M.ok (.int k)/\0<=k/\k<=1:=⟨if 1<a%4 then 1 else a%4,rfl,by split<;>lia,by split<;>lia⟩
   have t1:(b%2001-1000).natAbs<2^31:=by lia
   have t2:t.natAbs<2^100:=by lia
   have t3:((b%2001-1000)*t).natAbs<2^120:=by
    rw[Xa];have:(b%2001-1000).natAbs*t.natAbs<=2^11*2^100:=Ym ⋯ ⋯;exact V9 this ↑12
   have t4:(k*y).natAbs<2^31:=by
    rcases(show k=0\/k=1 by lia) with rfl|rfl
    .simp
    .simp;lia
   have t5:(Qf[i]*((b%2001-1000)*t)).natAbs<2^150:=by
    rw[Xa];have:Qf[i].natAbs*((b%2001-1000)*t).natAbs<=2^11*2^120:=Ym ⋯ ⋯;exact V9 this ↑12
   have t6:(k*y*(a/4%360)).natAbs<2^62:=by
    rw[Xa];have:(k*y).natAbs*(a/4%360).natAbs<=2^31*2^10:=Ym ⋯ ⋯;exact V9 this ↑12
   have ix:aJ (lI Qf) (.int (i:Int))=M.ok (.int Qf[i]):=by rw[Dj hi,bh hi]
   dsimp? [bA,ea,eb,aA (i:=b) (j:=2001) ↑12,bI (i:=b%2001-1000) (j:=t) (k:=31) (l:=100) t1 t2,aA (i:=a) (j:=4) ↑12,ek,bI (i:=k) (j:=y) (k:=31) (l:=31) ⋯ ⋯,bo (i:=a) (j:=4) ↑12 ↑12,aA (i:=a/4) (j:=360) ↑12,bI (i:=k*y) (j:=a/4%360) (k:=31) (l:=31) t4 ⋯,ix,bI (i:=Qf[i]) (j:=(b%2001-1000)*t) (k:=31) (l:=120) ⋯ t3,je,ownAt,jd T9,kq];refine⟨_,rfl,ss++[k*y*(a/4%360)+Qf[i]*((b%2001-1000)*t)],_,_,_,rfl,by simp at hl ⊢;lia,λs h'=>?_,λz hz=>hm z (Vm _ hz)⟩;rcases V7.mp h' with q|q
   .exact hs s q
   .rw[Vr.mp q];have:=Int.natAbs_add_le (k*y*(a/4%360)) (Qf[i]*((b%2001-1000)*t));lia
  .rintro env ⟨ss,y5,y6,y7,rfl,hl,hs,_⟩;exact⟨_,rfl,ss,rfl,by simpa using hl,hs⟩
theorem Fi{l:List Int}(S:Sz Qf)(hl:l.length=Qf.length):fO [lI l,lI Qf]=M.ok (tI (vk l Qf)):=by
 have l6:=S.h6;have k1:bC (dj 0 1) none (ai cD (ae 0) (ae 1)) ((l.zip Qf).map λz=>.tup [.int z.1,.int z.2]) [none,none]=M.ok ((l.zip Qf).map λz=>.int (z.1%z.2)):=by
  refine jQ (p:=λz:Int×Int=>PV.int z.1) (q:=λz:Int×Int=>PV.int z.2) (l.zip Qf) λz hz=>?_;have:=S.hx _ (yp hz).2;dsimp? [aA (i:=z.1) (j:=z.2) ⋯]
 have z1:(l.zip Qf).length<=sizeLine:=by rw[WG];exact aX ⋯
 unfold fO hU;dsimp? [jM (p:=lI l) (q:=lI Qf) l Qf rfl rfl,U0,aq z1,k1];rw[tI,vk,VB];rfl
noncomputable def sm(Qf A B:List Int):List Int:=(A.zip (B.zip Qf)).map λz=>(z.1+z.2.1)%z.2.2
theorem ub(S:Sz Qf)(A B:List Int):cT [tI A,tI B,lI Qf]=M.ok (tI (sm Qf A B)):=by
 have l6:=S.h6;have k1:bC (nG 0 1 2) none (ai cD (ai bU (ae 0) (ae 1)) (ae 2)) ((A.zip (B.zip Qf)).map λz=>.tup [.int z.1,.int z.2.1,.int z.2.2]) [none,none,none]=M.ok ((A.zip (B.zip Qf)).map λz=>.int ((z.1+z.2.1)%z.2.2)):=by
  refine Ih (p:=λz:Int×Int×Int=>PV.int z.1) (q:=λz:Int×Int×Int=>PV.int z.2.1) (s:=λz:Int×Int×Int=>PV.int z.2.2) (A.zip (B.zip Qf)) λz hz=>?_;have:0<z.2.2:=by have:=S.hx z.2.2 (WU (WU (a:=z.1) (b:=z.2) hz).2).2;exact abS ↑12 this.1
  dsimp? [aA (i:=z.1+z.2.1) (j:=z.2.2) this]
 have z1:(A.zip (B.zip Qf)).length<=sizeLine:=by rw[WG,WG];exact aX ⋯
 unfold cT gM;dsimp? [vv (p:=tI A) (q:=tI B) (r:=lI Qf) A B Qf rfl rfl rfl,U0,aq z1,k1];rw[tI,sm,VB];rfl
variable{c:Nat}
theorem dI(S:Sz Qf){A B:List Int}(h1:A.length=Qf.length)(h2:B.length=Qf.length):Kp Qf (sm Qf A B)/\∀i,i<Qf.length->vf Qf i∣vf (sm Qf A B) i-(vf A i+vf B i):=by
 have len:(sm Qf A B).length=Qf.length:=by simp[sm,h1,h2]
 have at_:∀i,i<Qf.length->vf (sm Qf A B) i=(vf A i+vf B i)%vf Qf i:=λi hi=>by
  rw[bh ⋯,bh ⋯,bh ⋯,bh hi];simp[sm]
 refine⟨⟨len,λi hi=>?_⟩,λi hi=>by rw[at_ i hi];exact gP _ _⟩;have:=nJ S i hi;rw[at_ i hi];exact⟨Vk _ ⋯,Vd _ ⋯⟩
theorem kB(S:Sz Qf){r:List Int}(h:Kp Qf r):∀j,Kp Qf (El (sm Qf) r j)/\∀i,i<Qf.length->vf Qf i∣vf (El (sm Qf) r j) i-((j:Int)+1)*vf r i
 | 0=>⟨h,λi hi=>⟨0,by show vf r i-_=_;simp⟩⟩
 | j+1=>by
  obtain⟨k,d⟩:=kB S h j;obtain⟨k2,d2⟩:=dI S k.1 h.1;refine⟨k2,λi hi=>?_⟩;obtain⟨a,ea⟩:=d i hi;obtain⟨b,eb⟩:=d2 i hi;refine⟨a+b,?_⟩;show vf (sm Qf (El (sm Qf) r j) r) i-_=_;have:((j+1:Nat):Int)=(j:Int)+1:=by lia
  rw[this]
  grind
theorem kd(S:Sz Qf){r:List Int}(h:Kp Qf r):∀j,Kp Qf (oV (sm Qf) (UY Qf.length 0) r j)/\∀i,i<Qf.length->vf Qf i∣vf (oV (sm Qf) (UY Qf.length 0) r j) i-(j:Int)*vf r i
 | 0=>⟨⟨by simp[oV],pR S⟩,λi hi=>⟨0,by show vf (UY Qf.length 0) i-_=_;rw[mR];simp⟩⟩
 | j+1=>by
  obtain⟨k,d⟩:=kd S h j;obtain⟨k2,d2⟩:=dI S k.1 h.1;refine⟨k2,λi hi=>?_⟩;obtain⟨a,ea⟩:=d i hi;obtain⟨b,eb⟩:=d2 i hi;refine⟨a+b,?_⟩;show vf (sm Qf (oV (sm Qf) (UY Qf.length 0) r j) r) i-_=_;have:((j+1:Nat):Int)=(j:Int)+1:=by lia
  rw[this]
  grind
def Rc(Qf:List Int)(Ls:List (List Int))(c:Nat)(B:List Int):Prop:=Kp Qf B/\∃P:dE,Zf c Ls.length P/\Led Qf.length (vf Qf) Ls.length (AA Ls) (vf B) P
def jO.kp(Q:jO ns Qf QA Ls T Qh)(hc:c<Ls.length):Kp Qf (Ls.getD c []):=⟨Q.LL.at_ c hc,Q.LL.kU c hc⟩
theorem oU(Q:jO ns Qf QA Ls T Qh)(hc:c<Ls.length):Led Qf.length (vf Qf) Ls.length (AA Ls) (AA Ls c) (λl=>if l=c then 1 else 0):=λi hi=>by
 rw[mS c (AA Ls c i) Ls.length hc (λl=>(if l=c then 1 else 0)*AA Ls l i) λl hl=>by
  by_cases z:l=c
  .subst z;simp
  .simp[z]]
 exact⟨0,by lia⟩
theorem Rc.zero(Q:jO ns Qf QA Ls T Qh)(B:List Int):Rc Qf Ls 0 B ↔ B=UY Qf.length 0:=by
 constructor
 .rintro⟨k,P,zf,led⟩;refine lK k.1 ↑13 k.2 (pR Q.S) λi hi=>?_;have:=led i hi;rw[iI (g:=λ_=>0) λl hl=>by rw[zf l (Va _) hl,Y6],gH] at this;rw[mR];exact this
 .rintro rfl;refine⟨⟨by simp,pR Q.S⟩,λ_=>0,λ_ _ _=>rfl,λi hi=>?_⟩;rw[iI (g:=λ_=>0) λl hl=>Y6 _,gH,mR];exact⟨0,by lia⟩
theorem Rc.before(Q:jO ns Qf QA Ls T Qh){j:Nat}(hc:c<Ls.length)(hj:(j:Int)+1<II Qh c c):¬ Rc Qf Ls c (El (sm Qf) (Ls.getD c []) j):=by
 rintro⟨k,P,zf,led⟩;obtain⟨_,d⟩:=kB Q.S (Q.kp hc) j;have:=Q.ord c hc (λl=>1*P l+(-((j:Int)+1))*(if l=c then 1 else 0)) (λl a b=>by
  show 1*P l+(-((j:Int)+1))*(if l=c then 1 else 0)=0;rw[zf l ⋯ b,if_neg ⋯];lia) (Led.mix (a:=1) (b:=-((j:Int)+1)) led (oU Q hc) (λi hi=>by
   obtain⟨x,hx⟩:=d i hi;exact⟨-x,by show 0-(1*_+-((j:Int)+1)*AA Ls c i)=_;unfold AA;grind⟩) λl hl=>rfl)
 simp only[if_pos,zf c (UZ _) hc] at this;have h0:=ko (a:=(j:Int)+1) (b:=II Qh c c) (by
  obtain⟨x,hx⟩:=this;exact⟨-x,by grind⟩) ⋯ hj
 lia
theorem Rc.at_(Q:jO ns Qf QA Ls T Qh)(hc:c<Ls.length)(hm:(m:Int)+1=II Qh c c):Rc Qf Ls c (El (sm Qf) (Ls.getD c []) m):=by
 obtain⟨k,d⟩:=kB Q.S (Q.kp hc) m;refine⟨k,λl=>(-1)*II Qh c l+II Qh c c*(if l=c then 1 else 0),λl a b=>?_,Led.mix (a:=-1) (b:=II Qh c c) (Q.I.tD c hc) (oU Q hc) (λi hi=>?_) λl hl=>rfl⟩
 .show (-1)*II Qh c l+II Qh c c*(if l=c then 1 else 0)=0
  by_cases z:l=c
  .subst z;simp;lia
  .rw[if_neg z,Q.I.zero c hc l ⋯ b];lia
 .obtain⟨x,hx⟩:=d i hi;refine⟨x,?_⟩;show _-(-1*0+II Qh c c*AA Ls c i)=_;unfold AA;rw[<- hm]
  grind
theorem Rc.next(Q:jO ns Qf QA Ls T Qh)(hc:c<Ls.length)(hm:(m:Int)+1=II Qh c c)(B:List Int):Nx (sm Qf) (UY Qf.length 0) (Ls.getD c []) m (Rc Qf Ls c) B ↔ Rc Qf Ls (c+1) B:=by
 have kr:=Q.kp hc;constructor
 .rintro(⟨k,P,zf,led⟩|⟨A,j,⟨k,P,zf,led⟩,hj,rfl⟩)
  .exact⟨k,P,λl a b=>zf l ⋯ b,led⟩
  .obtain⟨k2,d2⟩:=kd Q.S kr (j+1);obtain⟨k3,d3⟩:=dI Q.S k.1 k2.1;refine⟨k3,λl=>1*P l+((j+1:Nat):Int)*(if l=c then 1 else 0),λl a b=>?_,Led.mix (a:=1) (b:=((j+1:Nat):Int)) led (oU Q hc) (λi hi=>?_) λl hl=>rfl⟩
   .show 1*P l+((j+1:Nat):Int)*(if l=c then 1 else 0)=0;rw[zf l ⋯ b,if_neg ⋯];lia
   .obtain⟨x,hx⟩:=d2 i hi;obtain⟨y,hy⟩:=d3 i hi;exact⟨x+y,by unfold AA;grind⟩
 .rintro⟨k,P,zf,led⟩;have ip:=Q.I.pos c hc;obtain⟨j,hj⟩:=Wh (Vk (P c) (show II Qh c c≠0 by lia));have jl:=Vd (P c) ip;have ed:=abh (P c) (II Qh c c);have UM:Led Qf.length (vf Qf) Ls.length (AA Ls) (vf B) (λl=>1*P l+(-(P c/II Qh c c))*II Qh c l):=Led.mix (a:=1) (b:=-(P c/II Qh c c)) led (Q.I.tD c hc) (λi hi=>⟨0,by show vf B i-(1*vf B i+_*0)=_;lia⟩) λl hl=>rfl;have pc:1*P c+(-(P c/II Qh c c))*II Qh c c=(j:Int):=by rw[<- hj];grind
  have pz:∀l,c<l->l<Ls.length->1*P l+(-(P c/II Qh c c))*II Qh c l=0:=λl a b=>by rw[zf l ⋯ b,Q.I.zero c hc l a b];lia
  cases j with
  | zero =>
   refine .inl ⟨k,_,λl a b=>?_,UM⟩;rcases abT a with z|z
   .subst z;exact pc
   .exact pz l z b
  | succ j =>
   obtain⟨ka,da⟩:=wG (t:=-((j+1:Nat):Int)) Q.S k.1 kr.1;obtain⟨k2,d2⟩:=kd Q.S kr (j+1);obtain⟨k3,d3⟩:=dI Q.S ka.1 k2.1;refine .inr ⟨ad Qf B (Ls.getD c []) (-((j+1:Nat):Int)),j,⟨ka,λl=>1*(1*P l+(-(P c/II Qh c c))*II Qh c l)+(-((j+1:Nat):Int))*(if l=c then 1 else 0),λl a b=>?_,Led.mix (a:=1) (b:=-((j+1:Nat):Int)) UM (oU Q hc) (λi hi=>?_) λl hl=>rfl⟩,by lia,?_⟩
   .rcases abT a with z|z
    .subst z;show 1*(1*P c+(-(P c/II Qh c c))*II Qh c c)+(-((j+1:Nat):Int))*(if c=c then 1 else 0)=0;rw[pc,if_pos rfl];lia
    .show 1*(1*P l+(-(P c/II Qh c c))*II Qh c l)+(-((j+1:Nat):Int))*(if l=c then 1 else 0)=0;rw[pz l z b,if_neg ⋯];lia
   .obtain⟨x,hx⟩:=da i hi;exact⟨x,by unfold AA;grind⟩
   .refine(lK k3.1 k.1 k3.2 k.2 λi hi=>?_).symm;obtain⟨x,hx⟩:=da i hi;obtain⟨y,hy⟩:=d2 i hi;obtain⟨z,hz⟩:=d3 i hi;exact⟨x+y+z,by grind⟩
def Pl(xs:List Int):Prop:=Sz xs/\aw xs.length (vf xs)<=240
theorem kx(xs:List Int)(x:Int):aw (xs++[x]).length (vf (xs++[x]))=aw xs.length (vf xs)*x:=by
 rw[Vb,aa8,aw];rw[eZ (g:=vf xs) λl hl=>by rw[bh (by simp;lia),bh hl,aas hl],bh ↑13];simp
theorem qb(ss:List Int)(x:Int):aJ (.lst ((ss++[x]).map .int)) (.int (-1))=M.ok (.int x):=by
 show fW (nW ((ss++[x]).map PV.int) (-1))=_;have e:nW ((ss++[x]).map PV.int) (-1)=some (.int x):=by
  have e1:AW ((ss++[x]).map PV.int).length (-1)=some ss.length:=by
   unfold AW;rw[if_neg ↑12,if_pos (by simp;lia)];congr 1;simp;lia
  unfold nW;rw[e1];simp
 rw[e];rfl
variable{N:Nat}
def yq(hN:N.log2<67108864)(h:x.natAbs<=N):cA (.int x) (.int 4)=M.ok (.int (x*4)):=by
 have a:x.natAbs.log2<67108864:=by
  by_cases z:x.natAbs=0
  .rw[z];decide
  .exact(Zu z).mpr (V9 h (j7 hN))
 rw[cA,aq ⟨a,by decide⟩]
theorem lh{P room:Int}(h:P*room<=240)(hP:0<P)(hx:2<=x)(hr:x<=room):P*x*(room/x)<=240/\1<=room/x/\room/x<=room:=by
 have d:=abh room x;have m:=Vk room (show x≠0 by lia);have a:1<=room/x:=(aaY ⋯).mpr ⋯;refine⟨?_,a,Ys _ ⋯⟩;have:P*(x*(room/x))<=P*room:=U7 ⋯ ⋯;rw[Zp];lia
theorem qh(c d:Int)(hd:1<=d):(c/4/d).natAbs<=c.natAbs+1/\(c/4/d*4+c%4).natAbs<=c.natAbs+6/\(c/4/d*4+c%4)%4=c%4:=by
 have a:(c/4/d).natAbs<=(c/4).natAbs:=by
  rcases Int.le_total 0 (c/4) with h|h
  .have:=Ys d h;have:=WW h (show 0<=d by lia);lia
  .have h1:c/4<=c/4/d:=(aaY ⋯).mpr (by
    have:c/4*d<=c/4*1:=Int.mul_le_mul_of_nonpos_left h ⋯;lia)
   have h2:c/4/d<=0:=by
    have:=Int.ediv_le_ediv (show 0<d by lia) h;simpa using this
   lia
 generalize c/4/d=q at a ⊢;exact⟨by lia,by lia,by lia⟩
def kc.M7{β:Type}{R:β->Prop}{u:af->M Bool}{b:af->M Out}{k:Out->M β}(J:af->Prop)(m:af->Nat){env:af}(h:J env)(H:∀env,J env->(u env=M.ok false)\/(u env=M.ok true/\∃Qj,b env=M.ok (.nx Qj)/\J Qj/\m Qj<m env))(hk:∀Qj,J Qj->kc (k (.nx Qj)) R):kc (M.bind (ji u b env) k) R:=by
 obtain⟨Qj,e,h',_⟩:=mO J m H env h;rw[e,M.aO];exact hk Qj h'
def Pa(x:Int):vf [x] 0=x:=rfl
theorem Fb(c:Int)(hN:(N+100).log2<67108864)(hc:c.natAbs<=N):kc (cZ [.int c,.int 240]) λp=>∃xs:List Int,p=lI xs/\Pl xs:=by
 have m0:=Vk (c/4) (show (240-1:Int)≠0 by decide);have m1:=Vd (c/4) (show (0:Int)<240-1 by decide);obtain⟨r1,r2,r3⟩:=qh c (240-1) ↑12;have c0:=Vk c (show (4:Int)≠0 by decide);have c1:=Vd c (show (0:Int)<4 by decide);unfold cZ c9;have ix0:aJ (.lst [.int (2+c/4%(240-1))]) (.int 0)=M.ok (.int (2+c/4%(240-1))):=rfl;have d1:∀(x:PV)(env:af),fU (aa (λ_=>M.ok x) aj) env=M.ok [x]:=λ_ _=>rfl;have z1:1<=sizeLine:=by decide
 have b:=lh (P:=1) (room:=240) (x:=2+c/4%(240-1)) ↑12 ↑12 ⋯ ⋯;dsimp? [fU,z1,bo (i:=c) (j:=4) ↑12 ↑12,aA (i:=c/4) (j:=240-1) ↑12,jX,ownAt,nX,ix0,bo (i:=240) (j:=2+c/4%(240-1)) ⋯ ⋯,mf,bo (i:=c/4) (j:=240-1) ↑12 ↑12,yq hN (show (c/4/(240-1)).natAbs<=N+100 by lia),aA (i:=c) (j:=4) ↑12];have x2:2<=2+c/4%(240-1)/\2+c/4%(240-1)<=240:=by lia
 generalize 2+c/4%(240-1)=x at *;generalize hr:c/4/(240-1)*4+c%4=rest at *;refine kc.M7 (λenv=>∃(rest room:Int)(ss:List Int),env=[some (.sh (.int rest)),some (.sh (.int 240)),some (.ow (ss.map PV.int)),some (.sh (.int room))]/\1<=ss.length/\(ss.length:Int)+rest%4<=4/\rest.natAbs<=N+8*ss.length/\(∀x∈ss,2<=x/\x<=240)/\1<=room/\room<=240/\0<aw ss.length (vf ss)/\aw ss.length (vf ss)*room<=240) (λenv=>match env with
  | some (.sh (.int r))::_=>(r%4).toNat
  | _=>0) ⟨rest,240/x,[x],rfl,UZ _,by simp;lia,by simp;lia,λy hy=>by rw[Vr.mp hy];lia,by lia,by lia,by simp[aw,Pa];lia,by simpa [aw,Pa] using b.1⟩ ?_ ?_
 .rintro env ⟨rest,room,ss,rfl,l1,l2,l3,hx,p1,p2,p3,p4⟩;have q0:=Vk rest (show (4:Int)≠0 by decide);have q1:=Vd rest (show (0:Int)<4 by decide)
  by_cases h1:0<rest%4
  .by_cases h2:1<room
   .have n0:=Vk (rest/4) (show room-1≠0 by lia);have n1:=Vd (rest/4) (show 0<room-1 by lia);obtain⟨s1,s2,s3⟩:=qh rest (room-1) ⋯;have b:=lh (P:=aw ss.length (vf ss)) (room:=room) (x:=2+rest/4%(room-1)) p4 p3 ⋯ ⋯;have hk:(ss.map PV.int).length<1000:=by simp;lia
    refine .inr ⟨by dsimp? [aA (i:=rest) (j:=4) ↑12,h1,h2,decide_true],[some (.sh (.int (rest/4/(room-1)*4+rest%4-1))),some (.sh (.int 240)),some (.ow ((ss++[2+rest/4%(room-1)]).map PV.int)),some (.sh (.int (room/(2+rest/4%(room-1)))))],?_,⟨_,_,ss++[2+rest/4%(room-1)],rfl,by simp,?_,?_,λy hy=>?_,b.2.1,by lia,?_,?_⟩,?_⟩
    .dsimp? [je,ownAt,bo (i:=rest) (j:=4) ↑12 ↑12,aA (i:=rest/4) (j:=room-1) ⋯,jd hk,kq,bo (i:=rest/4) (j:=room-1) ⋯ ⋯,yq hN (show (rest/4/(room-1)).natAbs<=N+100 by lia),aA (i:=rest) (j:=4) ↑12,jX,nX,qb,bo (i:=room) (j:=2+rest/4%(room-1)) ⋯ ⋯,mf]
    .simp;lia
    .simp;lia
    .rcases V7.mp hy with z|z
     .exact hx y z
     .rw[Vr.mp z];lia
    .rw[kx];exact abr p3 ⋯
    .rw[kx];exact b.1
    .show ((rest/4/(room-1)*4+rest%4-1)%4).toNat<(rest%4).toNat;lia
   .exact .inl (by dsimp? [aA (i:=rest) (j:=4) ↑12,h1,h2,decide_true,decide_false])
  .exact .inl (by dsimp? [aA (i:=rest) (j:=4) ↑12,h1,decide_false])
 .rintro env ⟨rest,room,ss,rfl,l1,l2,l3,hx,p1,p2,p3,p4⟩;have q0:=Vk rest (show (4:Int)≠0 by decide);dsimp? [];refine⟨_,rfl,ss,rfl,HB l1 ⋯ λx h=>by have:=hx x h;lia,?_⟩;have:aw ss.length (vf ss)*1<=aw ss.length (vf ss)*room:=U7 p1 ⋯;lia
theorem AM(c:Int)(hN:(N+100).log2<67108864)(hc:c.natAbs<=N):kc (gv [.int c,.int 240]) λp=>∃xs:List Int,p=lI xs/\Pl xs:=by
 unfold gv gB;have m2:=aA (i:=c) (j:=2) ↑12
 by_cases h:c%2=1
 .obtain⟨_,ed,xs,rfl,hx⟩:=Fb (c/2) hN ⋯;dsimp? [m2,h,decide_true,bo (i:=c) (j:=2) ↑12 ↑12,ed];exact⟨_,rfl,xs,rfl,hx⟩
 .obtain⟨e1,p1,p2⟩:=vi c 1 ↑12;obtain⟨n,hn⟩:=Wh (show 0<=1+mx c 1%4 by lia);have n1:1<=n/\n<=4:=by lia
  dsimp? [m2,h,decide_false,d_,e1,aA (i:=mx c 1) (j:=4) ↑12,hn,dz (n:=(n:Int)) ⋯ ⋯,VE];refine kc.loop (xs:=Vc n) (inj:=λ(i:Nat)=>.int (i:Int)) (λzs env=>∃(room:Int)(ss:List Int)(y4 y5:Option SV),env=[some (.sh (.int c)),some (.sh (.int 240)),some (.ow (ss.map PV.int)),some (.sh (.int room)),y4,y5]/\ss.length+zs.length<=n/\(1<=ss.length\/(zs.length=n/\room=240))/\(∀z∈zs,z<n)/\(∀x∈ss,2<=x/\x<=240)/\1<=room/\room<=240/\0<aw ss.length (vf ss)/\aw ss.length (vf ss)*room<=240) ⟨240,[],none,none,rfl,by simp,.inr ⟨by simp,rfl⟩,λz hz=>V3.mp hz,(λ_ h=>nomatch h),by decide,by decide,by decide,by decide⟩ ?_ ?_
  .rintro i r env ⟨room,ss,y4,y5,rfl,l1,l2,hz,hx,q1,q2,q3,q4⟩;have hi:=hz i VA;simp only[Vw] at l1 l2
   by_cases h2:1<room
   .obtain⟨ea,a1,a2⟩:=vi c (20+(i:Int)) ⋯;obtain⟨eb,b1,b2⟩:=vi c (30+(i:Int)) ⋯;generalize mx c (20+(i:Int))=a at *;generalize mx c (30+(i:Int))=b at *;obtain⟨t,ht,et⟩:=pick [12,12,12,360] a 4 rfl ↑12;rw[show ((4:Nat):Int)=4 from rfl] at et;simp only[Vg,Xh] at et;have ht':12<=t:=by simp at ht;lia
    obtain⟨k,ek,hk⟩:∃k:Int,tq (λi j=>if j<i then j else i) [.int room,.int t]=M.ok (.int k)/\2<=k/\k<=room:=⟨if t<room then t else room,rfl,by split<;>lia,by split<;>lia⟩
    have m0:=Vk b (show k-1≠0 by lia);have m1:=Vd b (show 0<k-1 by lia);have bb:=lh (P:=aw ss.length (vf ss)) (room:=room) (x:=2+b%(k-1)) q4 q3 ⋯ ⋯;have hl:(ss.map PV.int).length<1000:=by simp;lia
    dsimp? [bA,h2,decide_true,ea,aA (i:=a) (j:=4) ↑12];rw[et];dsimp? [ek,eb,aA (i:=b) (j:=k-1) ⋯,je,ownAt,jd hl,kq,jX,nX,qb,bo (i:=room) (j:=2+b%(k-1)) ⋯ ⋯,mf];refine⟨_,rfl,_,ss++[2+b%(k-1)],_,_,rfl,by simp;lia,.inl ↑13,λz h=>hz z (Vm _ h),λy hy=>?_,bb.2.1,by lia,by rw[kx];exact abr q3 ⋯,by rw[kx];exact bb.1⟩;rcases V7.mp hy with z|z
    .exact hx y z
    .rw[Vr.mp z];lia
   .dsimp? [bA,h2,decide_false];refine⟨_,rfl,room,ss,_,_,rfl,by lia,?_,λz h=>hz z (Vm _ h),hx,q1,q2,q3,q4⟩;rcases l2 with z|z
    .exact .inl z
    .lia
  .rintro env ⟨room,ss,y4,y5,rfl,l1,l2,hz,hx,q1,q2,q3,q4⟩;refine⟨_,rfl,ss,rfl,HB ?_ (by simp at l1;lia) λx h=>by have:=hx x h;lia,?_⟩
   .rcases l2 with z|z
    .exact z
    .simp at z;lia
   .have:aw ss.length (vf ss)*1<=aw ss.length (vf ss)*room:=U7 q1 ⋯;lia
def uh(k:List Int):Aa (tI k)=some k:=tH k
def Cu(Qk:KD)(k:List Int):(md Qk k).isSome=true ↔ k∈Qk.map (·.1):=by
 rw[<- qA,List.any_eq_true];constructor
 .rintro⟨x,h,e⟩;exact VI.mpr ⟨x,h,of_decide_eq_true e⟩
 .intro h;obtain⟨x,h,e⟩:=VI.mp h;exact⟨x,h,decide_eq_true e⟩
def ot(l:List (List Int)):KD:=l.map λk=>(k,.bl true)
def BY(l:List (List Int)):(ot l).map (·.1)=l:=by unfold ot;rw[VB];exact aam _
def sQ(l:List (List Int)):pT (ot l)=l.map tI:=by unfold pT ot;rw[VB];rfl
def EB(l:List (List Int))(k:List Int):(md (ot l) k).isSome=decide (k∈l):=by
 rw[ZA,Cu,BY,decide_eq_true_eq]
def uT(n:Bool)(l:List (List Int))(k:List Int):ND n (ot l) (tI k)=M.ok (.bl (n ^^ decide (k∈l))):=by
 unfold ND;rw[uh];show M.ok (PV.bl (n ^^ (md (ot l) k).isSome))=_;rw[EB]
def Bz{l:List (List Int)}{k:List Int}(h:k ∉ l):putD (ot l) k (.bl true)=ot (l++[k]):=by
 unfold putD;rw[qA,EB,decide_eq_false h,if_neg ↑13];unfold ot;rw[WH];rfl
theorem FA{env:af}{d:List Int}{a b:Int}{f:af->M PV}(h:ownAt i env=M.ok ((d++[a]).map .int))(hf:f env=M.ok (.int b)):GS i f env=M.ok (.nx (env.set i (some (.ow ((d++[a+b]).map .int))))):=by
 have e1:AW ((d++[a]).map PV.int).length (-1)=some d.length:=by
  unfold AW;rw[if_neg ↑12,if_pos (by simp;lia)];congr 1;simp;lia
 have e2:nW ((d++[a]).map PV.int) (-1)=some (.int a):=by
  unfold nW;rw[e1];simp
 unfold GS;rw[h,M.aO,e2];show M.bind (M.ok (PV.int a)) _=_;rw[M.aO];show M.bind (M.ok a) _=_;rw[M.aO,hf,M.aO];show M.bind (M.ok b) _=_;rw[M.aO];unfold BS;rw[e1];simp
noncomputable abbrev zr(Qf:List Int):List Int:=UY Qf.length 0
noncomputable def sT(Qf:List Int)(O:List (List Int))(r:List Int)(t:Nat):List (List Int):=(Vc t).flatMap λj=>O.map λA=>sm Qf A (oV (sm Qf) (zr Qf) r (j+1))
def lR(O:List (List Int))(r:List Int)(t:Nat):sT Qf O r (t+1)=sT Qf O r t++O.map λA=>sm Qf A (oV (sm Qf) (zr Qf) r (t+1)):=by
 unfold sT;rw[YG,ZO];simp
def E1{O:List (List Int)}{r B:List Int}{t:Nat}:B∈sT Qf O r t ↔ ∃A j,A∈O/\j<t/\B=sm Qf A (oV (sm Qf) (zr Qf) r (j+1)):=by
 unfold sT;rw[acE];constructor
 .rintro⟨j,hj,h⟩;obtain⟨A,hA,rfl⟩:=VI.mp h;exact⟨A,j,hA,V3.mp hj,rfl⟩
 .rintro⟨A,j,hA,hj,rfl⟩;exact⟨j,V3.mpr hj,VI.mpr ⟨A,hA,rfl⟩⟩
theorem oF(O:List (List Int))(r:List Int):∀t,(sT Qf O r t).length=t*O.length
 | 0=>by simp[sT]
 |t+1=>by rw[lR,Vb,oF O r t,U0,Yo]
noncomputable def Dl(Qf:List Int)(Ls Qh:List (List Int)):Nat->List (List Int)
 | 0=>[zr Qf]
 |c+1=>Dl Qf Ls Qh c++sT Qf (Dl Qf Ls Qh c) (Ls.getD c []) ((II Qh c c).toNat-1)
theorem JU(Q:jO ns Qf QA Ls T Qh){A B D:List Int}(a:Rc Qf Ls c A)(b:Rc Qf Ls c B)(k:Kp Qf D)(h:∀i,i<Qf.length->vf Qf i∣vf D i-(vf A i-vf B i)):Rc Qf Ls c D:=by
 obtain⟨_,P,zf,led⟩:=a;obtain⟨_,P',zf',led'⟩:=b;refine⟨k,λl=>1*P l+(-1)*P' l,λl x y=>?_,Led.mix (a:=1) (b:=-1) led led' (λi hi=>?_) λl hl=>rfl⟩
 .show 1*P l+(-1)*P' l=0;rw[zf l x y,zf' l x y];rfl
 .obtain⟨x,hx⟩:=h i hi;exact⟨x,by lia⟩
def oE(Q:jO ns Qf QA Ls T Qh)(hc:c<Ls.length)(j:Nat):Kp Qf (oV (sm Qf) (zr Qf) (Ls.getD c []) j)/\∀i,i<Qf.length->vf Qf i∣vf (oV (sm Qf) (zr Qf) (Ls.getD c []) j) i-(j:Int)*vf (Ls.getD c []) i:=kd Q.S (Q.kp hc) j
theorem iM(Q:jO ns Qf QA Ls T Qh)(hp:aw Qf.length (vf Qf)<=240):∀c,c<=Ls.length->(Dl Qf Ls Qh c).Nodup/\(∀B,B∈Dl Qf Ls Qh c ↔ Rc Qf Ls c B)/\((Dl Qf Ls Qh c).length:Int)=aw c (λj=>II Qh j j)
 | 0,_=>⟨by simp[Dl],λB=>by rw[Rc.zero Q];simp[Dl],rfl⟩
 | c+1,h=>by
  have hc:c<Ls.length:=h;obtain⟨i1,i2,i3⟩:=iM Q hp c ⋯;have ip:=Q.I.pos c hc;obtain⟨m,hm⟩:=Wh (show 0<=II Qh c c-1 by lia);have TF:(m:Int)+1=II Qh c c:=by lia
  have em:(II Qh c c).toNat-1=m:=by lia
  have kk:∀A∈Dl Qf Ls Qh c,Kp Qf A:=λA hA=>((i2 A).mp hA).1;have step:∀A B,A∈Dl Qf Ls Qh c->B∈Dl Qf Ls Qh c->∀j d,d+j<=m->∀s1 s2,Kp Qf s1->Kp Qf s2->(∀i,i<Qf.length->vf Qf i∣vf s1 i-(j:Int)*vf (Ls.getD c []) i)->(∀i,i<Qf.length->vf Qf i∣vf s2 i-((d+j:Nat):Int)*vf (Ls.getD c []) i)->sm Qf A s1=sm Qf B s2->d=0/\A=B:=λA B hA hB j d hd s1 s2 k1 k2 e1 e2 eq=>by
   obtain⟨_,f1⟩:=dI Q.S (kk A hA).1 k1.1;obtain⟨_,f2⟩:=dI Q.S (kk B hB).1 k2.1;rw[eq] at f1;cases d with
   | zero =>
    refine⟨rfl,lK (kk A hA).1 (kk B hB).1 (kk A hA).2 (kk B hB).2 λi hi=>?_⟩;obtain⟨x1,y1⟩:=f1 i hi;obtain⟨x2,y2⟩:=f2 i hi;obtain⟨x3,y3⟩:=e1 i hi;obtain⟨x4,y4⟩:=e2 i hi;rw[Y4] at y4;exact⟨-x1+x2-x3+x4,by grind⟩
   | succ d =>
    exfalso;obtain⟨kh,dh⟩:=kB Q.S (Q.kp hc) d;refine Rc.before Q hc (j:=d) ⋯ (JU Q ((i2 A).mp hA) ((i2 B).mp hB) kh λi hi=>?_);obtain⟨x1,y1⟩:=f1 i hi;obtain⟨x2,y2⟩:=f2 i hi;obtain⟨x3,y3⟩:=e1 i hi;obtain⟨x4,y4⟩:=e2 i hi;obtain⟨x5,y5⟩:=dh i hi;have:((d+1+j:Nat):Int)=(d:Int)+1+(j:Int):=by lia
    rw[this] at y4;exact⟨x5+x1-x2+x3-x4,by grind⟩
  have zs:∀A∈Dl Qf Ls Qh c,sm Qf A (oV (sm Qf) (zr Qf) (Ls.getD c []) 0)=A:=λA hA=>by
   obtain⟨k0,d0⟩:=oE Q hc 0;obtain⟨ks,f⟩:=dI Q.S (kk A hA).1 k0.1;refine lK ks.1 (kk A hA).1 ks.2 (kk A hA).2 λi hi=>?_;obtain⟨x,y⟩:=f i hi;obtain⟨u,v⟩:=d0 i hi;exact⟨x+u,by grind⟩
  have form:Dl Qf Ls Qh c++sT Qf (Dl Qf Ls Qh c) (Ls.getD c []) m=(Vc (m+1)).flatMap λj=>(Dl Qf Ls Qh c).map λA=>sm Qf A (oV (sm Qf) (zr Qf) (Ls.getD c []) j):=by
   rw[List.range_succ_eq_map,List.flatMap_cons,List.flatMap_map];congr 1;exact((aby zs).trans (aam _)).symm
  refine⟨?_,λB=>?_,?_⟩
  .show (Dl Qf Ls Qh c++sT Qf (Dl Qf Ls Qh c) (Ls.getD c []) ((II Qh c c).toNat-1)).Nodup;rw[em,form];unfold List.Nodup;rw[abi];refine⟨λj hj=>?_,?_⟩
   .rw[XG];refine Wz (λ{A B} hA hB ne eq=>ne ?_) i1;obtain⟨k1,e1⟩:=oE Q hc j;have:=V3.mp hj;exact(step A B hA hB j 0 ⋯ _ _ k1 k1 e1 (by rwa[Y4]) eq).2
   .refine Wz (λ{j j'} hj hj' lt x hx y hy eq=>?_) Y7;obtain⟨A,hA,rfl⟩:=VI.mp hx;obtain⟨B,hB,rfl⟩:=VI.mp hy;obtain⟨k1,e1⟩:=oE Q hc j;obtain⟨k2,e2⟩:=oE Q hc j';have:=V3.mp hj';have:=(step A B hA hB j (j'-j) ⋯ _ _ k1 k2 e1 (by rwa[Nat.sub_add_cancel (Xg lt)]) eq).1;lia
  .show B∈Dl Qf Ls Qh c++sT Qf (Dl Qf Ls Qh c) (Ls.getD c []) ((II Qh c c).toNat-1) ↔ _;rw[em,V7,E1,<- Rc.next Q hc TF B];unfold Nx;rw[i2];constructor
   .rintro(h|⟨A,j,hA,hj,e⟩)
    .exact .inl h
    .exact .inr ⟨A,j,(i2 A).mp hA,hj,e⟩
   .rintro(h|⟨A,j,hA,hj,e⟩)
    .exact .inl h
    .exact .inr ⟨A,j,(i2 A).mpr hA,hj,e⟩
  .show ((Dl Qf Ls Qh c++sT Qf (Dl Qf Ls Qh c) (Ls.getD c []) ((II Qh c c).toNat-1)).length:Int)=aw c (λj=>II Qh j j)*II Qh c c;rw[em,Vb,oF,<- i3,<- TF];rw[Int.natCast_add,YF]
   grind
theorem CK {f : Nat -> Int}{m : Nat}(h : ∀j,j < m -> 0 < f j) : ∀k c,c + k=m -> aw c f <= aw m f
  | 0, c, e => by obtain rfl : c=m := by lia
                  exact acL _
  | k + 1,c,e => by
    have a := CK h k (c + 1) ⋯;have b := cY (f := f) (m := c) λj hj => h j ⋯;have d := h c ⋯;rw [aw] at a;have : aw c f * 1 <= aw c f * f c := U7 ⋯ ⋯;lia
theorem qe(Q:jO ns Qf QA Ls T Qh)(hp:aw Qf.length (vf Qf)<=240):∀c,c<=Ls.length->0<aw c (λj=>II Qh j j)/\aw c (λj=>II Qh j j)<=240:=λc hc=>by
 have a:=CK (f:=λj=>II Qh j j) (m:=Ls.length) Q.I.pos (Ls.length-c) c ⋯;have b:=cY (f:=λj=>II Qh j j) (m:=c) λj hj=>Q.I.pos j ⋯;have d:=cY (f:=aZ (vf Qf) (DD T)) (m:=Qf.length) λj hj=>(Q.st.gd.pos hj).1;have e:=Q.pr;have g:=cY (f:=λj=>II Qh j j) (m:=Ls.length) Q.I.pos;refine⟨b,?_⟩;have:aw Ls.length (λj=>II Qh j j)*1<=aw Ls.length (λj=>II Qh j j)*aw Qf.length (aZ (vf Qf) (DD T)):=U7 ⋯ ⋯;lia
def P4{u:af->M Bool}{b:af->M Out}{k:Out->M Out}{P:af->Prop}(J:af->Prop)(m:af->Nat){env:af}(h:J env)(H:∀env,J env->(u env=M.ok false)\/(u env=M.ok true/\∃Qj,b env=M.ok (.nx Qj)/\J Qj/\m Qj<m env))(hk:∀Qj,J Qj->u Qj=M.ok false->∃e,k (.nx Qj)=M.ok (.nx e)/\P e):∃e,M.bind (ji u b env) k=M.ok (.nx e)/\P e:=by
 obtain⟨Qj,e,h',h2⟩:=mO J m H env h;rw[e,M.aO];exact hk Qj h' h2
def Pc{set:PV->af->M af}{body:af->M Out}{inj:α->PV}{k:Out->M Out}{P:af->Prop}(xs:List α)(J:List α->af->Prop){env:af}(h:J xs env)(H:∀a r env,J (a::r) env->∃e',set (inj a) env=M.ok e'/\∃Qj,body e'=M.ok (.nx Qj)/\J r Qj)(hk:∀Qj,J [] Qj->∃e,k (.nx Qj)=M.ok (.nx e)/\P e):∃e,M.bind (jW set body (xs.map inj) env) k=M.ok (.nx e)/\P e:=by
 obtain⟨Qj,e,h'⟩:=pM J (λa r env j=>by obtain⟨e',h1,Qj,h2⟩:=H a r env j;exact⟨e',Qj,h1,h2⟩) xs env h;rw[e,M.aO];exact hk Qj h'
theorem yx{O D:List (List Int)}{r:List Int}{a:Nat}:∀k,(D++sT Qf O r (a+k)).Nodup->(D++sT Qf O r a).Nodup
 | 0,h=>h
 | k+1,h=>by
  rw[show a+(k+1)=(a+k)+1 by lia,lR,<- VG] at h;exact yx k (Y8.mp h).1
theorem Cv(Q:jO ns Qf QA Ls T Qh)(hp:aw Qf.length (vf Qf)<=240):gC [.lst (Ls.map tI),lI Qf]=M.ok (.lst [.rf (ot (Dl Qf Ls Qh Ls.length)),lI (rh Qh)]):=by
 have S:=Q.S;have l6:=S.h6;have li:=Q.I.len;have sl:(rh Qh).length=Ls.length:=l_.trans li;have m8:=Q.m8;have k1:bC (bA 0) none (λ_=>M.ok (.int 0)) (Qf.map PV.int) [none]=M.ok (Qf.map λ_=>.int 0):=eM (inj:=PV.int) Qf λx hx=>rfl;have z1:Qf.length<=sizeLine:=aX ⋯;unfold gC gD;dsimp? [U0,aq z1,k1,qp,show PV.tup ((UY Qf.length 0).map PV.int)=tI (zr Qf) from rfl,IS,uh,d_];generalize he0:some (SV.sh (.lst (Ls.map tI)))=e0;generalize he1:some (SV.sh (lI Qf))=e1;generalize Uq:some (SV.sh (tI (zr Qf)))=e2;refine dY Ls (λrs env=>∃(c:Nat)(y5 y6 y7 y8 y9 SA:Option SV),rs=Ls.drop c/\c<=Ls.length/\env=[e0,e1,e2,some (.dw (ot (Dl Qf Ls Qh c))),some (.ow (((rh Qh).take c).map PV.int)),y5,y6,y7,y8,y9,SA]) ⟨0,none,none,none,none,none,none,rfl,Va _,rfl⟩ ?_ ?_
 .rintro r rs env ⟨c,y5,y6,y7,y8,y9,SA,hd,SN,rfl⟩;have hc:c<Ls.length:=by
   rcases VH c Ls.length with h|h
   .exact h
   .rw[X5 h] at hd;cases hd
  have hr:r=Ls.getD c []/\rs=Ls.drop (c+1):=by
   rw[WX hc] at hd;injection hd with a b
   exact⟨by rw[a,Ve,UW hc];rfl,b⟩
  obtain⟨rfl,rfl⟩:=hr;obtain⟨d1,d2,d3⟩:=iM Q hp c SN;obtain⟨f1,_,f3⟩:=iM Q hp (c+1) hc;have ip:=Q.I.pos c hc;obtain⟨m,hm⟩:=Wh (show 0<=II Qh c c-1 by lia);have TF:(m:Int)+1=II Qh c c:=by lia
  have eD:Dl Qf Ls Qh (c+1)=Dl Qf Ls Qh c++sT Qf (Dl Qf Ls Qh c) (Ls.getD c []) m:=by rw[show m=(II Qh c c).toNat-1 by lia];rfl
  obtain⟨b1,b2⟩:=qe Q hp (c+1) hc;have es:(rh Qh).take (c+1)=(rh Qh).take c++[(m:Int)+1]:=by
   have SO:c<(rh Qh).length:=by lia
   rw[List.take_succ_eq_append_getElem SO];congr 2;rw[<- bh,xN ⋯,TF]
  have lt:(((rh Qh).take c).map PV.int).length<1000:=by rw[U0,Zd];lia
  have nb:∀j,j<m->El (sm Qf) (Ls.getD c []) j ∉ Dl Qf Ls Qh c:=λj hj h=>Rc.before Q hc (j:=j) ⋯ ((d2 _).mp h);have yb:=(d2 _).mpr (Rc.at_ Q hc TF);have ln:=congrArg WJ eD;rw[Vb,oF] at ln;rw[eD] at f1;have l1:0<(Dl Qf Ls Qh c).length:=List.length_pos_of_mem yb;have ml:m*1<=m*(Dl Qf Ls Qh c).length:=XR _ l1
  suffices h:∃e,_=M.ok (Out.nx e)/\∃y6 y7 y8 y9 SA,e=[e0,e1,e2,some (.dw (ot (Dl Qf Ls Qh (c+1)))),some (.ow (((rh Qh).take (c+1)).map PV.int)),some (.sh (tI (Ls.getD c []))),y6,y7,y8,y9,SA] by
   obtain⟨e,h,y6,y7,y8,y9,SA,rfl⟩:=h;exact⟨[e0,e1,e2,some (.dw (ot (Dl Qf Ls Qh c))),some (.ow (((rh Qh).take c).map PV.int)),some (.sh (tI (Ls.getD c []))),_,_,_,_,_],_,rfl,h,c+1,_,_,_,_,_,_,rfl,hc,rfl⟩
  rw[es,eD];have ll:(Dl Qf Ls Qh c).length+m*(Dl Qf Ls Qh c).length<=240:=by lia
  clear ln f3 d3 es eD b1 b2 d2;generalize Dl Qf Ls Qh c=D at *;generalize Ls.getD c []=r at *;generalize (rh Qh).take c=pre at *;dsimp? [je,ownAt,jd lt,show (pre.map PV.int++[PV.int 1])=(pre++[((0:Nat):Int)+1]).map PV.int by rw[WH];rfl];refine P4 (λenv=>∃j,j<=m/\env=[e0,e1,e2,some (.dw (ot D)),some (.ow ((pre++[(j:Int)+1]).map PV.int)),some (.sh (tI r)),some (.sh (tI (El (sm Qf) r j))),y7,y8,y9,SA])
   (λenv=>match env with
    | [_,_,_,_,some (.ow xs),_,_,_,_,_,_]=>(match xs.getLast? with|some (.int a)=>m+1-a.toNat|_=>0)
    | _=>0) ⟨0,Va _,rfl⟩ (λenv ⟨j,hj,e⟩=>?_) λenv ⟨j,hj,e⟩ ef=>?_
  .subst e;rcases aac hj with lj|rfl
   .refine .inr ⟨by dsimp? [Lz,lX,uT,decide_eq_false (nb j lj)];rfl,[e0,e1,e2,some (.dw (ot D)),some (.ow ((pre++[((j+1:Nat):Int)+1]).map PV.int)),some (.sh (tI r)),some (.sh (tI (El (sm Qf) r (j+1)))),y7,y8,y9,SA],?_,⟨j+1,lj,rfl⟩,by simp;lia⟩;subst he1;dsimp? [ub S];rw[FA (d:=pre) (a:=(j:Int)+1) (b:=1) rfl rfl];rfl
   .exact .inl (by dsimp? [Lz,lX,uT,decide_eq_true yb];rfl)
  subst e;have jm:j=m:=by
   rcases aac hj with lj|e
   .exfalso;revert ef;dsimp? [Lz,lX,uT,decide_eq_false (nb j lj)];intro h;cases h
   .exact e
  subst jm;have rg:=dz (n:=(j:Int)) ⋯ ⋯;rw[VE] at rg;subst Uq;dsimp? [xp,lX,sQ,jX,ownAt,qb,mf,show ((j:Int)+1-1)=(j:Int) by lia,rg];refine Pc (Vc j) (λts env=>∃(t:Nat)(y9 SA:Option SV),t+ts.length=j/\env=[e0,e1,some (.sh (tI (zr Qf))),some (.dw (ot (D++sT Qf D r t))),some (.ow ((pre++[(j:Int)+1]).map PV.int)),some (.sh (tI r)),some (.sh (tI (El (sm Qf) r j))),some (.sh (.lst (D.map tI))),some (.sh (tI (oV (sm Qf) (zr Qf) r t))),y9,SA]) ⟨0,y9,SA,by simp,by simp[sT];rfl⟩ (λi ts env ⟨t,y9,SA,ht,e⟩=>?_) λenv ⟨t,y9',y10',ht,e⟩=>?_
  .subst e;rw[Vw] at ht;refine⟨_,rfl,?_⟩;have nd:=yx (D:=D) (O:=D) (r:=r) (a:=t+1) (j-(t+1)) (by rwa[show t+1+(j-(t+1))=j by lia]);have g2:(t+1)*D.length<=j*D.length:=Xb _ ⋯;subst he1;dsimp? [ub S,show sm Qf (oV (sm Qf) (zr Qf) r t) r=oV (sm Qf) (zr Qf) r (t+1) from rfl];refine Pc D (λos env=>∃(d:List (List Int))(y:Option SV),D=d++os/\env=[e0,some (.sh (lI Qf)),some (.sh (tI (zr Qf))),some (.dw (ot (D++sT Qf D r t++d.map λA=>sm Qf A (oV (sm Qf) (zr Qf) r (t+1))))),some (.ow ((pre++[(j:Int)+1]).map PV.int)),some (.sh (tI r)),some (.sh (tI (El (sm Qf) r j))),some (.sh (.lst (D.map tI))),some (.sh (tI (oV (sm Qf) (zr Qf) r (t+1)))),some (.sh (.int (i:Int))),y]) ⟨[],SA,rfl,by simp⟩ (λA os env ⟨d,y,hd,e⟩=>?_) λenv ⟨d,y,hd,e⟩=>?_
   .subst e;refine⟨_,rfl,_,?_,d++[A],some (.sh (tI A)),by rw[hd];simp,rfl⟩;have e3:D.map (λA=>sm Qf A (oV (sm Qf) (zr Qf) r (t+1)))=(d++[A]).map (λA=>sm Qf A (oV (sm Qf) (zr Qf) r (t+1)))++os.map λA=>sm Qf A (oV (sm Qf) (zr Qf) r (t+1)):=by rw[<- WH];exact congrArg (List.map _) (hd.trans ↑13)
    have nd2:=nd;rw[lR,e3,WH,<- VG,<- VG,<- VG] at nd2;have ni:sm Qf A (oV (sm Qf) (zr Qf) r (t+1)) ∉ D++sT Qf D r t++d.map λA=>sm Qf A (oV (sm Qf) (zr Qf) r (t+1)):=λh=>(Y8.mp (Y8.mp nd2).1).2.2 _ h _ VA rfl;have dl:=congrArg WJ hd;rw[Vb,Vw] at dl;rw[Yo] at g2;have lz:(ot (D++sT Qf D r t++d.map λA=>sm Qf A (oV (sm Qf) (zr Qf) r (t+1)))).length<sizeLine:=by
     unfold ot;rw[U0,Vb,Vb,oF,U0];exact kG ⋯
    dsimp? [EN,lX,ub S,uh,lz,Bz ni];simp
   .subst e;rw[VT] at hd;subst hd;refine⟨_,rfl,t+1,some (.sh (.int (i:Int))),y,by lia,?_⟩;rw[lR,<- VG]
  .subst e;obtain rfl:t=j:=by simpa using ht
   exact⟨_,rfl,_,_,_,_,_,rfl⟩
 .rintro env ⟨c,y5,y6,y7,y8,y9,SA,hd,hc,rfl⟩;have e:c=Ls.length:=by
   have:=congrArg WJ hd;rw[YD,V2] at this;lia
  subst e;dsimp? [Nv,Om];rw[aaZ ⋯];rfl
def yf(g:af->M (List PV))(env:af):Pk g (.nx env)=g env:=Vz rfl rfl
section
variable{S:List (List Int)}
theorem BC{c:Int}(h:Wl c<=k)(hk:k+7<=67108864):(c.natAbs+100).log2<67108864:=by
 have a:c.natAbs<2^k:=by
  by_cases z:c=0
  .subst z;exact WV k
  .have e:Wl c=c.natAbs.log2+1:=by
    unfold Wl;rw[if_neg (by simpa using z)]
   rw[e] at h;exact(Zu ⋯).mp h
 have b:c.natAbs+100<2^(k+7):=by
  rw[acK];have:=WV k;lia
 have d:=(Zu (show c.natAbs+100≠0 by lia)).mpr b;lia
theorem mV(ns:List Int)(hb:∀i∈ns,Wl i<=1048576)(k:Nat):∃c,cq [.jN (ns.map PV.int),.int (k:Int)]=M.ok (.int c)/\Wl c<=1048576:=by
 unfold cq h9
 by_cases h:k<ns.length
 .refine⟨ns[k],?_,hb _ (VP h)⟩;have h':(k:Int)<((ns.length:Nat):Int):=by lia
  have e:=bu (p:=.jN (ns.map PV.int)) (xs:=ns.map PV.int) (j:=k) (x:=.int ns[k]) rfl (by rw[Vu,UW h];rfl);dsimp? [U0,h',decide_true,e]
 .refine⟨0,?_,by decide⟩;have h':¬ (k:Int)<((ns.length:Nat):Int):=by lia
  dsimp? [U0,h',decide_false]
theorem qF(S:Sz Qf)(c k:Int)(hk:0<=k/\k<=9):kc (dr [.int c,.int k,lI Qf]) λp=>∃xs:List Int,p=tI xs/\Kp Qf xs:=by
 have l6:=S.h6;have k1:bC (dj 0 1) none (ai cD (ah aC (aa (ae 2) (aa (ai bU (ai bU (ai cA (λ_=>M.ok (.int 10)) (ae 3)) (λ_=>M.ok (.int 200))) (ae 0)) aj))) (ae 1)) (Qf.zipIdx.map λz=>.tup [.int (z.2:Int),.int z.1]) [none,none,some (.sh (.int c)),some (.sh (.int k))]=M.ok (Qf.zipIdx.map λz=>.int (mx c (10*k+200+(z.2:Int))%z.1)):=by
  refine jQ (p:=λz:Int×Nat=>PV.int (z.2:Int)) (q:=λz:Int×Nat=>PV.int z.1) Qf.zipIdx λz hz=>?_;have h1:=S.hx z.1 (Yl hz);have h2:=xI hz;dsimp? [bI (i:=10) (j:=k) (k:=31) (l:=31) ↑12 ⋯,(vi c (10*k+200+(z.2:Int)) ⋯).1,aA (i:=mx c (10*k+200+(z.2:Int))) (j:=z.1) ⋯]
 have z1:Qf.zipIdx.length<=sizeLine:=by rw[W4];exact aX ⋯
 unfold dr dy;dsimp? [JJ,U0,aq z1,k1];refine⟨_,rfl,Qf.zipIdx.map λz=>mx c (10*k+200+(z.2:Int))%z.1,by rw[tI,VB];rfl,by simp,λi hi=>?_⟩;have h1:=S.hx Qf[i] (VP hi);rw[bh (by simpa using hi),bh hi];simp;exact⟨Vk _ ⋯,Vd _ ⋯⟩
theorem yZ{xs:List Int}(hx:∀x∈xs,0<x/\x<2^60):∀c,c<=xs.length->0<aw c (vf xs)/\aw c (vf xs)<2^(60*c+1)
 | 0,_=>⟨show (0:Int)<1 by decide,show (1:Int)<2^1 by decide⟩
 | c+1,h=>by
  obtain⟨a,b⟩:=yZ hx c ⋯;have q:=hx (vf xs c) (by rw[bh ⋯];exact VP _);show 0<aw c (vf xs)*vf xs c/\aw c (vf xs)*vf xs c<_;refine⟨abr a q.1,?_⟩;have e:(2:Int)^(60*(c+1)+1)=2^(60*c+1)*2^60:=by rw[show 60*(c+1)+1=60*c+1+60 by lia,Int.pow_add]
  rw[e];exact abS (ZW b q.1) (U7 ⋯ (X6 (Int.lt_trans a b)))
theorem CQ{a:Int}(h:0<a/\a<2^k):a.natAbs<2^k:=by
 have:(a.natAbs:Int)<((2^k:Nat):Int):=by
  rw[Int.natAbs_of_nonneg ⋯];push_cast;exact h.2
 exact Int.ofNat_lt.mp this
theorem pZ(hl:xs.length<=8)(hx:∀x∈xs,0<x/\x<2^60):gG [tI xs]=M.ok (.int (aw xs.length (vf xs))):=by
 refine kc.eq ?_;unfold gG gu;dsimp? [];refine kc.loop (xs:=xs) (inj:=PV.int) (λzs env=>∃(c:Nat)(y:Option SV),env=[some (.sh (tI xs)),some (.sh (.int (aw c (vf xs)))),y]/\zs=xs.drop c/\c<=xs.length) ⟨0,_,rfl,rfl,by lia⟩ ?_ ?_
 .rintro a r env ⟨c,y,rfl,hd,hc⟩;obtain⟨c1,c2,c3⟩:=drop_cons hd.symm;rw[UW c1] at c2;have e2:xs[c]=a:=Vf c2;have ha:=hx a (by rw[<- e2];exact VP _);have b:=CQ (yZ hx c hc);have b':(aw c (vf xs)).natAbs<2^490:=U8 b (WL ↑12 ⋯);have ep:aw c (vf xs)*a=aw (c+1) (vf xs):=by show _=aw c (vf xs)*vf xs c;rw[bh c1,e2]
  dsimp? [bA,bI (i:=aw c (vf xs)) (j:=a) (k:=490) (l:=60) b' (CQ ha),ep];exact⟨_,rfl,c+1,_,rfl,c3.symm,by lia⟩
 .rintro env ⟨c,y,rfl,hd,hc⟩;have:=congrArg WJ hd;rw[V2] at this;simp at this;obtain rfl:c=xs.length:=by lia
  dsimp? [];exact⟨_,rfl,rfl⟩
theorem nV(Q:jO ns Qf QA Ls T Qh):(rh Qh).length=Ls.length/\(∀x∈rh Qh,0<x/\x<2^60)/\aw Ls.length (vf (rh Qh))=aw Ls.length λj=>II Qh j j:=by
 have il:=Q.I.len;refine⟨by rw[l_,il],λx hx=>?_,eZ λj hj=>xN ⋯⟩;obtain⟨i,hi,rfl⟩:=Vn.mp hx;rw[l_,il] at hi;have:=xN (Qh:=Qh) (i:=i) ⋯;rw[bh (by rw[l_];lia)] at this;rw[this];exact⟨Q.I.pos i hi,Q.I.le i hi⟩
def Bl(Qf:List Int)(T:List Row)(one other:List Int):Prop:=G Qf.length (vf Qf) (DD T) Qf.length 0 (vf (ad Qf other one (-1)))
theorem xA(Q:jO ns Qf QA Ls T Qh){one other:List Int}(h1:Kp Qf one)(h2:Kp Qf other):Bl Qf T one other ↔ G Qf.length (vf Qf) (DD T) Qf.length 0 (λi=>vf other i-vf one i):=by
 obtain⟨_,a⟩:=wG (t:=-1) Q.S h2.1 h1.1;constructor
 .intro g;refine Q.st.gd.l9 ⋯ (λi hi=>?_) g;obtain⟨x,hx⟩:=a i hi;exact⟨-x,by rw[abq,<- hx];lia⟩
 .intro g;refine Q.st.gd.l9 ⋯ (λi hi=>?_) g;obtain⟨x,hx⟩:=a i hi;exact⟨x,by rw[<- hx];lia⟩
theorem wI(Q:jO ns Qf QA Ls T Qh){one other:List Int}(h1:Kp Qf one)(h2:Kp Qf other):lst Qf Ls T one=lst Qf Ls T other ↔ Bl Qf T one other:=by
 rw[xA Q h1 h2];obtain⟨_,_,_,b4⟩:=iN Q.st h1.1 h1.2;obtain⟨_,_,_,c4⟩:=iN Q.st h2.1 h2.2;constructor
 .intro e;rw[e] at b4;exact G.ext ⋯ (λi hi=>by lia) (Q.st.gd.sub ⋯ c4 b4)
 .intro g;exact(Kq Q.st h2.1 h2.2 h1.1 h1.2 g).symm
def EW(h:T.length<=1000):gz [uf Qf Ls T Qh]=M.ok (.lst (T.map λr=>tI r.1)):=by
 have key:bC (bA 0) none (ai aJ (ae 0) (λ_=>M.ok (.int 0))) (T.map mk) [none]=M.ok (T.map λr=>tI r.1):=eM T λr _=>by dsimp? [show aJ (mk r) (.int 0)=M.ok (tI r.1) from bu (j:=0) rfl rfl]
 unfold gz gy;dsimp? [oI,Po,U0,aq (aX h),key]
theorem DL{n m k0:Nat}{szs:List Int}{A:Nat->dE}{R:List Row}(h:St n m szs A k0 R):∀(k d:Nat)(v:dE),d+k=n->G n (vf szs) (DD R) k d v->∃P,Led n (vf szs) m A v P
 | 0,d,v,e,g=>⟨λ_=>0,λi hi=>by
   rw[iI (g:=λ_=>0) λl hl=>Y6 _,gH];obtain⟨x,hx⟩:=g i hi;exact⟨x,by lia⟩⟩
 | k+1,d,v,e,g=>by
  obtain⟨P,hP⟩:=DL h k (d+1) _ ⋯ g.2;exact⟨_,Led.mix (a:=1) (b:=v d/aZ (vf szs) (DD R) d) hP (h.led d ⋯) (λi hi=>⟨0,by grind⟩) λl hl=>rfl⟩
theorem Ek(Q:jO ns Qf QA Ls T Qh)(hp:aw Qf.length (vf Qf)<=240)(B:List Int):B∈Dl Qf Ls Qh Ls.length ↔ Kp Qf B/\G Qf.length (vf Qf) (DD T) Qf.length 0 (vf B):=by
 rw[(iM Q hp Ls.length (UZ _)).2.1 B];constructor
 .rintro⟨k,P,_,led⟩;exact⟨k,M6 Q.st ⋯ led⟩
 .rintro⟨k,g⟩;obtain⟨P,led⟩:=DL Q.st Qf.length 0 _ ⋯ g;exact⟨k,P,λl a b=>by lia,led⟩
theorem FR(Q:jO ns Qf QA Ls T Qh)(hp:aw Qf.length (vf Qf)<=240){t s:List Int}(ht:Kp Qf t)(hs:Kp Qf s):s∈(Dl Qf Ls Qh Ls.length).map (λg=>sm Qf t g) ↔ lst Qf Ls T t=lst Qf Ls T s:=by
 rw[wI Q ht hs,xA Q ht hs,VI];constructor
 .rintro⟨g,hg,rfl⟩;obtain⟨kg,gg⟩:=(Ek Q hp g).mp hg;obtain⟨_,f⟩:=dI Q.S ht.1 kg.1;refine Q.st.gd.l9 ⋯ (λi hi=>?_) gg;obtain⟨x,hx⟩:=f i hi;exact⟨x,by lia⟩
 .intro gg;obtain⟨ka,da⟩:=wG (t:=-1) Q.S hs.1 ht.1;refine⟨ad Qf s t (-1),(Ek Q hp _).mpr ⟨ka,Q.st.gd.l9 ⋯ (λi hi=>?_) gg⟩,?_⟩
  .obtain⟨x,hx⟩:=da i hi;exact⟨x,by lia⟩
  .obtain⟨k2,f⟩:=dI Q.S ht.1 ka.1;refine lK k2.1 hs.1 k2.2 hs.2 λi hi=>?_;obtain⟨x,hx⟩:=da i hi;obtain⟨y,hy⟩:=f i hi;exact⟨x+y,by grind⟩
end
def F4(x:Str):aS [dS Qf Ls,.str x]=M.ok (.bl false):=by
 unfold aS cy;dsimp? [eT,Jw]
theorem Kz(S:Sz Qf)(r:List Int)(hr:r.length<=100):aS [dS Qf Ls,.tup (.bl false::r.map PV.int)]=M.ok (.bl false):=by
 have rw1:=ua (p:=.tup (.bl false::r.map PV.int)) (inj:=λo:Option Int=>match o with|none=>PV.bl false|some i=>PV.int i) (h:=λo=>o.isSome) (none::r.map some) Qf.length (.inl (by rw[Vg,VB];rfl)) (λa ha=>by cases a with|none=>exact Bh false|some i=>exact kK i) (by simp;exact aX ⋯);rw[aap,show (none:Option Int).isSome=false from rfl,ZZ,Bool.and_false] at rw1;unfold aS cy;dsimp? [eT,Jw,rw1]
theorem GC(xs:List Int):Lu (lI xs) (some 1) none=M.ok (lI (xs.drop 1)):=by
 show M.ok (PV.lst (oq (xs.map PV.int) (some ((1:Nat):Int)) none))=_;unfold oq;rw[HT.FZ,HT.Ds,U0]
 by_cases h:1<=xs.length
 .rw[Nat.min_eq_left h,aaZ ↑13];rw[lI,List.map_drop]
 .have:xs=[]:=aay.mp ⋯;subst this;rfl
theorem add_l(x:PV)(xs:List Int)(h:xs.length<=100):bU (.lst [x]) (lI xs)=M.ok (.lst (x::xs.map PV.int)):=by
 show cQ _ _=_;rw[aq (by rw[U0];exact aX (by simp;lia))];rfl
theorem vt(h:xs.length≠Qf.length):rD Qf xs=false:=by
 unfold rD;rw[decide_eq_false ⋯];rfl
def zQ{s:Int}{ss:List Int}(h:¬ (0<=x/\x<s)):rD (s::ss) (x::xs)=false:=by
 unfold rD;rw[Xw,aap,decide_eq_false h];simp
theorem Hk{Q:PV->Prop}{ws:List PV}(h:∀p∈ws,Q p){j:Int}(h0:0<=j)(h1:j<ws.length):∃p,aJ (.lst ws) (.int j)=M.ok p/\Q p:=by
 obtain⟨k,rfl⟩:=Wh h0;have hk:k<ws.length:=by lia
 exact⟨ws[k],bu (xs:=ws) rfl (UW hk),h _ (VP hk)⟩
theorem qG(l1:1<=Qf.length)(h:¬ (0<=x/\x<vf Qf 0)):rD Qf (x::xs)=false:=by
 obtain⟨s0,ss,rfl⟩:∃s0 ss,Qf=s0::ss:=List.exists_cons_of_length_pos ⋯;exact zQ h
theorem JS(S:Sz Qf)(c:Int):∃p,ju [.int c,lI Qf]=M.ok p/\aS [dS Qf Ls,p]=M.ok (.bl false):=by
 have l6:=S.h6;have l1:=S.h1;have hs0:=nJ S 0 ⋯;obtain⟨em,m0,m1⟩:=vi c 9 ↑12;have k1:bC (bA 0) none (λ_=>M.ok (.int 0)) (Qf.map PV.int) [none]=M.ok (Qf.map λ_=>.int 0):=eM (inj:=PV.int) Qf λx hx=>rfl;have z1:Qf.length<=sizeLine:=aX ⋯;have i0:aJ (lI Qf) (.int 0)=M.ok (.int (vf Qf 0)):=Dj (xs:=Qf) (i:=0) ⋯;have lz:(UY Qf.length (0:Int)).length=Qf.length:=by simp
 obtain⟨z,hz⟩:∃z,UY Qf.length (0:Int)=z:=⟨_,rfl⟩
 rw[hz] at lz;obtain⟨d,hd⟩:∃d,z.drop 1=d:=⟨_,rfl⟩
 have ld:d.length=Qf.length-1:=by rw[<- hd,V2,lz]
 have a1:bU (PV.lst (z.map PV.int)) (.lst [.int 0])=M.ok (lI (z++[0])):=Ap z ⋯;have t1:Lu (PV.lst (z.map PV.int)) (some 1) none=M.ok (lI d):=by rw[<- hd];exact GC z
 have hw:∀p∈([PV.lst (z.map PV.int),PV.tup ((z++[0]).map PV.int),PV.tup (d.map PV.int),PV.tup (.int (vf Qf 0)::d.map PV.int),PV.tup (.int (-1)::d.map PV.int),.c8,.tup (.bl false::d.map PV.int),.str "0"]:List PV),aS [dS Qf Ls,p]=M.ok (.bl false):=λp hp=>by
  simp only[U9,Xp,or_false] at hp;rcases hp with rfl|rfl|rfl|rfl|rfl|rfl|rfl|rfl
  .exact Gu _
  .exact uG (xs:=z++[0]) S (by simp;lia) (vt (by simp;lia))
  .exact uG (xs:=d) S ⋯ (vt ⋯)
  .exact uG (xs:=vf Qf 0::d) S (by simp;lia) (qG l1 ⋯)
  .exact uG (xs:=-1::d) S (by simp;lia) (qG l1 ⋯)
  .exact FK
  .exact Kz S d ⋯
  .exact F4 _
 obtain⟨p,ep,hp⟩:=Hk hw (j:=mx c 9%8) ⋯ (show _<(8:Int) by lia);refine⟨p,?_,hp⟩;have dis:∀(q1 q2 q3 q4 q5 q6:PV),(if (0+1+1+1+1+1+1)<=sizeLine then M.ok [q1,q2,q3,q4,q5,q6] else none)=M.ok [q1,q2,q3,q4,q5,q6]:=λ_ _ _ _ _ _=>if_pos ↑12;have s6:6<=sizeLine:=by decide
 have ap:∀(env:af)(q1 q2 q3 q4 q5 q6 q:PV),C1 3 env [q1,q2,q3,q4,q5,q6] q=M.ok (.nx (env.set 3 (some (.ow ([q1,q2,q3,q4,q5,q6]++[q]))))):=λenv _ _ _ _ _ _ _=>jd ↑13;have ap2:∀(env:af)(q1 q2 q3 q4 q5 q6 q7 q:PV),C1 3 env [q1,q2,q3,q4,q5,q6,q7] q=M.ok (.nx (env.set 3 (some (.ow ([q1,q2,q3,q4,q5,q6,q7]++[q]))))):=λenv _ _ _ _ _ _ _ _=>jd ↑13;unfold ju iV;dsimp? [U0,aq z1,k1,qp,hz,fU,a1,jS,iT,Jl,z8,t1,i0,add_l _ d ⋯,s6,je,ownAt,ap,ap2,em,aA (i:=mx c 9) (j:=8) ↑12,ep]
def pH(h:n<=1024):n<=sizeLine:=VM h ↑12
theorem yg {f : Nat -> Int}(h : ∀l,l < m -> 0 < f l) : ∀{d : Nat},d <= m -> aw d f <= aw m f := by
  induction m with
  | zero => intro d hd; have : d=0 := by lia
            subst this; exact acL _
  | succ m ih =>
    intro d hd
    by_cases e : d=m + 1
    . subst e; exact acL _
    . have a := ih (λl hl => h l ⋯) (show d <= m by lia);have b : 0 < aw m f := cY λl hl => h l ⋯;have c := h m ⋯;show _ <= aw m f * f m;have : aw m f * 1 <= aw m f * f m := U7 ⋯ ⋯;lia
variable{o:List Int}
section
variable{S:List (List Int)}
abbrev mG(Qf:List Int)(T:List Row):Nat->Int:=λi=>vf Qf i/aZ (vf Qf) (DD T) i
def oM(g:Good Qf.length (vf Qf) (DD T))(h:d<Qf.length):0<mG Qf T d :=
 Int.ediv_pos_of_pos_of_dvd (g.sp d h) (X6 (g.pos h).1) (g.dv d h)
def lZ(Q:jO ns Qf QA Ls T Qh):aw Qf.length (mG Qf T)=aw Ls.length λj=>II Qh j j:=by
 have g:=Q.st.gd;have p:=Q.pr;have q:aw Qf.length (vf Qf)=aw Qf.length (mG Qf T)*aw Qf.length (aZ (vf Qf) (DD T)):=nz λl hl=>(ZP (g.dv l hl)).symm;have z:0<aw Qf.length (aZ (vf Qf) (DD T)):=cY λl hl=>(g.pos hl).1;rw[q] at p;exact(Int.eq_of_mul_eq_mul_right (ack z) p).symm
structure Ev (Qf:List Int) (T:List Row) (o:List Int) (d:Nat) (S:List (List Int)):Prop where
 kp:∀x∈S,Kp Qf x
 gt:∀x∈S,G Qf.length (vf Qf) (DD T) Qf.length 0 (λi=>vf x i-vf o i)
 inj:∀x∈S,∀y∈S,(∀i,i<d->vf x i=vf y i)->x=y
 nd:S.Nodup
 len:(S.length:Int)=aw d (mG Qf T)
noncomputable def r0(Qf r:List Int)(S:List (List Int)):Nat->List (List Int)
 | 0=>[]
 |n+1=>r0 Qf r S n++S.map λx=>ad Qf x r (n:Int)
theorem kI{r:List Int}{z:List Int}:∀{n:Nat},z∈r0 Qf r S n->∃x∈S,∃t:Nat,t<n/\z=ad Qf x r (t:Int)
 | 0,h=>nomatch h
 | n+1,h=>by
  rcases V7.mp h with h|h
  .obtain⟨x,hx,t,ht,e⟩:=kI h;exact⟨x,hx,t,by lia,e⟩
  .obtain⟨x,hx,e⟩:=VI.mp h;exact⟨x,hx,n,by lia,e.symm⟩
theorem oG{r:List Int}:∀n:Nat,(r0 Qf r S n).length=n*S.length
 | 0=>by simp[r0]
 |n+1=>by rw[r0,Vb,oG n,U0,Yo]
theorem uY(Q:jO ns Qf QA Ls T Qh)(E:Ev Qf T o d S)(hd:d<Qf.length){x y:List Int}(hx:x∈S)(hy:y∈S){t u:Nat}(ht:(t:Int)<mG Qf T d)(hu:(u:Int)<mG Qf T d)(h:∀i,i<d+1->vf (ad Qf x (row T d).1 (t:Int)) i=vf (ad Qf y (row T d).1 (u:Int)) i):x=y/\t=u:=by
 have g:=Q.st.gd;have r1:=Q.st.wf.oH hd;obtain⟨_,ax⟩:=ql (t:=(t:Int)) Q.S (E.kp x hx).1 r1;obtain⟨_,ay⟩:=ql (t:=(u:Int)) Q.S (E.kp y hy).1 r1;have exy:x=y:=E.inj x hx y hy λi hi=>by
  have e:=h i ⋯;have z:vf (row T d).1 i=0:=g.xw d hd i hi;rwa[ax i ⋯,ay i ⋯,z,Xk,Xk,ZT,ZT,Xe ((E.kp x hx).2 i ⋯).1 ((E.kp x hx).2 i ⋯).2,Xe ((E.kp y hy).2 i ⋯).1 ((E.kp y hy).2 i ⋯).2] at e
 refine⟨exy,?_⟩;subst exy;have e:=h d ⋯;rw[ax d hd,ay d hd] at e;have dv:vf Qf d∣((t:Int)-u)*DD T d d:=by
  have:=Int.emod_emod_of_dvd;have q:=Int.dvd_of_emod_eq_zero (Yt.mp e);rwa[show vf x d+(t:Int)*vf (row T d).1 d-(vf x d+(u:Int)*vf (row T d).1 d)=((t:Int)-u)*vf (row T d).1 d by grind] at q
 have p:=g.pos hd;have hs:=g.dv d hd;have fe:mG Qf T d*aZ (vf Qf) (DD T) d=vf Qf d:=ZP hs
 by_cases z:DD T d d=0
 .have:aZ (vf Qf) (DD T) d=vf Qf d:=by unfold aZ;rw[if_pos z]
  have f1:mG Qf T d=1:=by
   show vf Qf d/aZ (vf Qf) (DD T) d=1;rw[this];exact abD (ack (g.sp d hd))
  lia
 .have es:aZ (vf Qf) (DD T) d=DD T d d:=by unfold aZ;rw[if_neg z]
  rw[<- es,<- fe] at dv;have dv:=Int.dvd_of_mul_dvd_mul_right (ack p.1) dv;obtain⟨c,hc⟩:=dv;have f0:=oM g hd;generalize mG Qf T d=F at *;rcases aci c 0 with h0|h0|h0
  .have:F*c<=F*(-1):=U7 ⋯ ⋯;lia
  .subst h0;lia
  .have:F*1<=F*c:=U7 ⋯ ⋯;lia
theorem Ev.next(Q:jO ns Qf QA Ls T Qh)(E:Ev Qf T o d S)(hd:d<Qf.length):Ev Qf T o (d+1) (r0 Qf (row T d).1 S (mG Qf T d).toNat):=by
 have g:=Q.st.gd;have r1:=Q.st.wf.oH hd;have f0:=oM g hd;refine⟨λz hz=>?_,λz hz=>?_,λz hz w hw e=>?_,?_,?_⟩
 .obtain⟨x,hx,t,ht,rfl⟩:=kI hz;exact(wG Q.S (E.kp x hx).1 r1).1
 .obtain⟨x,hx,t,ht,rfl⟩:=kI hz;have:=(wG (t:=(t:Int)) Q.S (E.kp x hx).1 r1).2;exact g.l9 ⋯ (λi hi=>by obtain⟨c,hc⟩:=this i hi;exact⟨c,by rw[<- hc];have:DD T d i=vf (row T d).1 i:=rfl;grind⟩) (G.add ⋯ (E.gt x hx) (G.mul (t:Int) ⋯ (g.row hd ⋯ (Va _))))
 .obtain⟨x,hx,t,ht,rfl⟩:=kI hz;obtain⟨y,hy,u,hu,rfl⟩:=kI hw;obtain⟨a,b⟩:=uY Q E hd hx hy ⋯ ⋯ e;rw[a,b]
 .have:∀n:Nat,(n:Int)<=mG Qf T d->(r0 Qf (row T d).1 S n).Nodup:=by
   intro n
   induction n with
   | zero=>intro _;exact List.nodup_nil
   | succ n ih =>
    intro hn;rw[r0,Y8];refine⟨ih ⋯,?_,λz hz w hw e=>?_⟩
    .unfold List.Nodup;rw[XG];exact Wz (λ{x y} hx hy ne e=>ne (uY Q E hd hx hy (t:=n) (u:=n) ⋯ ⋯ λi _=>by rw[e]).1) E.nd
    .obtain⟨x,hx,t,ht,rfl⟩:=kI hz;obtain⟨y,hy,rfl⟩:=VI.mp hw;have:=(uY Q E hd hx hy (t:=t) (u:=n) ⋯ ⋯ λi _=>by rw[e]).2;lia
  exact this _ ⋯
 .show ((r0 Qf (row T d).1 S (mG Qf T d).toNat).length:Int)=aw d (mG Qf T)*mG Qf T d;rw[oG,YF,E.len,WS ⋯,WR]
theorem Ev.start(Q:jO ns Qf QA Ls T Qh)(h:Kp Qf o):Ev Qf T o 0 [lst Qf Ls T o]:=by
 obtain⟨a,b,c,e⟩:=iN Q.st h.1 h.2;refine⟨λx hx=>by rw[Vr.mp hx];exact⟨a,c⟩,λx hx=>?_,λx hx y hy _=>by rw[Vr.mp hx,Vr.mp hy],by simp,rfl⟩;rw[Vr.mp hx];exact G.ext ⋯ (λi hi=>by lia) (G.mul (-1) ⋯ e)
def F7{f:af->M PV}{env:af}{xs ys:List PV}(e:env[i]?=some (some (.ow xs)))(h:f env=M.ok (.lst ys))(hz:xs.length+ys.length<=sizeLine):A9 i f env=M.ok (.nx (env.set i (some (.ow (xs++ys))))):=by
 unfold A9;rw[e];show (f env).bind _=_;rw[h,M.aO];exact if_pos hz
theorem qd:∀S:List (List Int),(∀x∈S,x≠[])->qq (S.map tI)=some S
 | [],_=>rfl
 | []::S,h=>absurd rfl (h _ (.head _))
 | (n::x)::S,h=>by
  rw[Vg,qq,qd S λy hy=>h y (.tail _ hy)];rw[show Bq (tI (n::x))=some (n::x) from tw _]
theorem yE(Q:jO ns Qf QA Ls T Qh)(z:Kp Qf o)(hm:aw Ls.length (λj=>II Qh j j)<=1024):∃S,Ev Qf T o Qf.length S/\aY [dS Qf Ls,tI o]=M.ok ((eV S).map tI):=by
 have m8:=Q.m8;have l6:=Q.S.h6;have l1:=Q.S.h1;have g:=Q.st.gd;have tl:=Q.st.wf.len;obtain⟨sl,sb,sp⟩:=nV Q;have ep:=pZ (xs:=rh Qh) ⋯ sb;rw[sl,sp] at ep;rw[<- lZ Q] at hm ep
 suffices h:kc (aY [dS Qf Ls,tI o]) λp=>∃S,Ev Qf T o Qf.length S/\p=(eV S).map tI by
  obtain⟨_,e,S,E,rfl⟩:=h;exact⟨S,E,e⟩
 have lb:=A8 (Qh:=Qh) Q.S Q.m8 Q.st (show Ls.length+1<=9 by lia) z.1 z.2;unfold aY br;dsimp? [CZ,rV,yf,uj Q.S z.Pp,Q.NH,eT,Az (m := "spans") rfl,tF (Qh:=Qh) m8 Q.I,ep,decide_eq_false (show ¬ (1024:Int)<aw Qf.length (mG Qf T) by lia),Az (m := "least") rfl,lb,Jw,Az (m := "steps") rfl,ED (Qh:=Qh) Q.S Q.st,Az (m := "rows") rfl,EW (T:=T) (show T.length<=1000 by lia),vv (p:=tI Qf) (q:=tI (qJ Qf T)) (r:=.lst (T.map λr=>tI r.1)) Qf (qJ Qf T) T rfl rfl rfl];have zl3:(Qf.zip ((qJ Qf T).zip T)).length=Qf.length:=by simp only[WG,qO];lia
 refine kc.loop (xs:=Qf.zip ((qJ Qf T).zip T)) (inj:=λz=>PV.tup [PV.int z.1,PV.int z.2.1,tI z.2.2.1]) (λzs env=>∃(d:Nat)(S:List (List Int))(y4 y5 y6 y7 y8:Option SV),env=[some (.sh (dS Qf Ls)),some (.sh (tI o)),some (.sh (uf Qf Ls T Qh)),some (.sh (.lst (S.map tI))),y4,y5,y6,y7,y8]/\zs=(Qf.zip ((qJ Qf T).zip T)).drop d/\d<=Qf.length/\Ev Qf T o d S) ⟨0,_,_,_,_,_,_,rfl,rfl,Va _,Ev.start Q z⟩ ?_ ?_
 .rintro⟨a1,a2,a3⟩ r env ⟨d,S,y4,y5,y6,y7,y8,rfl,hz,hd0,E⟩;obtain⟨c1,c2,c3⟩:=drop_cons hz.symm;rw[zl3] at c1;rw[UW ⋯] at c2;have c2:=Vf c2;rw[aaz,aaz] at c2;obtain⟨q1,q2⟩:=acI c2;obtain⟨q2,q3⟩:=acI q2;have e1:a1=vf Qf d:=by rw[bh c1,q1]
  have e2:a2=aZ (vf Qf) (DD T) d:=by rw[<- Fz c1,bh (by rwa[qO]),q2]
  have e3:a3=row T d:=by rw[ij ⋯,q3]
  subst e1 e2 e3;have p:=g.pos c1;have f0:=oM g c1;have s360:=nJ Q.S d c1;have E':=E.next Q c1;have hn:((r0 Qf (row T d).1 S (mG Qf T d).toNat).length:Int)<=1024:=by
   rw[E'.len];exact ZU (yg (λl hl=>oM g hl) c1) hm
  rw[oG] at hn;have fb:mG Qf T d<=360:=by
   have:mG Qf T d*1<=mG Qf T d*aZ (vf Qf) (DD T) d:=U7 ⋯ ⋯;rw[show mG Qf T d*aZ (vf Qf) (DD T) d=vf Qf d from ZP (g.dv d c1)] at this;lia
  have r1:=Q.st.wf.oH c1;have rb:Bd 200 (row T d).1:=xF Q.S r1 (g.kU d c1);dsimp? [nG,d_,bo (i:=vf Qf d) (j:=aZ (vf Qf) (DD T) d) p.1 ⋯,dz (n:=vf Qf d/aZ (vf Qf) (DD T) d) (X6 f0) (by show mG Qf T d<_;lia)];refine kc.loop (xs:=Vc (vf Qf d/aZ (vf Qf) (DD T) d).toNat) (inj:=λ(i:Nat)=>.int (i:Int)) (λzs env=>∃(t:Nat)(y8:Option SV),env=[some (.sh (dS Qf Ls)),some (.sh (tI o)),some (.sh (uf Qf Ls T Qh)),some (.sh (.lst (S.map tI))),some (.sh (.int (vf Qf d))),some (.sh (.int (aZ (vf Qf) (DD T) d))),some (.sh (tI (row T d).1)),some (.ow ((r0 Qf (row T d).1 S t).map tI)),y8]/\zs=(Vc (mG Qf T d).toNat).drop t/\t<=(mG Qf T d).toNat) ⟨0,_,rfl,rfl,Va _⟩ ?_ ?_
  .rintro w r2 env ⟨t,y8,rfl,Sq,_⟩;obtain⟨w1,w2,w3⟩:=drop_cons Sq.symm;rw[VJ] at w1;rw[WT w1] at w2;obtain rfl:t=w:=Vf w2;have key:bC (bA 0) none (ah mC (aa (ae 1) (aa (ae 0) (aa (ae 2) (aa (ae 3) aj))))) (S.map tI) [none,some (.sh (dS Qf Ls)),some (.sh (tI (row T d).1)),some (.sh (.int (t:Int)))]=M.ok (S.map λx=>tI (ad Qf x (row T d).1 (t:Int))) :=
    eM S λx hx=>by dsimp? [z_ (Ls:=Ls) (t:=(t:Int)) Q.S (E.kp x hx).1 rb ⋯]
   have hS:(t+1)*S.length<=1024:=VM (Xb _ w1) ⋯;have hS1:S.length<=1024:=VM (Nat.le_mul_of_pos_left _ (ace t)) hS;rw[Yo] at hS;dsimp? [bA];rw[F7 (xs:=(r0 Qf (row T d).1 S t).map tI) (ys:=S.map λx=>tI (ad Qf x (row T d).1 (t:Int))) rfl (by dsimp? [U0,aq (pH hS1),key]) (by rw[U0,U0,oG];exact pH hS)];dsimp? [];have ew:(r0 Qf (row T d).1 S (t+1)).map tI=(r0 Qf (row T d).1 S t).map tI++S.map λx=>tI (ad Qf x (row T d).1 (t:Int)):=by rw[r0,WH,VB];rfl
   rw[<- ew];exact⟨_,rfl,t+1,_,rfl,w3.symm,w1⟩
  .rintro env ⟨t,y8,rfl,Sq,ht2⟩;have ht:(mG Qf T d).toNat<=t:=by
    have:=congrArg WJ Sq;rw[V2,VJ] at this;simp at this;lia
   have ht3:t=(mG Qf T d).toNat:=by lia
   subst ht3;dsimp? [];exact⟨_,rfl,d+1,_,_,_,_,_,_,rfl,c3.symm,c1,E'⟩
 .rintro env ⟨d,S,y4,y5,y6,y7,y8,rfl,hz,hd0,E⟩;have hd:d=Qf.length:=by
   have:=congrArg WJ hz;rw[V2,zl3] at this;simp at this;lia
  subst hd;dsimp? [rV,yf,jD,vL,qd S λx hx=>by have:=(E.kp x hx).1;rintro rfl;simp at this;lia];exact⟨_,rfl,S,E,rfl⟩
end
theorem sG(xs ys:List (List Int)):vg (.lst (xs.map tI)) (.lst (ys.map tI))=M.ok (.bl (!decide (xs=ys))):=by
 simp only[vg,o8,dat,zW,aa6,HY];have h1:=qi xs;have h2:=qi ys;rw[aq (by simp[SeqAt.shaped,XX,Yr,we,SeqAt.noMix,qQ];lia)];unfold Spec.same;rw[sC];rfl
theorem za:∀(S:List (List Int))(e:Option SV),bC (bA 0) (some (fL (Ei (λa=>a == "tuple") rC rC (ae 0)))) (ae 0) (S.map tI) [e]=M.ok (S.map tI)
 | [],_=>rfl
 | x::S,e=>by
  rw[Vg,bC];dsimp? [bA];rw[za S];dsimp? []
def sj{S:List (List Int)}(h:S.length<=1024):dJ [.lst (S.map tI),.lst (S.map tI)]=M.ok (.bl true):=by
 unfold dJ dM;dsimp? [sG,decide_true,U0,aq (pH h),za]
theorem p_:∀{S M:List (List Int)},S.Nodup->(∀x∈S,x∈M)->M.length<=S.length->S.Perm M
 | [],M,_,_,h=>by cases M with
  | nil=>exact .nil
  | cons _ _=>simp at h
 | a::S,M,n,h,l=>by
  rw[YC] at n;have ha:=h a (.head _);have p:=List.perm_cons_erase ha;refine(List.Perm.cons a (p_ n.2 (λx hx=>?_) ?_)).trans p.symm
  .exact(List.mem_erase_of_ne (by rintro rfl;exact n.1 hx)).mpr (h x (.tail _ hx))
  .have:=p.length_eq;simp only[Vw] at this l;lia
def tf{S M:List (List Int)}(h:S.Perm M):eV S=eV M:=uU ((fP S).trans (h.trans (fP M).symm)) (kE S) (kE M)
theorem CI(Q:jO ns Qf QA Ls T Qh)(z:Kp Qf o)(hm:1024<aw Ls.length (λj=>II Qh j j)):aY [dS Qf Ls,tI o]=some (.error (cn,none)):=by
 have m8:=Q.m8;obtain⟨sl,sb,sp⟩:=nV Q;have ep:=pZ (xs:=rh Qh) ⋯ sb;rw[sl,sp] at ep;unfold aY br;dsimp? [CZ,rV,yf,uj Q.S z.Pp,Q.NH,eT,Az (m := "spans") rfl,tF (Qh:=Qh) m8 Q.I,ep,decide_eq_true hm,iR,aq (show 1<=sizeLine by decide)]
def FY(h:aS [dS Qf Ls,p]=M.ok (.bl false)):aY [dS Qf Ls,p]=some (.error (bW,none)):=by
 unfold aY br;dsimp? [CZ,rV,DO h]
def vx(h:aS [dS Qf Ls,p]=M.ok (.bl false)):dC [dS Qf Ls,p]=M.ok (.str "setting"):=by
 unfold dC fS;dsimp? [yy,jD,FY h,pO,ph,show GH eG eR bW=some true by decide,Ea,vE]
def zu(Q:jO ns Qf QA Ls T Qh)(z:Kp Qf o)(hm:1024<aw Ls.length (λj=>II Qh j j)):dC [dS Qf Ls,tI o]=M.ok (.str "many"):=by
 unfold dC fS;dsimp? [yy,jD,CI Q z hm,pO,ph,show GH eG eR cn=some false by decide,show GH iZ jc cn=some true by decide,Ea,IZ,vE]
theorem xV (Q : jO ns Qf QA Ls T Qh)(hp : aw Qf.length (vf Qf) <= 240)(z : Kp Qf o) : aY [dS Qf Ls,tI o]=M.ok ((eV ((Dl Qf Ls Qh Ls.length).map λg => sm Qf o g)).map tI) := by
  obtain ⟨b1,b2⟩ := qe Q hp Ls.length (UZ _);obtain ⟨S,E,e⟩ := yE Q z ⋯;obtain ⟨_,_,d3⟩ := iM Q hp Ls.length (UZ _);have pm : S.Perm ((Dl Qf Ls Qh Ls.length).map λg => sm Qf o g) := by
   refine p_ E.nd (λx hx => ?_) ?_
   . rw [FR Q hp z (E.kp x hx),wI Q z (E.kp x hx),xA Q z (E.kp x hx)];exact E.gt x hx
   . have := E.len;rw [lZ Q] at this;rw [U0]; lia
  rw [e,tf pm]
structure Tw (a b s t:Int) (lv:List (List Int)):Prop where
 s1:1<=s
 t1:1<=t
 a2:2<=a
 b2:2<=b
 a3:a*s<=360
 b3:b*t<=360
 lv:lv=[[s,0],[0,-t]]\/lv=[[s,t],[0,t],[0,0]]
theorem wK{z:Int}{f:Nat->Int}:∀m:Nat,(∀l,l<m->z∣f l)->z∣eW m f
 | 0,_=>⟨0,by simp[eW]⟩
 |m+1,h=>Zw (wK m λl hl=>h l ⋯) (h m ⋯)
section
variable{a b s t:Int}{lv:List (List Int)}
abbrev H2(a b s t:Int)(T:List Row)(v:dE):Prop:=G 2 (vf [a*s,b*t]) (DD T) 2 0 v
theorem Tw.Pz(W:Tw a b s t lv)(Q:jO ns [a*s,b*t] lv Ls T Qh)(hl:l<lv.length):H2 a b s t T (vf (lv.getD l [])):=by
 have c:=Q.st.cl l (by have:=Q.hm;lia);refine Q.st.gd.l9 rfl (λi hi=>?_) c;rw[Q.eA l hl i hi];exact⟨vf (lv.getD l []) i/vf [a*s,b*t] i,by have:=Za (vf (lv.getD l []) i) (vf [a*s,b*t] i);lia⟩
def Tw.dv(W:Tw a b s t lv):s∣vf (lv.getD l []) 0/\t∣vf (lv.getD l []) 1:=by
 rcases W.lv with rfl|rfl
 .match l with
  | 0=>exact⟨⟨1,by simp[vf]⟩,⟨0,by simp[vf]⟩⟩
  | 1=>exact⟨⟨0,by simp[vf]⟩,⟨-1,by simp[vf]⟩⟩
  | n+2=>exact⟨⟨0,by simp[vf]⟩,⟨0,by simp[vf]⟩⟩
 .match l with
  | 0=>exact⟨⟨1,by simp[vf]⟩,⟨1,by simp[vf]⟩⟩
  | 1=>exact⟨⟨0,by simp[vf]⟩,⟨1,by simp[vf]⟩⟩
  | 2=>exact⟨⟨0,by simp[vf]⟩,⟨0,by simp[vf]⟩⟩
  |n+3=>exact⟨⟨0,by simp[vf]⟩,⟨0,by simp[vf]⟩⟩
theorem Tw.iff(W:Tw a b s t lv)(Q:jO ns [a*s,b*t] lv Ls T Qh)(v:dE):H2 a b s t T v ↔ s∣v 0/\t∣v 1:=by
 constructor
 .intro g;obtain⟨P,h⟩:=DL Q.st 2 0 v rfl g;have key:∀(z:Int)(i:Nat),i<2->z∣vf [a*s,b*t] i->(∀l,z∣vf (lv.getD l []) i)->z∣v i:=λz i hi hz hl=>by
   have h1:=WA hz (h i hi);have h2:z∣eW Ls.length λl=>P l*AA Ls l i:=wK _ λl T9=>by
    rw[Q.eA l (by have:=Q.hm;lia) i hi];rw[Y5];exact WA (Int.dvd_sub (hl l) (WA hz ⟨_,rfl⟩)) ⟨P l,WR ..⟩
   have:=Zw h1 h2
   rwa [abQ] at this
  exact⟨key s 0 ↑12 ⟨a,WR ..⟩ λl=>W.dv.1,key t 1 ↑12 ⟨b,WR ..⟩ λl=>W.dv.2⟩
 .rintro⟨⟨p,hp⟩,⟨q,hq⟩⟩;have l0:=W.Pz Q (l:=0) (by rcases W.lv with rfl|rfl<;>simp);have l1:=W.Pz Q (l:=1) (by rcases W.lv with rfl|rfl<;>simp);rcases W.lv with rfl|rfl
  .refine G.ext ↑12 (λi hi=>?_) (G.add ↑12 (G.mul p ↑12 l0) (G.mul (-q) ↑12 l1))
   match i,hi with
   | 0,_=>rw[hp];simp[vf,WR]
   | 1,_=>rw[hq];simp[vf];grind
  .refine G.ext ↑12 (λi hi=>?_) (G.add ↑12 (G.mul p ↑12 l0) (G.mul (q-p) ↑12 l1))
   match i,hi with
   | 0,_=>rw[hp];simp[vf,WR]
   |1,_=>rw[hq];simp[vf];grind
theorem Tw.N4(W:Tw a b s t lv)(Q:jO ns [a*s,b*t] lv Ls T Qh):aZ (vf [a*s,b*t]) (DD T) 0=s:=by
 have g:=Q.st.gd;have h:=(W.iff Q λi=>if i=0 then s else 0).mpr ⟨⟨1,by simp⟩,⟨0,by simp⟩⟩;have h1:aZ (vf [a*s,b*t]) (DD T) 0∣s:=by simpa using h.1
 have h2:s∣aZ (vf [a*s,b*t]) (DD T) 0:=by
  unfold aZ
  split
  .exact⟨a,WR ..⟩
  .exact((W.iff Q _).mp (g.row (d:=0) (show 0<2 by decide) (k:=2) (e:=0) rfl (Va _))).1
 exact acF (X6 (g.pos (d:=0) (show 0<2 by decide)).1) (by have:=W.s1;lia) h1 h2
theorem Tw.NT(W:Tw a b s t lv)(Q:jO ns [a*s,b*t] lv Ls T Qh):aZ (vf [a*s,b*t]) (DD T) 1=t:=by
 have g:=Q.st.gd;have h:=(W.iff Q λi=>if i=1 then t else 0).mpr ⟨⟨0,by simp⟩,⟨1,by simp⟩⟩;have h1:aZ (vf [a*s,b*t]) (DD T) 1∣t:=by simpa using h.2.1
 have h2:t∣aZ (vf [a*s,b*t]) (DD T) 1:=by
  unfold aZ
  split
  .exact⟨b,WR ..⟩
  .exact((W.iff Q _).mp (g.row (d:=1) (show 1<2 by decide) (k:=2) (e:=0) rfl (Va _))).2
 exact acF (X6 (g.pos (d:=1) (show 1<2 by decide)).1) (by have:=W.t1;lia) h1 h2
theorem Tw.count(W:Tw a b s t lv)(Q:jO ns [a*s,b*t] lv Ls T Qh):aw Ls.length (λj=>II Qh j j)=a*b:=by
 have s1:=W.s1;have t1:=W.t1;rw[<- lZ Q];show 1*mG [a*s,b*t] T 0*mG [a*s,b*t] T 1=_;rw[Yk];show a*s/aZ (vf [a*s,b*t]) (DD T) 0*(b*t/aZ (vf [a*s,b*t]) (DD T) 1)=_;rw[W.N4 Q,W.NT Q,abz _ ⋯,abz _ ⋯]
noncomputable def zi(u s v t:Int)(n m:Nat):List (List Int):=(Vc n).flatMap λ(i:Nat)=>(Vc m).map λ(j:Nat)=>[u+(i:Int)*s,v+(j:Int)*t]
theorem uX(u v:Int)(m:Nat):∀n:Nat,(zi u s v t n m).length=n*m
 | 0=>by simp[zi]
 | n+1=>by
  have:=uX u v m n;unfold zi at this ⊢;rw[YG,ZO,Vb,this,Yo];simp
theorem Jd(s1:1<=s)(t1:1<=t)(u v:Int)(n m:Nat):(zi u s v t n m).Pairwise λx y=>HT.lexLt y x=false:=by
 have mono:∀{i j:Nat}{z:Int},1<=z->i<j->(i:Int)*z<(j:Int)*z:=λh1 h2=>ZW ⋯ ⋯;unfold zi;rw[abi];refine⟨λi _=>?_,?_⟩
 .rw[XG];refine Y7.imp λ{x y} h=>?_;have:=mono t1 h;simp[HT.lexLt];lia
 .refine Y0 (R:=λx y:Nat=>x<y) (λ{x y} h p hp q hq=>?_) Y7;obtain⟨j,_,rfl⟩:=VI.mp hp;obtain⟨k,_,rfl⟩:=VI.mp hq;have:=mono s1 h;simp[HT.lexLt];rw[if_neg ⋯];lia
theorem Tw.all(W:Tw a b s t lv)(Q:jO ns [a*s,b*t] lv Ls T Qh){y:Int}(z:Kp [a*s,b*t] [x,y])(hm:a*b<=1024):aY [dS [a*s,b*t] Ls,tI [x,y]]=M.ok ((zi (x%s) s (y%t) t a.toNat b.toNat).map tI):=by
 have s1:=W.s1;have t1:=W.t1;have a2:=W.a2;have b2:=W.b2;obtain⟨S,E,e⟩:=yE Q z (by rwa[W.count Q]);have len:=E.len;rw[lZ Q,W.count Q] at len;have pm:S.Perm (zi (x%s) s (y%t) t a.toNat b.toNat):=by
  refine p_ E.nd (λw hw=>?_) ?_
  .obtain⟨wl,wb⟩:=E.kp w hw
   match w,wl with
   | [p,q],_ =>
    obtain⟨d1,d2⟩:=(W.iff Q _).mp (E.gt [p,q] hw);have d1:s∣p-x:=d1;have d2:t∣q-y:=d2;have b0:0<=p/\p<a*s:=wb 0 (show 0<2 by decide);have b1:0<=q/\q<b*t:=wb 1 (show 1<2 by decide);have part:∀{p x s a:Int},1<=s->s∣p-x->0<=p/\p<a*s->∃i:Nat,i<a.toNat/\p=x%s+(i:Int)*s:=λ{p x s a} h1 h2 h3=>by
     have e1:p%s=x%s:=Yt.mpr (Int.emod_eq_zero_of_dvd h2);have e2:=Int.emod_add_ediv_mul p s;have p0:0<=p/s:=WW h3.1 ⋯;have p1:p/s<a:=Int.ediv_lt_of_lt_mul ⋯ h3.2;exact⟨(p/s).toNat,by lia,by rw[<- e1,WS p0];lia⟩
    obtain⟨i,hi,ei⟩:=part s1 d1 b0;obtain⟨j,hj,ej⟩:=part t1 d2 b1;exact acE.mpr ⟨i,V3.mpr hi,VI.mpr ⟨j,V3.mpr hj,by rw[ei,ej]⟩⟩
  .rw[uX];have:((a.toNat*b.toNat:Nat):Int)=a*b:=by rw[YF,WS ⋯,WS ⋯]
   lia
 rw[e,tf pm,uU (fP _) (kE _) (Jd s1 t1 _ _ _ _)]
end
def wo:jq [.int 2]=M.ok (([0,1]:List Int).map PV.int):=(dz (n:=2) ↑12 ↑12).trans rfl
def NG(p q:Int):aJ (lI [p,q]) (.int 0)=M.ok (.int p)/\aJ (lI [p,q]) (.int 1)=M.ok (.int q):=⟨bu (j:=0) rfl rfl,bu (j:=1) rfl rfl⟩
theorem zX{i j:Int}(h:0<=i/\i<=1000)(h':0<=j/\j<=1000):cA (.int i) (.int j)=M.ok (.int (i*j)):=bI (k:=10) (l:=10) ⋯ ⋯
theorem v8(c:Int):∃a b s t lv,cW [.int c]=M.ok (.lst [lI [a,b],lI [s,t],lI [a*s,b*t],.lst (lv.map lI)])/\Tw a b s t lv:=by
 obtain⟨m1,p1,q1⟩:=vi c 1 ↑12;obtain⟨m2,p2,q2⟩:=vi c 2 ↑12;obtain⟨m3,p3,q3⟩:=vi c 3 ↑12;obtain⟨m4,p4,q4⟩:=vi c 4 ↑12;obtain⟨m5,p5,q5⟩:=vi c 5 ↑12;obtain⟨m6,p6,q6⟩:=vi c 6 ↑12;obtain⟨m7,p7,q7⟩:=vi c 7 ↑12;have cnt:∃a b:Int,(2<=a/\a<=256)/\(2<=b/\b<=256)/\((mx c 3%3=0/\aJ (.lst [.lst [.int 32,.int 32],.lst [.int 25,.int 41],.lst [.int 4,.int 256],.lst [.int 205,.int 5],.lst [.int 64,.int 16],.lst [.int 41,.int 25]]) (.int (mx c 4%6))=M.ok (lI [a,b]))\/(mx c 3%3≠0/\a=2+mx c 1%39/\b=2+mx c 2%39)):=by
  by_cases z:mx c 3%3=0
  .obtain⟨p,ep,a,b,rfl,ha,hb⟩:=Hk (Q:=λp=>∃a b:Int,p=lI [a,b]/\(2<=a/\a<=256)/\(2<=b/\b<=256)) (ws:=[lI [32,32],lI [25,41],lI [4,256],lI [205,5],lI [64,16],lI [41,25]]) (by
    intro p hp;simp only[U9,Xp,or_false] at hp;rcases hp with rfl|rfl|rfl|rfl|rfl|rfl<;>exact⟨_,_,rfl,by decide,by decide⟩) (j:=mx c 4%6) ⋯ (by simp;lia)
   exact⟨a,b,ha,hb,.inl ⟨z,ep⟩⟩
  .exact⟨2+mx c 1%39,2+mx c 2%39,by lia,by lia,.inr ⟨z,rfl,rfl⟩⟩
 obtain⟨a,b,ha,hb,ec⟩:=cnt;have fa:1<=360/a:=abj ⋯ ⋯;have fb:1<=360/b:=abj ⋯ ⋯;have sa:=Vd (mx c 5) (show 0<360/a by lia);have ta:=Vd (mx c 6) (show 0<360/b by lia);have sn:=Vk (mx c 5) (show 360/a≠0 by lia);have tn:=Vk (mx c 6) (show 360/b≠0 by lia);have ga:=abt (x:=360) (k:=a) ⋯;have gb:=abt (x:=360) (k:=b) ⋯;obtain⟨s,es⟩:∃s,s=1+mx c 5%(360/a):=⟨_,rfl⟩
 obtain⟨t,et⟩:∃t,t=1+mx c 6%(360/b):=⟨_,rfl⟩
 have a3:a*s<=360:=ZU (U7 (show s<=360/a by lia) ⋯) ga;have b3:b*t<=360:=ZU (U7 (show t<=360/b by lia) ⋯) gb;have s360:s<=360:=by
  have:1*s<=a*s:=Wg ⋯ ⋯;lia
 have t360:t<=360:=by
  have:1*t<=b*t:=Wg ⋯ ⋯;lia
 obtain⟨i0,i1⟩:=NG a b;obtain⟨j0,j1⟩:=NG s t;have k1:bC (bA 0) none (ai bU (λ_=>M.ok (.int 1)) (ai cD (ah aC (aa (ae 1) (aa (ai bU (λ_=>M.ok (.int 5)) (ae 0)) aj))) (ai cG (λ_=>M.ok (.int 360)) (ai aJ (ae 2) (ae 0))))) (([0,1]:List Int).map PV.int) [none,some (.sh (.int c)),some (.sh (lI [a,b]))]=M.ok (([0,1]:List Int).map λi=>.int (if i=0 then s else t)) :=
  eM ([0,1]:List Int) λi hi=>by
   simp only[U9,Xp,or_false] at hi;rcases hi with rfl|rfl
   .dsimp? [show (5:Int)+0=5 from rfl,m5,i0,bo (i:=360) (j:=a) ⋯ ⋯,aA (i:=mx c 5) (j:=360/a) ⋯,es]
   .dsimp? [show (5:Int)+1=6 from rfl,m6,i1,bo (i:=360) (j:=b) ⋯ ⋯,aA (i:=mx c 6) (j:=360/b) ⋯,et,show ¬ ((1:Int)=0) by decide]
 have k2:bC (bA 0) none (ai cA (ai aJ (ae 1) (ae 0)) (ai aJ (ae 2) (ae 0))) (([0,1]:List Int).map PV.int) [none,some (.sh (lI [a,b])),some (.sh (lI [s,t]))]=M.ok (([0,1]:List Int).map λi=>.int (if i=0 then a*s else b*t)) :=
  eM ([0,1]:List Int) λi hi=>by
   simp only[U9,Xp,or_false] at hi;rcases hi with rfl|rfl
   .dsimp? [i0,j0,zX (i:=a) (j:=s) ⋯ ⋯]
   .dsimp? [i1,j1,zX (i:=b) (j:=t) ⋯ ⋯,show ¬ ((1:Int)=0) by decide]
 have g2:(2:Nat)<=sizeLine:=by decide
 have k1':bC (bA 0) none (ai bU (λ_=>M.ok (.int 1)) (ai cD (ah aC (aa (ae 1) (aa (ai bU (λ_=>M.ok (.int 5)) (ae 0)) aj))) (ai cG (λ_=>M.ok (.int 360)) (ai aJ (ae 2) (ae 0))))) [.int 0,.int 1] [none,some (.sh (.int c)),some (.sh (lI [a,b]))]=M.ok [.int s,.int t]:=k1;have k2':bC (bA 0) none (ai cA (ai aJ (ae 1) (ae 0)) (ai aJ (ae 2) (ae 0))) [.int 0,.int 1] [none,some (.sh (lI [a,b])),some (.sh (lI [s,t]))]=M.ok [.int (a*s),.int (b*t)]:=k2;have r2:jq [.int 2]=M.ok [.int 0,.int 1]:=wo;have ls:PV.lst [.int s,.int t]=lI [s,t]:=rfl
 by_cases z:mx c 7%2=0
 .refine⟨a,b,s,t,[[s,t],[0,t],[0,0]],?_,⟨by lia,by lia,ha.1,hb.1,a3,b3,.inr rfl⟩⟩;unfold cW cX;rcases ec with ⟨z3,ep⟩|⟨z3,ea,eb⟩
  .dsimp? [m1,m2,aA (i:=mx c 1) (j:=39) ↑12,aA (i:=mx c 2) (j:=39) ↑12,m3,aA (i:=mx c 3) (j:=3) ↑12,z3,decide_true,m4,aA (i:=mx c 4) (j:=6) ↑12,ep,r2,aq g2,k1',ls,k2',m7,aA (i:=mx c 7) (j:=2) ↑12,z,decide_true,j0,j1];rfl
  .have lab:PV.lst [.int (2+mx c 1%39),.int (2+mx c 2%39)]=lI [a,b]:=by rw[ea,eb];rfl
   dsimp? [m1,m2,aA (i:=mx c 1) (j:=39) ↑12,aA (i:=mx c 2) (j:=39) ↑12,m3,aA (i:=mx c 3) (j:=3) ↑12,z3,decide_false,lab,r2,aq g2,k1',ls,k2',m7,aA (i:=mx c 7) (j:=2) ↑12,z,decide_true,j0,j1];rfl
 .refine⟨a,b,s,t,[[s,0],[0,-t]],?_,⟨by lia,by lia,ha.1,hb.1,a3,b3,.inl rfl⟩⟩;unfold cW cX;rcases ec with ⟨z3,ep⟩|⟨z3,ea,eb⟩
  .dsimp? [m1,m2,aA (i:=mx c 1) (j:=39) ↑12,aA (i:=mx c 2) (j:=39) ↑12,m3,aA (i:=mx c 3) (j:=3) ↑12,z3,decide_true,m4,aA (i:=mx c 4) (j:=6) ↑12,ep,r2,aq g2,k1',ls,k2',m7,aA (i:=mx c 7) (j:=2) ↑12,z,decide_false,j0,j1,Int.zero_sub];rfl
  .have lab:PV.lst [.int (2+mx c 1%39),.int (2+mx c 2%39)]=lI [a,b]:=by rw[ea,eb];rfl
   dsimp? [m1,m2,aA (i:=mx c 1) (j:=39) ↑12,aA (i:=mx c 2) (j:=39) ↑12,m3,aA (i:=mx c 3) (j:=3) ↑12,z3,decide_false,lab,r2,aq g2,k1',ls,k2',m7,aA (i:=mx c 7) (j:=2) ↑12,z,decide_false,j0,j1,Int.zero_sub];rfl
def Pe:vg (.str "setting") (.str "setting")=M.ok (.bl false):=by
 simp only[vg,o8,dat,aa6,HY];rw[aq (by decide +kernel)];show M.ok (PV.bl (!(("setting" : Str)==("setting" : Str))))=_;rw[beq_self_eq_true];rfl
def PB:uN (.str "many") (.str "many")=M.ok (.bl true):=by
 simp only[uN,o8,dat,aa6,HY];rw[aq (by decide +kernel)];show M.ok (PV.bl (("many" : Str)==("many" : Str)))=_;rw[beq_self_eq_true]
def zC{env:af}{xs:List PV}(h:xs.length<1024):C1 i env xs p=M.ok (.nx (env.set i (some (.ow (xs++[p]))))):=if_pos (U8 h ↑12)
theorem BH(c:Int):eJ [.int c]=M.ok (.bl true):=by
 obtain⟨a,b,s,t,lv,eb,W⟩:=v8 c;have s1:=W.s1;have t1:=W.t1;have a2:=W.a2;have b2:=W.b2;have a3:=W.a3;have b3:=W.b3;have as:a*1<=a*s:=U7 s1 ⋯;have bt:b*1<=b*t:=U7 t1 ⋯;have sa:1*s<=a*s:=Wg ⋯ ⋯;have tb:1*t<=b*t:=Wg ⋯ ⋯;have S:Sz [a*s,b*t]:=⟨by simp,by simp,λx hx=>by
  simp only[U9,Xp,or_false] at hx;rcases hx with rfl|rfl<;>lia⟩
 have bd:∀l∈lv,l.length=([a*s,b*t]:List Int).length/\Bd 200 l:=by
  have z:∀p q:Int,p.natAbs<1000->q.natAbs<1000->([p,q]:List Int).length=2/\Bd 200 [p,q]:=λp q hp hq=>⟨rfl,λx hx=>by
   simp only[U9,Xp,or_false] at hx;rcases hx with rfl|rfl<;>lia⟩
  rcases W.lv with rfl|rfl<;>intro l hl<;>simp only[U9,Xp,or_false] at hl
  .rcases hl with rfl|rfl<;>exact z _ _ ⋯ ⋯
  .rcases hl with rfl|rfl|rfl<;>exact z _ _ ⋯ ⋯
 obtain⟨Ls,T,Qh,Q⟩:=jO.get [] S (QA:=lv) (by rcases W.lv with rfl|rfl<;>simp) bd;obtain⟨_,e1,one,rfl,k1⟩:=qF S c 1 ↑12;obtain⟨bdp,ebd,Uj⟩:=JS (Ls:=Ls) S c;have cnt:=W.count Q;obtain⟨i0,i1⟩:=NG a b;obtain⟨j0,j1⟩:=NG s t
 match one,k1.1 with
 | [x,y],_ =>
  have x0:aJ (tI [x,y]) (.int 0)=M.ok (.int x):=bu (j:=0) rfl rfl;have y0:aJ (tI [x,y]) (.int 1)=M.ok (.int y):=bu (j:=1) rfl rfl
  by_cases h:1024<a*b
  .unfold eJ eO;dsimp? [FT,eb,E4,qH,aq (show 4=4 from rfl),Q.Mr (f:=lI) (.inr rfl) (p:=lI [a*s,b*t]) rfl,e1,ebd,vx Uj,Pe,i0,i1,zX (i:=a) (j:=b) ⋯ ⋯,decide_eq_true h,zu Q k1 (by rwa[cnt]),PB]
  .have al:=W.all Q k1 ⋯;have dl:=uX (s:=s) (t:=t) (x%s) (y%t) b.toNat;have ab:((a.toNat*b.toNat:Nat):Int)=a*b:=by rw[YF,WS ⋯,WS ⋯]
   have xs0:=Vk x (show s≠0 by lia);have xs1:=Vd x (show 0<s by lia);have ys0:=Vk y (show t≠0 by lia);have ys1:=Vd y (show 0<t by lia);have li:=sj (S:=zi (x%s) s (y%t) t a.toNat b.toNat) (by rw[dl];lia);refine kc.eq ?_;unfold eJ eO;dsimp? [FT,eb,E4,qH,aq (show 4=4 from rfl),Q.Mr (f:=lI) (.inr rfl) (p:=lI [a*s,b*t]) rfl,e1,ebd,vx Uj,Pe,i0,i1,zX (i:=a) (j:=b) ⋯ ⋯,decide_eq_false h,d_,dz (n:=a) ⋯ ⋯];refine kc.loop (xs:=Vc a.toNat) (inj:=λ(i:Nat)=>.int (i:Int)) (λzs env=>∃(i:Nat)(y8 y9:Option SV),env=[some (.sh (.int c)),some (.sh (lI [a,b])),some (.sh (lI [s,t])),some (.sh (lI [a*s,b*t])),some (.sh (.lst (lv.map lI))),some (.sh (dS [a*s,b*t] Ls)),some (.sh (tI [x,y])),some (.ow ((zi (x%s) s (y%t) t i b.toNat).map tI)),y8,y9]/\zs=(Vc a.toNat).drop i/\i<=a.toNat) ⟨0,_,_,rfl,rfl,Va _⟩ ?_ ?_
   .rintro w r env ⟨i,y8,y9,rfl,hz,_⟩;obtain⟨w1,w2,w3⟩:=drop_cons hz.symm;rw[VJ] at w1;rw[WT w1] at w2;obtain rfl:i=w:=Vf w2;dsimp? [bA,i1,dz (n:=b) ⋯ ⋯];refine kc.loop (xs:=Vc b.toNat) (inj:=λ(i:Nat)=>.int (i:Int)) (λzs env=>∃(j:Nat)(y9:Option SV),env=[some (.sh (.int c)),some (.sh (lI [a,b])),some (.sh (lI [s,t])),some (.sh (lI [a*s,b*t])),some (.sh (.lst (lv.map lI))),some (.sh (dS [a*s,b*t] Ls)),some (.sh (tI [x,y])),some (.ow ((zi (x%s) s (y%t) t i b.toNat++(Vc j).map λ(j:Nat)=>[x%s+(i:Int)*s,y%t+(j:Int)*t]).map tI)),some (.sh (.int (i:Int))),y9]/\zs=(Vc b.toNat).drop j/\j<=b.toNat) ⟨0,_,by rw[List.range_zero,Xh,VT],rfl,Va _⟩ ?_ ?_
    .rintro v r2 env ⟨j,y9,rfl,Sq,_⟩;obtain⟨v1,v2,v3⟩:=drop_cons Sq.symm;rw[VJ] at v1;rw[WT v1] at v2;obtain rfl:j=v:=Vf v2;have ln:((zi (x%s) s (y%t) t i b.toNat++(Vc j).map λ(j:Nat)=>[x%s+(i:Int)*s,y%t+(j:Int)*t]).map tI).length<1024:=by
      rw[U0,Vb,dl,U0,VJ];have:(i+1)*b.toNat<=a.toNat*b.toNat:=Xb _ w1;rw[Yo] at this;lia
     dsimp? [bA,x0,y0,j0,j1,aA (i:=x) (j:=s) ⋯,aA (i:=y) (j:=t) ⋯,zX (i:=(i:Int)) (j:=s) ⋯ ⋯,zX (i:=(j:Int)) (j:=t) ⋯ ⋯,je,ownAt,zC ln];refine⟨_,rfl,j+1,some (.sh (.int (j:Int))),?_,v3.symm,v1⟩;simp only[YG,WH,VG,Vg,Xh];rfl
    .rintro env ⟨j,y9,rfl,Sq,hj⟩;have hj2:b.toNat<=j:=by
      have:=congrArg WJ Sq;rw[V2,VJ] at this;simp at this;lia
     obtain rfl:j=b.toNat:=by lia
     dsimp? [];refine⟨_,rfl,i+1,some (.sh (.int (i:Int))),y9,?_,w3.symm,w1⟩;rw[show zi (x%s) s (y%t) t (i+1) b.toNat=zi (x%s) s (y%t) t i b.toNat++(Vc b.toNat).map λ(j:Nat)=>[x%s+(i:Int)*s,y%t+(j:Int)*t] by unfold zi;rw[YG,ZO];simp]
   .rintro env ⟨i,y8,y9,rfl,hz,hi⟩;have hi2:a.toNat<=i:=by
     have:=congrArg WJ hz;rw[V2,VJ] at this;simp at this;lia
    obtain rfl:i=a.toNat:=by lia
    dsimp? [jD,al,li];exact⟨_,rfl,rfl⟩
def Jj(b:Bool):CF (M.ok b)=M.ok b:=Vz rfl rfl
theorem K8(ns:List Int)(hb:∀i∈ns,Wl i<=1048576):sx [.jN (ns.map PV.int)]=M.ok (.bl true):=by
 obtain⟨c0,ec,bc⟩:=mV ns hb 0;obtain⟨c1,ec1,_⟩:=mV ns hb 1;rw[show ((0:Nat):Int)=0 from rfl] at ec;rw[show ((1:Nat):Int)=1 from rfl] at ec1;obtain⟨_,es,Qf,rfl,S,hp⟩:=AM c0 (N:=c0.natAbs) (BC bc ↑12) (UZ _);have l6:=S.h6;have l1:=S.h1;obtain⟨em,m0,m1⟩:=vi c1 1 ↑12;obtain⟨n,hn⟩:=Wh (show 0<=mx c1 1%9 by lia);have n8:n<=8:=by lia
 obtain⟨f,hf⟩:=Classical.axiomOfChoice (r:=λ(i:Nat) (l:List Int)=>(∃c,cq [.jN (ns.map PV.int),.int (2+(i:Int))]=M.ok (.int c)/\dF [.int c,lI Qf]=M.ok (lI l))/\l.length=Qf.length/\Bd 200 l) λi=>by
  obtain⟨c,e,_⟩:=mV ns hb (2+i);rw[show ((2+i:Nat):Int)=2+(i:Int) by lia] at e;obtain⟨_,el,l,rfl,h1,h2⟩:=Dx S c;exact⟨l,⟨c,e,el⟩,h1,h2⟩
 let QA:=(Vc n).map f
 have hr:∀l∈QA,l.length=Qf.length/\Bd 200 l:=λl hl=>by
  obtain⟨i,_,rfl⟩:=VI.mp hl;exact(hf i).2
 have rl:QA.length=n:=by simp[QA]
 obtain⟨Ls,T,Qh,Q⟩:=jO.get ns S (QA:=QA) ⋯ hr;have ll:Ls.length=n:=Q.hm.symm.trans rl;have m8:=Q.m8;have kl:bC (bA 0) none (ah dF (aa (ah cq (aa (ae 1) (aa (ai bU (λ_=>M.ok (.int 2)) (ae 0)) aj))) (aa (ae 2) aj))) ((Vc n).map λ(i:Nat)=>.int (i:Int)) [none,some (.sh (.jN (ns.map PV.int))),some (.sh (lI Qf))]=M.ok (QA.map lI):=by
  rw[show QA.map lI=(Vc n).map λi=>lI (f i) by simp[QA]];refine eM (inj:=λ(i:Nat)=>PV.int (i:Int)) (Vc n) λi hi=>?_;obtain⟨c,e,el⟩:=(hf i).1;dsimp? [e,el]
 have kk:bC (bA 0) none (ah fO (aa (ae 0) (aa (ae 1) aj))) (QA.map lI) [none,some (.sh (lI Qf))]=M.ok (Ls.map tI):=by
  rw[Q.eL,show (QA.map λl=>vk l Qf).map tI=QA.map λl=>tI (vk l Qf) by rw[VB];rfl];refine eM (inj:=lI) QA λl hl=>?_;dsimp? [Fi S (hr l hl).1]
 have zr:(Vc n).length<=sizeLine:=by rw[VJ];exact aX ⋯
 have zl:QA.length<=sizeLine:=by rw[rl];exact aX ⋯
 have cs:Lu (.jN (ns.map PV.int)) (some 10) (some 18)=M.ok (.lst ((yz ns 10 18).map PV.int)):=F6 ns 10 18;have gr:=Cv Q hp;have dm:=Ek Q hp;obtain⟨d1,d2,d3⟩:=iM Q hp Ls.length (UZ _);obtain⟨b1,b2⟩:=qe Q hp Ls.length (UZ _);have cl:=λ{o:List Int} (z:Kp Qf o)=>xV Q hp z;generalize hD:Dl Qf Ls Qh Ls.length=D at *;have kD:∀g∈D,Kp Qf g:=λg hg=>((dm g).mp hg).1;have i0:aJ (.lst [.rf (ot D),lI (rh Qh)]) (.int 0)=M.ok (.rf (ot D)):=bu (j:=0) rfl rfl;have zD:(D.map λg=>tI g).length<=sizeLine:=by rw[U0];exact pH ⋯
 refine kc.eq ?_;unfold sx EG;dsimp? [ec,es,ec1,em,aA (i:=mx c1 1) (j:=9) ↑12,hn,dz (n:=(n:Int)) ⋯ ⋯,VE,U0,aq zr,kl,show PV.tup (Qf.map PV.int)=tI Qf from rfl,Q.Mr (f:=lI) (.inr rfl) (p:=tI Qf) rfl,aq zl,kk,gr,i0,jS,iT,Jl,cs];refine kc.loop (xs:=yz ns 10 18) (inj:=PV.int) (λzs env=>∃y6 y7 y8 y9,env=[some (.sh (.jN (ns.map PV.int))),some (.sh (lI Qf)),some (.sh (.int (n:Int))),some (.sh (.lst (QA.map lI))),some (.sh (dS Qf Ls)),some (.sh (.rf (ot D))),y6,y7,y8,y9]) ⟨_,_,_,_,rfl⟩ ?_ ?_
 .rintro a r env ⟨y6,y7,y8,y9,rfl⟩;obtain⟨_,e1,one,rfl,k1⟩:=qF S a 1 ↑12;have ks:bC (bA 0) none (ah cT (aa (ae 2) (aa (ae 0) (aa (ae 1) aj)))) (D.map tI) [none,some (.sh (lI Qf)),some (.sh (tI one))]=M.ok (D.map λg=>tI (sm Qf one g)) :=
   eM D λg hg=>by dsimp? [ub S]
  have zD1:D.length<=sizeLine:=pH ⋯;have l1':=cl k1;generalize hM:D.map (λg=>sm Qf one g)=MM at *;have ks':bC (bA 0) none (ah cT (aa (ae 2) (aa (ae 0) (aa (ae 1) aj)))) (D.map tI) [none,some (.sh (lI Qf)),some (.sh (tI one))]=M.ok (MM.map tI):=by
   rw[ks,<- hM,VB];rfl
  have lM:MM.length=D.length:=by rw[<- hM,U0]
  have so:vX [.lst (MM.map tI)]=M.ok (.lst ((eV MM).map tI)):=by
   simp only[vX];rw[qd MM λx hx=>by
    rw[<- hM] at hx;obtain⟨g,hg,rfl⟩:=VI.mp hx;have:=(dI S k1.1 (kD g hg).1).1.1;intro e;rw[e] at this;simp at this;lia]
   rfl
  have lL:(eV MM).length<=1024:=by rw[(fP MM).length_eq];lia
  have li:=sj lL;generalize eV MM=L at *;have nl:vg (.lst (L.map tI)) (.lst (L.map tI))=M.ok (.bl false):=by rw[sG];simp
  have dk:Hu (.rf (ot D))=M.ok (D.map tI):=by show M.ok (pT (ot D))=_;rw[sQ]
  dsimp? [bA,e1,keysOf,dk,U0,aq zD1,ks',so,jD,l1',CM,ownAt,li,Jj,Ka,nl];exact⟨_,rfl,_,_,_,_,rfl⟩
 rintro env ⟨y6,y7,y8,y9,rfl⟩;dsimp? [ec,BH c0];exact⟨_,rfl,rfl⟩
end wV
theorem PySem.Challenge.cw_dialvault_k32_all_that_belong_together_holds : PySem.Challenge.rw_dialvault_k32_all_that_belong_together.Holds :=
  wV.hold HD.said λns _ hb => wV.K8 ns hb
end